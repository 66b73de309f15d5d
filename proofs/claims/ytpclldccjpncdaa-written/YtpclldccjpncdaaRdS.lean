import Derived.Test.YtpclldccjpncdaaRefRd
import Derived.Test.YtpclldccjpncdaaRefWr
import Derived.Test.YtpclldccjpncdaaDecR
namespace Go.Proofs.Ytpclldccjpncdaa
open Go.RowKit

/-! what rules tell, at all texts -/
/-- the first place from i on that is no space -/
def skp (s : ByteArray) (i : Nat) : Nat := if i < s.size ∧ bt s i = 32 then skp s (i + 1) else i
termination_by s.size - i
theorem skp_sp {s : ByteArray} {i : Nat} (h : i < s.size ∧ bt s i = 32) : skp s i = skp s (i + 1) := by rw [skp, if_pos h]
theorem skp_no {s : ByteArray} {i : Nat} (h : ¬ (i < s.size ∧ bt s i = 32)) : skp s i = i := by rw [skp, if_neg h]
theorem skp_all (s : ByteArray) : ∀ k i, s.size - i ≤ k → i ≤ skp s i ∧ (i ≤ s.size → skp s i ≤ s.size) ∧ ¬ (skp s i < s.size ∧ bt s (skp s i) = 32)
  | 0, i, h => by
    have hn : ¬ (i < s.size ∧ bt s i = 32) := fun hh => by omega
    rw [skp_no hn]
    exact ⟨Nat.le_refl _, id, hn⟩
  | k + 1, i, h => by
    by_cases hn : i < s.size ∧ bt s i = 32
    · obtain ⟨a, b, c⟩ := skp_all s k (i + 1) (by omega)
      rw [skp_sp hn]
      exact ⟨by omega, fun _ => b (by omega), c⟩
    · rw [skp_no hn]
      exact ⟨Nat.le_refl _, id, hn⟩
theorem skp_ge (s : ByteArray) (i : Nat) : i ≤ skp s i := (skp_all s _ i (Nat.le_refl _)).1
theorem skp_le {s : ByteArray} {i : Nat} (h : i ≤ s.size) : skp s i ≤ s.size := (skp_all s _ i (Nat.le_refl _)).2.1 h
theorem skp_stop (s : ByteArray) (i : Nat) : ¬ (skp s i < s.size ∧ bt s (skp s i) = 32) := (skp_all s _ i (Nat.le_refl _)).2.2
theorem skp_skp (s : ByteArray) (i : Nat) : skp s (skp s i) = skp s i := skp_no (skp_stop s i)

/-! parts -/
theorem prt_all (s : ByteArray) : ∀ k i, i ≤ s.size → i ≤ (prt s k i).2 ∧ (prt s k i).2 ≤ s.size ∧ (prt s k i).1.length ≤ (prt s k i).2 - i ∧ (∀ x ∈ (prt s k i).1, 0 ≤ x ∧ x ≤ 255) ∧ ((prt s k i).1 = [] ↔ (prt s k i).2 = i)
  | 0, i, h => by simp [prt, h]
  | k + 1, i, h => by
    unfold prt
    cases hp : pch s i with
    | none => simp [h]
    | some x =>
      obtain ⟨c, j⟩ := x
      obtain ⟨l1, l2, l3, l4, l5⟩ := pch_lt hp
      obtain ⟨a, b, d, e, _⟩ := prt_all s k j l3
      simp only
      refine ⟨by omega, b, by simp; omega, fun x hx => ?_, ?_⟩
      · rcases List.mem_cons.1 hx with rfl | hx
        · exact ⟨l4, l5⟩
        · exact e x hx
      · constructor
        · intro hh; cases hh
        · intro hh; omega
theorem part_ge {s : ByteArray} {i : Nat} (h : i ≤ s.size) : i ≤ (part s i).2 := (prt_all s _ i h).1
theorem part_le {s : ByteArray} {i : Nat} (h : i ≤ s.size) : (part s i).2 ≤ s.size := (prt_all s _ i h).2.1
theorem part_len {s : ByteArray} {i : Nat} (h : i ≤ s.size) : (part s i).1.length ≤ (part s i).2 - i := (prt_all s _ i h).2.2.1
theorem part_nil {s : ByteArray} {i : Nat} (h : i ≤ s.size) : (part s i).1 = [] ↔ (part s i).2 = i := (prt_all s _ i h).2.2.2.2

/-! tokens -/
/-- the text u stands at a -/
def hasB (s : ByteArray) (a : Nat) (u : ByteArray) : Prop := a + u.size ≤ s.size ∧ sub s a u.size = u
instance (s : ByteArray) (a : Nat) (u : ByteArray) : Decidable (hasB s a u) := by unfold hasB; infer_instance
theorem bt_ext {a b : ByteArray} (hs : a.size = b.size) (h : ∀ k, k < a.size → bt a k = bt b k) : a = b := by
  refine ByteArray.ext (Array.ext hs fun i h1 h2 => ?_)
  have := h i h1
  rw [bt_in (s := a) h1, bt_in (s := b) h2] at this
  exact UInt8.toNat_inj.1 this
theorem hasB_iff {s : ByteArray} {a : Nat} {u : ByteArray} : hasB s a u ↔ a + u.size ≤ s.size ∧ ∀ k, k < u.size → bt s (a + k) = bt u k := by
  constructor
  · rintro ⟨h1, h2⟩
    refine ⟨h1, fun k hk => ?_⟩
    rw [← bt_sub h1 hk, h2]
  · rintro ⟨h1, h2⟩
    have hz := sub_size s a u.size h1
    refine ⟨h1, bt_ext hz fun k hk => ?_⟩
    rw [hz] at hk
    rw [bt_sub h1 hk]
    exact h2 k hk
/-- how many signs of less stand there: 1 to 3 -/
def lessN (s : ByteArray) (a : Nat) : Nat := if bt s (a + 1) = 60 then (if bt s (a + 2) = 60 then 3 else 2) else 1
theorem lessN_le (s : ByteArray) (a : Nat) : 1 ≤ lessN s a ∧ lessN s a ≤ 3 := by unfold lessN; split <;> (try split) <;> omega
theorem bt_pos {s : ByteArray} {p : Nat} (h : bt s p ≠ 0) : p < s.size := by
  by_cases hp : p < s.size
  · exact hp
  · exact absurd (bt_out (by omega)) h
theorem lessN_in {s : ByteArray} {a : Nat} (h : a < s.size) : a + lessN s a ≤ s.size := by
  unfold lessN
  split
  · next h1 =>
    have := bt_pos (s := s) (p := a + 1) (by omega)
    split
    · next h2 =>
      have := bt_pos (s := s) (p := a + 2) (by omega)
      omega
    · omega
  · omega
/-- which before-token stands there, 0: none -/
def befN (s : ByteArray) (a : Nat) : Nat := if hasB s a (strOfNums (beN 1)) then 1 else if hasB s a (strOfNums (beN 2)) then 2 else if hasB s a (strOfNums (beN 3)) then 3 else 0
theorem befN_le (s : ByteArray) (a : Nat) : befN s a ≤ 3 := by unfold befN; split <;> (try split) <;> (try split) <;> omega
theorem befN_in {s : ByteArray} {a : Nat} (h : befN s a ≠ 0) : a + 10 ≤ s.size := by
  unfold befN at h
  split at h
  · next h1 => exact h1.1
  · split at h
    · next h1 => exact h1.1
    · split at h
      · next h1 => exact h1.1
      · exact absurd rfl h
structure Tk where
  kind : Nat
  n : Nat
  tx : List Int
  at' : Nat
  fin : Nat
/-- the token that begins just there -/
def tkA (s : ByteArray) (a : Nat) : Tk :=
  if s.size ≤ a then ⟨7, 0, [], a, a⟩
  else if bt s a = 38 then ⟨1, 0, [], a, a + 1⟩
  else if bt s a = 47 then ⟨4, 0, [], a, a + 1⟩
  else if bt s a = 61 then ⟨3, 0, [], a, a + 1⟩
  else if bt s a = 60 then ⟨3, lessN s a, [], a, a + lessN s a⟩
  else if bt s a = 91 then (if befN s a = 0 then ⟨6, 0, [], a, a + 1⟩ else ⟨2, befN s a, [], a, a + 10⟩)
  else if (part s a).2 = a then ⟨6, 0, [], a, a + 1⟩ else ⟨5, 0, (part s a).1, a, (part s a).2⟩
def tk (s : ByteArray) (i : Nat) : Tk := tkA s (skp s i)
theorem tk_skp (s : ByteArray) (i : Nat) : tk s (skp s i) = tk s i := by unfold tk; rw [skp_skp]
theorem tkA_at (s : ByteArray) (a : Nat) : (tkA s a).at' = a := by
  unfold tkA
  repeat' split
  all_goals rfl
theorem tk_at (s : ByteArray) (i : Nat) : (tk s i).at' = skp s i := tkA_at s _
theorem tkA_kind (s : ByteArray) (a : Nat) : (tkA s a).kind = 1 ∨ (tkA s a).kind = 2 ∨ (tkA s a).kind = 3 ∨ (tkA s a).kind = 4 ∨ (tkA s a).kind = 5 ∨ (tkA s a).kind = 6 ∨ (tkA s a).kind = 7 := by
  unfold tkA
  repeat' split
  all_goals simp
theorem tkA_end {s : ByteArray} {a : Nat} : (tkA s a).kind = 7 ↔ s.size ≤ a := by
  unfold tkA
  constructor
  · intro h
    by_cases hs : s.size ≤ a
    · exact hs
    · rw [if_neg hs] at h
      repeat' split at h
      all_goals (exact absurd h (by simp))
  · intro h
    rw [if_pos h]
theorem tkA_to {s : ByteArray} {a : Nat} (h : (tkA s a).kind ≠ 7) : a < (tkA s a).fin ∧ (tkA s a).fin ≤ s.size ∧ a < s.size := by
  have hlt : a < s.size := by
    have := (not_congr (tkA_end (s := s) (a := a))).1 h
    omega
  have hl := lessN_le s a
  have hi := lessN_in hlt
  refine ⟨?_, ?_, hlt⟩
  · unfold tkA
    rw [if_neg (by omega)]
    repeat' split
    all_goals first
      | (show a < a + _; omega)
      | (show a < (part s a).2; have := part_ge (s := s) (i := a) (by omega); omega)
  · unfold tkA
    rw [if_neg (by omega)]
    repeat' split
    all_goals first
      | (show a + 1 ≤ _; omega)
      | (show a + lessN s a ≤ _; omega)
      | (show a + 10 ≤ _; exact befN_in (by assumption))
      | (show (part s a).2 ≤ _; exact part_le (by omega))
theorem tkA_tx {s : ByteArray} {a : Nat} (h : (tkA s a).kind ≠ 5) : (tkA s a).tx = [] := by
  revert h
  unfold tkA
  repeat' split
  all_goals intro h; first | rfl | exact absurd rfl h
theorem tkA_len {s : ByteArray} {a : Nat} : (tkA s a).tx.length ≤ s.size := by
  unfold tkA
  repeat' split
  all_goals first
    | (simp; done)
    | (show (part s a).1.length ≤ _; have := part_len (s := s) (i := a) (by omega); have := part_le (s := s) (i := a) (by omega); omega)
theorem tkA_n (s : ByteArray) (a : Nat) : (tkA s a).n ≤ 3 := by
  have hl := lessN_le s a
  have hb := befN_le s a
  unfold tkA
  repeat' split
  all_goals first
    | (show 0 ≤ _; omega)
    | (show lessN s a ≤ _; omega)
    | (show befN s a ≤ _; omega)
theorem tk_to {s : ByteArray} {i : Nat} (h : (tk s i).kind ≠ 7) : i < (tk s i).fin ∧ (tk s i).fin ≤ s.size ∧ i < s.size := by
  obtain ⟨a, b, c⟩ := tkA_to (s := s) (a := skp s i) h
  have := skp_ge s i
  exact ⟨by show i < (tkA s (skp s i)).fin; omega, b, by omega⟩
theorem tk_tx {s : ByteArray} {i : Nat} (h : (tk s i).kind ≠ 5) : (tk s i).tx = [] := tkA_tx h

/-! reading, from state to state -/
/-- which state a token leads to -/
def thn (st k : Nat) : Option Nat :=
  if k = 1 then (if st = 0 ∨ st = 5 ∨ st = 7 then some 1 else none)
  else if k = 2 then (if st = 1 then some 2 else none)
  else if k = 3 then (if st = 3 ∨ st = 5 ∨ st = 7 then some 4 else none)
  else if k = 4 then (if st = 5 then some 6 else none)
  else if k = 7 then (if st = 0 ∨ st = 5 ∨ st = 7 then some 8 else none)
  else if k = 5 then (if st = 1 ∨ st = 2 then some 3 else if st = 4 then some 5 else if st = 6 then some 7 else none)
  else none
structure St where
  st : Nat
  i : Nat
  nx : Rl
  out : List Rl
def setMore (l : List Rl) (m : ByteArray) : List Rl := l.dropLast ++ (match l.getLast? with | none => [] | some x => [{ x with more := m }])
/-- behind a token -/
def adv (S : St) (st' : Nat) (t : Tk) : St :=
  if st' = 2 then ⟨st', t.fin, { S.nx with before := (t.n : Int) }, S.out⟩
  else if st' = 3 then ⟨st', t.fin, { S.nx with reset := strOfNums t.tx }, S.out⟩
  else if st' = 4 then ⟨st', t.fin, { S.nx with level := (t.n : Int) }, S.out⟩
  else if st' = 5 then ⟨st', t.fin, default, S.out ++ [{ S.nx with text := strOfNums t.tx }]⟩
  else if st' = 7 then ⟨st', t.fin, S.nx, setMore S.out (strOfNums t.tx)⟩
  else ⟨st', t.fin, S.nx, S.out⟩
theorem adv_i (S : St) (st' : Nat) (t : Tk) : (adv S st' t).i = t.fin := by
  unfold adv
  repeat' split
  all_goals rfl
def lim (st' : Nat) : Nat := if st' = 5 then 3 else 6
def rd (s : ByteArray) (S : St) : List Rl × Int × Nat :=
  match thn S.st (tk s S.i).kind with
  | none => ([], 8, (tk s S.i).at')
  | some st' =>
    if lim st' < (tk s S.i).tx.length then ([], 9, (tk s S.i).at')
    else if st' = 8 then (S.out, 0, 0)
    else if _h : S.i < (tk s S.i).fin ∧ S.i < s.size then rd s (adv S st' (tk s S.i)) else (S.out, 0, 0)
termination_by s.size - S.i
decreasing_by rw [adv_i]; omega
theorem rd_bad {s : ByteArray} {S : St} (h : thn S.st (tk s S.i).kind = none) : rd s S = ([], 8, (tk s S.i).at') := by rw [rd, h]
theorem rd_part {s : ByteArray} {S : St} {st' : Nat} (h : thn S.st (tk s S.i).kind = some st') (hl : lim st' < (tk s S.i).tx.length) : rd s S = ([], 9, (tk s S.i).at') := by rw [rd, h]; simp only; rw [if_pos hl]
theorem thn_end {st k : Nat} (h : thn st k = some 8) : k = 7 := by
  unfold thn at h
  repeat' split at h
  all_goals first
    | assumption
    | (exact absurd h (by simp))
theorem thn_go {st k st' : Nat} (h : thn st k = some st') (h8 : st' ≠ 8) : k ≠ 7 ∧ k ≠ 6 ∧ 1 ≤ k := by
  unfold thn at h
  repeat' split at h
  all_goals first
    | (injection h with h; subst h; first | (exact absurd rfl h8) | (refine ⟨?_, ?_, ?_⟩ <;> omega))
    | (cases h; done)
theorem rd_end {s : ByteArray} {S : St} (h : thn S.st (tk s S.i).kind = some 8) : rd s S = (S.out, 0, 0) := by
  have hk := thn_end h
  rw [rd, h]
  simp only
  rw [tk_tx (by rw [hk]; decide), if_neg (by simp), if_pos trivial]
theorem rd_step {s : ByteArray} {S : St} {st' : Nat} (h : thn S.st (tk s S.i).kind = some st') (hl : ¬ lim st' < (tk s S.i).tx.length) (h8 : st' ≠ 8) : rd s S = rd s (adv S st' (tk s S.i)) := by
  obtain ⟨k7, _, _⟩ := thn_go h h8
  obtain ⟨t1, t2, t3⟩ := tk_to (s := s) (i := S.i) k7
  rw [rd, h]
  simp only
  rw [if_neg hl, if_neg h8, dif_pos ⟨t1, t3⟩]
/-- what Read gives -/
def rdAll (s : ByteArray) : List Rl × Int × Nat := if 120 < s.size then ([], 4, 0) else rd s ⟨0, 0, default, []⟩

end Go.Proofs.Ytpclldccjpncdaa
