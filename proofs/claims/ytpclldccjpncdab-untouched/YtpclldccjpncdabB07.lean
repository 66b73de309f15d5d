import Derived.Test.YtpclldccjpncdabB06
import Derived.Deep.Cut
import Derived.Deep.CutRange
import Derived.Deep.DeepCutAuto
namespace Go.Proofs.Ytpclldccjpncdab
open Go.RowKit

def sgN : Nat → List Int
  | 0 => [61]
  | 1 => [60]
  | 2 => [60, 60]
  | _ => [60, 60, 60]
def beN : Nat → List Int
  | 0 => []
  | 1 => [91, 98, 101, 102, 111, 114, 101, 32, 49, 93]
  | 2 => [91, 98, 101, 102, 111, 114, 101, 32, 50, 93]
  | _ => [91, 98, 101, 102, 111, 114, 101, 32, 51, 93]
theorem sgN_len (n : Nat) : (sgN n).length ≤ 3 := by unfold sgN; split <;> simp
theorem beN_len (n : Nat) : (beN n).length ≤ 10 := by unfold beN; split <;> simp
def rt1 (x : Rl) : List Int := if x.reset.size = 0 then [] else [38] ++ beN x.before.toNat ++ quo (blC x.reset)
def rt2 (x : Rl) : List Int := sgN x.level.toNat ++ quo (blC x.text)
def rt3 (x : Rl) : List Int := if x.more.size = 0 then [] else [47] ++ quo (blC x.more)
/-- a rule as it is written -/
def rtx (x : Rl) : List Int := rt1 x ++ rt2 x ++ rt3 x
def rls (f : Nat → Rl) (n : Nat) : List Int := (List.range n).flatMap fun i => rtx (f i)
theorem rls_snoc (f : Nat → Rl) (n : Nat) : rls f (n + 1) = rls f n ++ rtx (f n) := by simp [rls, List.range_succ]
theorem rtx_len {x : Rl} (h : x.ok) : (rt1 x).length ≤ 23 ∧ (rt2 x).length ≤ 9 ∧ (rt3 x).length ≤ 13 := by
  obtain ⟨⟨_, h1⟩, h2, h3, _⟩ := h
  have q1 := quo_len (blC x.reset)
  have q2 := quo_len (blC x.text)
  have q3 := quo_len (blC x.more)
  rw [blC_len] at q1 q2 q3
  have s1 := sgN_len x.level.toNat
  have s2 := beN_len x.before.toNat
  refine ⟨?_, ?_, ?_⟩
  · unfold rt1; split <;> simp <;> omega
  · unfold rt2; simp; omega
  · unfold rt3; split <;> simp <;> omega
def Rl.first (x : Rl) (i : Nat) : Prop := x.ok ∧ (i = 0 → x.reset.size ≠ 0)
theorem rls_len {f : Nat → Rl} : ∀ n, (∀ i, i < n → (f i).ok) → (rls f n).length ≤ n * 45
  | 0, _ => by simp [rls]
  | n + 1, h => by
    have h1 := rls_len n fun i hi => h i (by omega)
    obtain ⟨a, b, c⟩ := rtx_len (h n (by omega))
    rw [rls_snoc, List.length_append, rtx, List.length_append, List.length_append]
    omega
open Classical in
noncomputable def wrE (f : Nat → Rl) (n : Nat) : Int := if ∀ i, i < n → (f i).first i then (if 120 < (rls f n).length then 4 else 0) else 8
noncomputable def wrV (f : Nat → Rl) (n : Nat) : ByteArray := if wrE f n = 0 then strOfNums (rls f n) else { data := #[] }
theorem wr_bad {f : Nat → Rl} {n i : Nat} (hi : i < n) (h : ¬ (f i).first i) : wrE f n = 8 ∧ wrV f n = { data := #[] } := by
  have h8 : wrE f n = 8 := by unfold wrE; rw [if_neg fun H => h (H i hi)]
  refine ⟨h8, ?_⟩
  unfold wrV
  rw [h8]
  rfl
theorem wr_long {f : Nat → Rl} {n : Nat} (h : ∀ i, i < n → (f i).first i) (hl : 120 < (rls f n).length) : wrE f n = 4 ∧ wrV f n = { data := #[] } := by
  have h4 : wrE f n = 4 := by unfold wrE; rw [if_pos h, if_pos hl]
  refine ⟨h4, ?_⟩
  unfold wrV
  rw [h4]
  rfl
theorem wr_ok {f : Nat → Rl} {n : Nat} (h : ∀ i, i < n → (f i).first i) (hl : ¬ 120 < (rls f n).length) : wrE f n = 0 ∧ wrV f n = strOfNums (rls f n) := by
  have h0 : wrE f n = 0 := by unfold wrE; rw [if_pos h, if_neg hl]
  refine ⟨h0, ?_⟩
  unfold wrV
  rw [h0]
  rfl

end Go.Proofs.Ytpclldccjpncdab

namespace Go.Proofs.Ytpclldccjpncdab
open Go.RowKit

def ndL (s : ByteArray) (k : Nat) : List Value := (List.range k).flatMap fun i => [.int .i64 (dp s i), .int .i64 (ds s i), .int .i64 (dt s i)]
theorem ndL_snoc (s : ByteArray) (k : Nat) : ndL s (k + 1) = ndL s k ++ [.int .i64 (dp s k), .int .i64 (ds s k), .int .i64 (dt s k)] := by simp [ndL, List.range_succ]
theorem bt_sub {s : ByteArray} {p h q : Nat} (hp : p + h ≤ s.size) (hq : q < h) : bt (sub s p h) q = bt s (p + q) := by
  rw [bt_in (by rw [sub_size _ _ _ hp]; exact hq), bt_in (by omega)]
  simp [sub, ByteArray.getElem_extract]
theorem nodes3_sub {s : ByteArray} (n : Nat) (h : 1 + n * 3 ≤ s.size) : ∀ k, k ≤ n → nodes3 (sub s 1 (n * 3)) k = ndL s k
  | 0, _ => rfl
  | k + 1, hk => by
    rw [nodes3_snoc, ndL_snoc, nodes3_sub n h k (by omega), bt_sub h (by omega), bt_sub h (by omega), bt_sub h (by omega)]
    rfl

/-- a table that was read, in lists of one's own -/
structure Told (s : ByteArray) (B : Nat) (vn ve : Value) (vs : Nat → Option Addr) (cs : Nat → Nat) (w : World) : Prop where
  nodes : w.ownsRow B 60 3 vn (dn s) (ndL s (dn s))
  row : w.ownsRow B 41 2 ve (dm s) (entC (dtx s) (dk s) vs cs (dm s))
  ents : EntsO B (dk s) (dz s) (dm s) vs cs w
theorem Told.only {s : ByteArray} {B g : Nat} {vn ve : Value} {vs : Nat → Option Addr} {cs : Nat → Nat} {w w' : World} (h : Told s B vn ve vs cs w) (hO : OnlyRow g w w') (hg : g < B) : Told s B vn ve vs cs w' := by
  refine ⟨own_only hO h.nodes fun e => ?_, own_only hO h.row fun e => ?_, fun j hj => own_only hO (h.ents.own j hj) fun e => ?_, h.ents.apart⟩
  · have := (ownC_lt h.nodes e).2; omega
  · have := (ownC_lt h.row e).2; omega
  · have := (ownC_lt (h.ents.own j hj) e).2; omega
theorem Told.base {s : ByteArray} {B B' : Nat} {vn ve : Value} {vs : Nat → Option Addr} {cs : Nat → Nat} {w : World} (h : Told s B vn ve vs cs w) (hB : B' ≤ B) : Told s B' vn ve vs cs w := ⟨ownC_base h.nodes hB, ownC_base h.row hB, h.ents.base hB⟩
theorem Told.below {s : ByteArray} {B : Nat} {vn ve : Value} {vs : Nat → Option Addr} {cs : Nat → Nat} {w w' : World} (h : Told s B vn ve vs cs w) (hb : Below w.heap.size w w') : Told s B vn ve vs cs w' := ⟨ownC_below h.nodes hb, ownC_below h.row hb, h.ents.below hb⟩

end Go.Proofs.Ytpclldccjpncdab

namespace Go.Proofs.Ytpclldccjpncdab
open Go.RowKit

/-! what rules tell, at all texts -/
/-- the first place from i on that is no space -/
def skp (s : ByteArray) (i : Nat) : Nat := if i < s.size ∧ bt s i = 32 then skp s (i + 1) else i
termination_by s.size - i
theorem skp_sp {s : ByteArray} {i : Nat} (h : i < s.size ∧ bt s i = 32) : skp s i = skp s (i + 1) := by rw [skp, if_pos h]
theorem skp_no {s : ByteArray} {i : Nat} (h : ¬ (i < s.size ∧ bt s i = 32)) : skp s i = i := by rw [skp, if_neg h]
theorem skp_all (s : ByteArray) : ∀ k i, s.size - i ≤ k → i ≤ skp s i ∧ (i ≤ s.size → skp s i ≤ s.size) ∧ ¬ (skp s i < s.size ∧ bt s (skp s i) = 32)
  | 0, i, h => by
    have hn : ¬ (i < s.size ∧ bt s i = 32) := fun hh => by omega
    rw [skp_no hn]
    exact ⟨Nat.le_refl _, id, hn⟩
  | k + 1, i, h => by
    by_cases hn : i < s.size ∧ bt s i = 32
    · obtain ⟨a, b, c⟩ := skp_all s k (i + 1) (by omega)
      rw [skp_sp hn]
      exact ⟨by omega, fun _ => b (by omega), c⟩
    · rw [skp_no hn]
      exact ⟨Nat.le_refl _, id, hn⟩
theorem skp_ge (s : ByteArray) (i : Nat) : i ≤ skp s i := (skp_all s _ i (Nat.le_refl _)).1
theorem skp_le {s : ByteArray} {i : Nat} (h : i ≤ s.size) : skp s i ≤ s.size := (skp_all s _ i (Nat.le_refl _)).2.1 h
theorem skp_stop (s : ByteArray) (i : Nat) : ¬ (skp s i < s.size ∧ bt s (skp s i) = 32) := (skp_all s _ i (Nat.le_refl _)).2.2
theorem skp_skp (s : ByteArray) (i : Nat) : skp s (skp s i) = skp s i := skp_no (skp_stop s i)

/-! parts -/
theorem prt_all (s : ByteArray) : ∀ k i, i ≤ s.size → i ≤ (prt s k i).2 ∧ (prt s k i).2 ≤ s.size ∧ (prt s k i).1.length ≤ (prt s k i).2 - i ∧ (∀ x ∈ (prt s k i).1, 0 ≤ x ∧ x ≤ 255) ∧ ((prt s k i).1 = [] ↔ (prt s k i).2 = i)
  | 0, i, h => by simp [prt, h]
  | k + 1, i, h => by
    unfold prt
    cases hp : pch s i with
    | none => simp [h]
    | some x =>
      obtain ⟨c, j⟩ := x
      obtain ⟨l1, l2, l3, l4, l5⟩ := pch_lt hp
      obtain ⟨a, b, d, e, _⟩ := prt_all s k j l3
      simp only
      refine ⟨by omega, b, by simp; omega, fun x hx => ?_, ?_⟩
      · rcases List.mem_cons.1 hx with rfl | hx
        · exact ⟨l4, l5⟩
        · exact e x hx
      · constructor
        · intro hh; cases hh
        · intro hh; omega
theorem part_ge {s : ByteArray} {i : Nat} (h : i ≤ s.size) : i ≤ (part s i).2 := (prt_all s _ i h).1
theorem part_le {s : ByteArray} {i : Nat} (h : i ≤ s.size) : (part s i).2 ≤ s.size := (prt_all s _ i h).2.1
theorem part_len {s : ByteArray} {i : Nat} (h : i ≤ s.size) : (part s i).1.length ≤ (part s i).2 - i := (prt_all s _ i h).2.2.1
theorem part_nil {s : ByteArray} {i : Nat} (h : i ≤ s.size) : (part s i).1 = [] ↔ (part s i).2 = i := (prt_all s _ i h).2.2.2.2

/-! tokens -/
/-- the text u stands at a -/
def hasB (s : ByteArray) (a : Nat) (u : ByteArray) : Prop := a + u.size ≤ s.size ∧ sub s a u.size = u
instance (s : ByteArray) (a : Nat) (u : ByteArray) : Decidable (hasB s a u) := by unfold hasB; infer_instance
theorem bt_ext {a b : ByteArray} (hs : a.size = b.size) (h : ∀ k, k < a.size → bt a k = bt b k) : a = b := by
  refine ByteArray.ext (Array.ext hs fun i h1 h2 => ?_)
  have := h i h1
  rw [bt_in (s := a) h1, bt_in (s := b) h2] at this
  exact UInt8.toNat_inj.1 this
theorem hasB_iff {s : ByteArray} {a : Nat} {u : ByteArray} : hasB s a u ↔ a + u.size ≤ s.size ∧ ∀ k, k < u.size → bt s (a + k) = bt u k := by
  constructor
  · rintro ⟨h1, h2⟩
    refine ⟨h1, fun k hk => ?_⟩
    rw [← bt_sub h1 hk, h2]
  · rintro ⟨h1, h2⟩
    have hz := sub_size s a u.size h1
    refine ⟨h1, bt_ext hz fun k hk => ?_⟩
    rw [hz] at hk
    rw [bt_sub h1 hk]
    exact h2 k hk
/-- how many signs of less stand there: 1 to 3 -/
def lessN (s : ByteArray) (a : Nat) : Nat := if bt s (a + 1) = 60 then (if bt s (a + 2) = 60 then 3 else 2) else 1
theorem lessN_le (s : ByteArray) (a : Nat) : 1 ≤ lessN s a ∧ lessN s a ≤ 3 := by unfold lessN; split <;> (try split) <;> omega
theorem bt_pos {s : ByteArray} {p : Nat} (h : bt s p ≠ 0) : p < s.size := by
  by_cases hp : p < s.size
  · exact hp
  · exact absurd (bt_out (by omega)) h
theorem lessN_in {s : ByteArray} {a : Nat} (h : a < s.size) : a + lessN s a ≤ s.size := by
  unfold lessN
  split
  · next h1 =>
    have := bt_pos (s := s) (p := a + 1) (by omega)
    split
    · next h2 =>
      have := bt_pos (s := s) (p := a + 2) (by omega)
      omega
    · omega
  · omega
/-- which before-token stands there, 0: none -/
def befN (s : ByteArray) (a : Nat) : Nat := if hasB s a (strOfNums (beN 1)) then 1 else if hasB s a (strOfNums (beN 2)) then 2 else if hasB s a (strOfNums (beN 3)) then 3 else 0
theorem befN_le (s : ByteArray) (a : Nat) : befN s a ≤ 3 := by unfold befN; split <;> (try split) <;> (try split) <;> omega
theorem befN_in {s : ByteArray} {a : Nat} (h : befN s a ≠ 0) : a + 10 ≤ s.size := by
  unfold befN at h
  split at h
  · next h1 => exact h1.1
  · split at h
    · next h1 => exact h1.1
    · split at h
      · next h1 => exact h1.1
      · exact absurd rfl h
structure Tk where
  kind : Nat
  n : Nat
  tx : List Int
  at' : Nat
  fin : Nat
/-- the token that begins just there -/
def tkA (s : ByteArray) (a : Nat) : Tk :=
  if s.size ≤ a then ⟨7, 0, [], a, a⟩
  else if bt s a = 38 then ⟨1, 0, [], a, a + 1⟩
  else if bt s a = 47 then ⟨4, 0, [], a, a + 1⟩
  else if bt s a = 61 then ⟨3, 0, [], a, a + 1⟩
  else if bt s a = 60 then ⟨3, lessN s a, [], a, a + lessN s a⟩
  else if bt s a = 91 then (if befN s a = 0 then ⟨6, 0, [], a, a + 1⟩ else ⟨2, befN s a, [], a, a + 10⟩)
  else if (part s a).2 = a then ⟨6, 0, [], a, a + 1⟩ else ⟨5, 0, (part s a).1, a, (part s a).2⟩
def tk (s : ByteArray) (i : Nat) : Tk := tkA s (skp s i)
theorem tk_skp (s : ByteArray) (i : Nat) : tk s (skp s i) = tk s i := by unfold tk; rw [skp_skp]
theorem tkA_at (s : ByteArray) (a : Nat) : (tkA s a).at' = a := by
  unfold tkA
  repeat' split
  all_goals rfl
theorem tk_at (s : ByteArray) (i : Nat) : (tk s i).at' = skp s i := tkA_at s _
theorem tkA_kind (s : ByteArray) (a : Nat) : (tkA s a).kind = 1 ∨ (tkA s a).kind = 2 ∨ (tkA s a).kind = 3 ∨ (tkA s a).kind = 4 ∨ (tkA s a).kind = 5 ∨ (tkA s a).kind = 6 ∨ (tkA s a).kind = 7 := by
  unfold tkA
  repeat' split
  all_goals simp
theorem tkA_end {s : ByteArray} {a : Nat} : (tkA s a).kind = 7 ↔ s.size ≤ a := by
  unfold tkA
  constructor
  · intro h
    by_cases hs : s.size ≤ a
    · exact hs
    · rw [if_neg hs] at h
      repeat' split at h
      all_goals (exact absurd h (by simp))
  · intro h
    rw [if_pos h]
theorem tkA_to {s : ByteArray} {a : Nat} (h : (tkA s a).kind ≠ 7) : a < (tkA s a).fin ∧ (tkA s a).fin ≤ s.size ∧ a < s.size := by
  have hlt : a < s.size := by
    have := (not_congr (tkA_end (s := s) (a := a))).1 h
    omega
  have hl := lessN_le s a
  have hi := lessN_in hlt
  refine ⟨?_, ?_, hlt⟩
  · unfold tkA
    rw [if_neg (by omega)]
    repeat' split
    all_goals first
      | (show a < a + _; omega)
      | (show a < (part s a).2; have := part_ge (s := s) (i := a) (by omega); omega)
  · unfold tkA
    rw [if_neg (by omega)]
    repeat' split
    all_goals first
      | (show a + 1 ≤ _; omega)
      | (show a + lessN s a ≤ _; omega)
      | (show a + 10 ≤ _; exact befN_in (by assumption))
      | (show (part s a).2 ≤ _; exact part_le (by omega))
theorem tkA_tx {s : ByteArray} {a : Nat} (h : (tkA s a).kind ≠ 5) : (tkA s a).tx = [] := by
  revert h
  unfold tkA
  repeat' split
  all_goals intro h; first | rfl | exact absurd rfl h
theorem tkA_len {s : ByteArray} {a : Nat} : (tkA s a).tx.length ≤ s.size := by
  unfold tkA
  repeat' split
  all_goals first
    | (simp; done)
    | (show (part s a).1.length ≤ _; have := part_len (s := s) (i := a) (by omega); have := part_le (s := s) (i := a) (by omega); omega)
theorem tkA_n (s : ByteArray) (a : Nat) : (tkA s a).n ≤ 3 := by
  have hl := lessN_le s a
  have hb := befN_le s a
  unfold tkA
  repeat' split
  all_goals first
    | (show 0 ≤ _; omega)
    | (show lessN s a ≤ _; omega)
    | (show befN s a ≤ _; omega)
theorem tk_to {s : ByteArray} {i : Nat} (h : (tk s i).kind ≠ 7) : i < (tk s i).fin ∧ (tk s i).fin ≤ s.size ∧ i < s.size := by
  obtain ⟨a, b, c⟩ := tkA_to (s := s) (a := skp s i) h
  have := skp_ge s i
  exact ⟨by show i < (tkA s (skp s i)).fin; omega, b, by omega⟩
theorem tk_tx {s : ByteArray} {i : Nat} (h : (tk s i).kind ≠ 5) : (tk s i).tx = [] := tkA_tx h

/-! reading, from state to state -/
/-- which state a token leads to -/
def thn (st k : Nat) : Option Nat :=
  if k = 1 then (if st = 0 ∨ st = 5 ∨ st = 7 then some 1 else none)
  else if k = 2 then (if st = 1 then some 2 else none)
  else if k = 3 then (if st = 3 ∨ st = 5 ∨ st = 7 then some 4 else none)
  else if k = 4 then (if st = 5 then some 6 else none)
  else if k = 7 then (if st = 0 ∨ st = 5 ∨ st = 7 then some 8 else none)
  else if k = 5 then (if st = 1 ∨ st = 2 then some 3 else if st = 4 then some 5 else if st = 6 then some 7 else none)
  else none
structure St where
  st : Nat
  i : Nat
  nx : Rl
  out : List Rl
def setMore (l : List Rl) (m : ByteArray) : List Rl := l.dropLast ++ (match l.getLast? with | none => [] | some x => [{ x with more := m }])
/-- behind a token -/
def adv (S : St) (st' : Nat) (t : Tk) : St :=
  if st' = 2 then ⟨st', t.fin, { S.nx with before := (t.n : Int) }, S.out⟩
  else if st' = 3 then ⟨st', t.fin, { S.nx with reset := strOfNums t.tx }, S.out⟩
  else if st' = 4 then ⟨st', t.fin, { S.nx with level := (t.n : Int) }, S.out⟩
  else if st' = 5 then ⟨st', t.fin, default, S.out ++ [{ S.nx with text := strOfNums t.tx }]⟩
  else if st' = 7 then ⟨st', t.fin, S.nx, setMore S.out (strOfNums t.tx)⟩
  else ⟨st', t.fin, S.nx, S.out⟩
theorem adv_i (S : St) (st' : Nat) (t : Tk) : (adv S st' t).i = t.fin := by
  unfold adv
  repeat' split
  all_goals rfl
def lim (st' : Nat) : Nat := if st' = 5 then 3 else 6
def rd (s : ByteArray) (S : St) : List Rl × Int × Nat :=
  match thn S.st (tk s S.i).kind with
  | none => ([], 8, (tk s S.i).at')
  | some st' =>
    if lim st' < (tk s S.i).tx.length then ([], 9, (tk s S.i).at')
    else if st' = 8 then (S.out, 0, 0)
    else if _h : S.i < (tk s S.i).fin ∧ S.i < s.size then rd s (adv S st' (tk s S.i)) else (S.out, 0, 0)
termination_by s.size - S.i
decreasing_by rw [adv_i]; omega
theorem rd_bad {s : ByteArray} {S : St} (h : thn S.st (tk s S.i).kind = none) : rd s S = ([], 8, (tk s S.i).at') := by rw [rd, h]
theorem rd_part {s : ByteArray} {S : St} {st' : Nat} (h : thn S.st (tk s S.i).kind = some st') (hl : lim st' < (tk s S.i).tx.length) : rd s S = ([], 9, (tk s S.i).at') := by rw [rd, h]; simp only; rw [if_pos hl]
theorem thn_end {st k : Nat} (h : thn st k = some 8) : k = 7 := by
  unfold thn at h
  repeat' split at h
  all_goals first
    | assumption
    | (exact absurd h (by simp))
theorem thn_go {st k st' : Nat} (h : thn st k = some st') (h8 : st' ≠ 8) : k ≠ 7 ∧ k ≠ 6 ∧ 1 ≤ k := by
  unfold thn at h
  repeat' split at h
  all_goals first
    | (injection h with h; subst h; first | (exact absurd rfl h8) | (refine ⟨?_, ?_, ?_⟩ <;> omega))
    | (cases h; done)
theorem rd_end {s : ByteArray} {S : St} (h : thn S.st (tk s S.i).kind = some 8) : rd s S = (S.out, 0, 0) := by
  have hk := thn_end h
  rw [rd, h]
  simp only
  rw [tk_tx (by rw [hk]; decide), if_neg (by simp), if_pos trivial]
theorem rd_step {s : ByteArray} {S : St} {st' : Nat} (h : thn S.st (tk s S.i).kind = some st') (hl : ¬ lim st' < (tk s S.i).tx.length) (h8 : st' ≠ 8) : rd s S = rd s (adv S st' (tk s S.i)) := by
  obtain ⟨k7, _, _⟩ := thn_go h h8
  obtain ⟨t1, t2, t3⟩ := tk_to (s := s) (i := S.i) k7
  rw [rd, h]
  simp only
  rw [if_neg hl, if_neg h8, dif_pos ⟨t1, t3⟩]
/-- what Read gives -/
def rdAll (s : ByteArray) : List Rl × Int × Nat := if 120 < s.size then ([], 4, 0) else rd s ⟨0, 0, default, []⟩

end Go.Proofs.Ytpclldccjpncdab

namespace Go.Proofs.Ytpclldccjpncdab
open Go.RowKit

/-! reading, part by part -/
def rp (s : ByteArray) (i most : Nat) : ByteArray × Nat × Int :=
  if (tk s i).kind ≠ 5 then ({ data := #[] }, (tk s i).at', 8)
  else if most < (tk s i).tx.length then ({ data := #[] }, (tk s i).at', 9)
  else (strOfNums (tk s i).tx, (tk s i).fin, 0)
def noRl : Rl := ⟨{ data := #[] }, 0, 0, { data := #[] }, { data := #[] }⟩
/-- where the reset is read -/
def rhJ (s : ByteArray) (j : Nat) : Nat := if (tk s j).kind = 2 then (tk s j).fin else j
def rhB (s : ByteArray) (j : Nat) : Nat := if (tk s j).kind = 2 then (tk s j).n else 0
def rh (s : ByteArray) (i : Nat) : Rl × Nat × Int :=
  if (tk s i).kind ≠ 1 then (noRl, (tk s i).at', 8)
  else if (rp s (rhJ s (tk s i).fin) 6).2.2 ≠ 0 then (noRl, (rp s (rhJ s (tk s i).fin) 6).2.1, (rp s (rhJ s (tk s i).fin) 6).2.2)
  else ({ noRl with reset := (rp s (rhJ s (tk s i).fin) 6).1, before := (rhB s (tk s i).fin : Nat) }, (rp s (rhJ s (tk s i).fin) 6).2.1, 0)
/-- a relation without its more, read to j -/
def rr2 (s : ByteArray) (lv : Nat) (tx : ByteArray) (j : Nat) : Rl × Nat × Int :=
  if (tk s j).kind ≠ 4 then ({ noRl with level := (lv : Nat), text := tx }, j, 0)
  else if (rp s (tk s j).fin 6).2.2 ≠ 0 then (noRl, (rp s (tk s j).fin 6).2.1, (rp s (tk s j).fin 6).2.2)
  else ({ noRl with level := (lv : Nat), text := tx, more := (rp s (tk s j).fin 6).1 }, (rp s (tk s j).fin 6).2.1, 0)
def rr (s : ByteArray) (i : Nat) : Rl × Nat × Int :=
  if (tk s i).kind ≠ 3 then (noRl, (tk s i).at', 8)
  else if (rp s (tk s i).fin 3).2.2 ≠ 0 then (noRl, (rp s (tk s i).fin 3).2.1, (rp s (tk s i).fin 3).2.2)
  else rr2 s (tk s i).n (rp s (tk s i).fin 3).1 (rp s (tk s i).fin 3).2.1

theorem thn_only {st k : Nat} (h : st = 2 ∨ st = 4 ∨ st = 6) (k5 : k ≠ 5) : thn st k = none := by
  unfold thn
  repeat' split
  all_goals first | rfl | (exfalso; omega)
theorem thn_one {k : Nat} (k5 : k ≠ 5) (k2 : k ≠ 2) : thn 1 k = none := by
  unfold thn
  repeat' split
  all_goals first | rfl | (exfalso; omega)
theorem thn_three {k : Nat} (k3 : k ≠ 3) : thn 3 k = none := by
  unfold thn
  repeat' split
  all_goals first | rfl | (exfalso; omega)
/-- a part is read, where state st' is behind it -/
theorem rp_rd {s : ByteArray} {S : St} {st' most : Nat} (h5 : thn S.st 5 = some st') (hn : ∀ k, k ≠ 5 → k ≠ (if S.st = 1 then 2 else 5) → thn S.st k = none) (hk : S.st = 1 → (tk s S.i).kind ≠ 2) (hm : most = lim st') (h8 : st' ≠ 8) :
    ((rp s S.i most).2.2 ≠ 0 → rd s S = ([], (rp s S.i most).2.2, (rp s S.i most).2.1)) ∧
    ((rp s S.i most).2.2 = 0 → rd s S = rd s (adv S st' (tk s S.i)) ∧ (rp s S.i most).1 = strOfNums (tk s S.i).tx ∧ (rp s S.i most).2.1 = (tk s S.i).fin ∧ (tk s S.i).kind = 5) := by
  subst hm
  unfold rp
  by_cases hk5 : (tk s S.i).kind = 5
  · rw [if_neg (not_not_intro hk5)]
    have ht : thn S.st (tk s S.i).kind = some st' := by rw [hk5]; exact h5
    by_cases hl : lim st' < (tk s S.i).tx.length
    · rw [if_pos hl]
      exact ⟨fun _ => rd_part ht hl, fun h => absurd h (by simp)⟩
    · rw [if_neg hl]
      exact ⟨fun h => absurd rfl h, fun _ => ⟨rd_step ht hl h8, rfl, rfl, hk5⟩⟩
  · rw [if_pos hk5]
    refine ⟨fun _ => rd_bad (hn _ hk5 ?_), fun h => absurd h (by simp)⟩
    by_cases h1 : S.st = 1
    · rw [if_pos h1]; exact hk h1
    · rw [if_neg h1]; exact hk5
theorem rp_to {s : ByteArray} {i most : Nat} (hi : i ≤ s.size) : (rp s i most).2.1 ≤ s.size ∧ ((rp s i most).2.2 = 0 → i < (rp s i most).2.1) ∧ (rp s i most).1.size ≤ s.size ∧ ((rp s i most).2.2 = 0 ∨ (rp s i most).2.2 = 8 ∨ (rp s i most).2.2 = 9) := by
  have hat : (tk s i).at' ≤ s.size := by rw [tk_at]; exact skp_le hi
  unfold rp
  split
  · exact ⟨hat, fun h => absurd h (by simp), by show 0 ≤ _; omega, .inr (.inl rfl)⟩
  · next h5 =>
    obtain ⟨t1, t2, t3⟩ := tk_to (s := s) (i := i) (fun h => h5 (by rw [h]; decide))
    split
    · exact ⟨hat, fun h => absurd h (by simp), by show 0 ≤ _; omega, .inr (.inr rfl)⟩
    · exact ⟨t2, fun _ => t1, by rw [strOfNums_size]; exact tkA_len, .inl rfl⟩
theorem thn_w {st k : Nat} (hst : st = 0 ∨ st = 5 ∨ st = 7) (hk : k = 1) : thn st k = some 1 := by subst hk; unfold thn; rw [if_pos rfl, if_pos hst]
/-- a chain may begin there, and nothing else -/
def Whole (s : ByteArray) (st i : Nat) : Prop := i ≤ s.size ∧ (st = 0 ∨ st = 5 ∨ st = 7) ∧ ((tk s i).kind ≠ 1 → (tk s i).kind ≠ 7 → thn st (tk s i).kind = none)
/-- a chain's head -/
theorem rh_rd {s : ByteArray} {st i : Nat} {out : List Rl} (hw : Whole s st i) (h7 : (tk s i).kind ≠ 7) :
    ((rh s i).2.2 ≠ 0 → rd s ⟨st, i, default, out⟩ = ([], (rh s i).2.2, (rh s i).2.1)) ∧
    ((rh s i).2.2 = 0 → rd s ⟨st, i, default, out⟩ = rd s ⟨3, (rh s i).2.1, (rh s i).1, out⟩) := by
  obtain ⟨hi, hst, hn⟩ := hw
  unfold rh
  by_cases hk : (tk s i).kind = 1
  · rw [if_neg (not_not_intro hk)]
    have h1 : rd s ⟨st, i, default, out⟩ = rd s ⟨1, (tk s i).fin, default, out⟩ := rd_step (s := s) (S := ⟨st, i, default, out⟩) (st' := 1) (thn_w hst hk) (by rw [show (tk s (St.mk st i default out).i).tx = [] from tk_tx (by show (tk s i).kind ≠ 5; omega)]; simp) (by decide)
    rw [h1]
    generalize (tk s i).fin = j
    by_cases hb : (tk s j).kind = 2
    · have h2 : rd s ⟨1, j, default, out⟩ = rd s ⟨2, (tk s j).fin, { (default : Rl) with before := ((tk s j).n : Int) }, out⟩ := rd_step (s := s) (S := ⟨1, j, default, out⟩) (st' := 2) (by show thn 1 (tk s j).kind = _; rw [hb]; rfl) (by rw [show (tk s (St.mk 1 j default out).i).tx = [] from tk_tx (by show (tk s j).kind ≠ 5; omega)]; simp) (by decide)
      rw [h2]
      have ej : rhJ s j = (tk s j).fin := by unfold rhJ; rw [if_pos hb]
      have eb : rhB s j = (tk s j).n := by unfold rhB; rw [if_pos hb]
      rw [ej, eb]
      obtain ⟨p1, p2⟩ := rp_rd (s := s) (S := ⟨2, (tk s j).fin, { (default : Rl) with before := ((tk s j).n : Int) }, out⟩) (st' := 3) (most := 6) rfl (fun k k5 _ => thn_only (.inl rfl) k5) (fun h => absurd h (by simp)) rfl (by decide)
      simp only at p1 p2
      by_cases h0 : (rp s (tk s j).fin 6).2.2 = 0
      · rw [if_neg (not_not_intro h0)]
        obtain ⟨q1, q2, q3, _⟩ := p2 h0
        refine ⟨fun h => absurd rfl h, fun _ => ?_⟩
        rw [q1, q2, q3]
        rfl
      · rw [if_pos h0]
        exact ⟨fun _ => p1 h0, fun h => absurd h h0⟩
    · have ej : rhJ s j = j := by unfold rhJ; rw [if_neg hb]
      have eb : rhB s j = 0 := by unfold rhB; rw [if_neg hb]
      rw [ej, eb]
      obtain ⟨p1, p2⟩ := rp_rd (s := s) (S := ⟨1, j, default, out⟩) (st' := 3) (most := 6) rfl (fun k k5 k2 => thn_one k5 k2) (fun _ => hb) rfl (by decide)
      simp only at p1 p2
      by_cases h0 : (rp s j 6).2.2 = 0
      · rw [if_neg (not_not_intro h0)]
        obtain ⟨q1, q2, q3, _⟩ := p2 h0
        refine ⟨fun h => absurd rfl h, fun _ => ?_⟩
        rw [q1, q2, q3]
        rfl
      · rw [if_pos h0]
        exact ⟨fun _ => p1 h0, fun h => absurd h h0⟩
  · rw [if_pos hk]
    exact ⟨fun _ => rd_bad (hn hk h7), fun h => absurd h (by simp)⟩
theorem rh_to {s : ByteArray} {i : Nat} (hi : i ≤ s.size) : (rh s i).2.1 ≤ s.size ∧ ((rh s i).2.2 = 0 → i < (rh s i).2.1) ∧ ((rh s i).2.2 = 0 ∨ (rh s i).2.2 = 8 ∨ (rh s i).2.2 = 9) := by
  have hat : (tk s i).at' ≤ s.size := by rw [tk_at]; exact skp_le hi
  unfold rh
  by_cases hk : (tk s i).kind = 1
  · rw [if_neg (not_not_intro hk)]
    obtain ⟨t1, t2, t3⟩ := tk_to (s := s) (i := i) (by omega)
    have hj : (tk s i).fin ≤ rhJ s (tk s i).fin ∧ rhJ s (tk s i).fin ≤ s.size := by
      unfold rhJ
      split
      · next h2 =>
        obtain ⟨u1, u2, u3⟩ := tk_to (s := s) (i := (tk s i).fin) (by omega)
        exact ⟨by omega, u2⟩
      · exact ⟨Nat.le_refl _, t2⟩
    obtain ⟨r1, r2, _, r3⟩ := rp_to (s := s) (i := rhJ s (tk s i).fin) (most := 6) hj.2
    split
    · next h => exact ⟨r1, fun h0 => absurd h0 h, r3⟩
    · next h =>
      have h0 : (rp s (rhJ s (tk s i).fin) 6).2.2 = 0 := by simpa using h
      exact ⟨r1, fun _ => by have := r2 h0; show i < (rp s (rhJ s (tk s i).fin) 6).2.1; omega, .inl rfl⟩
  · rw [if_pos hk]
    exact ⟨hat, fun h => absurd h (by simp), .inr (.inl rfl)⟩
theorem setMore_snoc (l : List Rl) (x : Rl) (m : ByteArray) : setMore (l ++ [x]) m = l ++ [{ x with more := m }] := by simp [setMore]
/-- the state behind a relation -/
def rrS (s : ByteArray) (i : Nat) : Nat := if (tk s (rp s (tk s i).fin 3).2.1).kind = 4 then 7 else 5
/-- a relation -/
theorem rr_rd {s : ByteArray} {st i : Nat} {nx : Rl} {out : List Rl} (hst : st = 3 ∨ ((st = 5 ∨ st = 7) ∧ (tk s i).kind = 3)) (hnx : nx.more = { data := #[] }) :
    ((rr s i).2.2 ≠ 0 → rd s ⟨st, i, nx, out⟩ = ([], (rr s i).2.2, (rr s i).2.1)) ∧
    ((rr s i).2.2 = 0 → (rrS s i = 7 ∨ (rrS s i = 5 ∧ (tk s (rr s i).2.1).kind ≠ 4)) ∧ rd s ⟨st, i, nx, out⟩ = rd s ⟨rrS s i, (rr s i).2.1, default, out ++ [{ (rr s i).1 with reset := nx.reset, before := nx.before }]⟩) := by
  unfold rr rrS
  by_cases hk : (tk s i).kind = 3
  · rw [if_neg (not_not_intro hk)]
    have h1 : rd s ⟨st, i, nx, out⟩ = rd s ⟨4, (tk s i).fin, { nx with level := ((tk s i).n : Int) }, out⟩ := rd_step (s := s) (S := ⟨st, i, nx, out⟩) (st' := 4) (by show thn st (tk s i).kind = _; rw [hk]; unfold thn; rw [if_neg (by decide), if_neg (by decide), if_pos rfl, if_pos (by omega)]) (by rw [show (tk s (St.mk st i nx out).i).tx = [] from tk_tx (by show (tk s i).kind ≠ 5; omega)]; simp) (by decide)
    rw [h1]
    generalize (tk s i).fin = j
    generalize (tk s i).n = lv
    obtain ⟨p1, p2⟩ := rp_rd (s := s) (S := ⟨4, j, { nx with level := (lv : Int) }, out⟩) (st' := 5) (most := 3) rfl (fun k k5 _ => thn_only (.inr (.inl rfl)) k5) (fun h => absurd h (by simp)) rfl (by decide)
    simp only at p1 p2
    by_cases h0 : (rp s j 3).2.2 = 0
    · rw [if_neg (not_not_intro h0)]
      obtain ⟨q1, q2, q3, _⟩ := p2 h0
      have q1' : rd s ⟨4, j, { nx with level := (lv : Int) }, out⟩ = rd s ⟨5, (rp s j 3).2.1, default, out ++ [{ nx with level := (lv : Int), text := (rp s j 3).1 }]⟩ := by
        rw [q1, q2, q3]
        rfl
      rw [q1']
      generalize (rp s j 3).2.1 = j2
      generalize (rp s j 3).1 = tx
      unfold rr2
      by_cases h4 : (tk s j2).kind = 4
      · rw [if_neg (not_not_intro h4)]
        have h2 : rd s ⟨5, j2, default, out ++ [{ nx with level := (lv : Int), text := tx }]⟩ = rd s ⟨6, (tk s j2).fin, default, out ++ [{ nx with level := (lv : Int), text := tx }]⟩ := rd_step (s := s) (S := ⟨5, j2, default, out ++ [{ nx with level := (lv : Int), text := tx }]⟩) (st' := 6) (by show thn 5 (tk s j2).kind = _; rw [h4]; rfl) (by rw [show (tk s (St.mk 5 j2 default (out ++ [{ nx with level := (lv : Int), text := tx }])).i).tx = [] from tk_tx (by show (tk s j2).kind ≠ 5; omega)]; simp) (by decide)
        rw [h2]
        generalize (tk s j2).fin = j3
        obtain ⟨p1, p2⟩ := rp_rd (s := s) (S := ⟨6, j3, default, out ++ [{ nx with level := (lv : Int), text := tx }]⟩) (st' := 7) (most := 6) rfl (fun k k5 _ => thn_only (.inr (.inr rfl)) k5) (fun h => absurd h (by simp)) rfl (by decide)
        simp only at p1 p2
        by_cases h0 : (rp s j3 6).2.2 = 0
        · rw [if_neg (not_not_intro h0)]
          obtain ⟨q1, q2, q3, _⟩ := p2 h0
          rw [if_pos h4]
          refine ⟨fun h => absurd rfl h, fun _ => ⟨.inl rfl, ?_⟩⟩
          rw [q1, q2, q3]
          show rd s ⟨7, (tk s j3).fin, default, setMore (out ++ [{ nx with level := (lv : Int), text := tx }]) (strOfNums (tk s j3).tx)⟩ = _
          rw [setMore_snoc]
        · rw [if_pos h0]
          exact ⟨fun _ => p1 h0, fun h => absurd h h0⟩
      · rw [if_pos h4]
        rw [if_neg h4]
        refine ⟨fun h => absurd rfl h, fun _ => ⟨.inr ⟨rfl, h4⟩, ?_⟩⟩
        show _ = rd s ⟨5, j2, default, out ++ [⟨nx.reset, nx.before, (lv : Nat), tx, { data := #[] }⟩]⟩
        rw [← hnx]
    · rw [if_pos h0]
      exact ⟨fun _ => p1 h0, fun h => absurd h h0⟩
  · rw [if_pos hk]
    have h3 : st = 3 := by rcases hst with h | h
                           · exact h
                           · exact absurd h.2 hk
    subst h3
    refine ⟨fun _ => rd_bad ?_, fun h => absurd h (by simp)⟩
    exact thn_three hk
theorem rr_to {s : ByteArray} {i : Nat} (hi : i ≤ s.size) : (rr s i).2.1 ≤ s.size ∧ ((rr s i).2.2 = 0 → i < (rr s i).2.1) ∧ ((rr s i).2.2 = 0 ∨ (rr s i).2.2 = 8 ∨ (rr s i).2.2 = 9) := by
  have hat : (tk s i).at' ≤ s.size := by rw [tk_at]; exact skp_le hi
  unfold rr
  by_cases hk : (tk s i).kind = 3
  · rw [if_neg (not_not_intro hk)]
    obtain ⟨t1, t2, t3⟩ := tk_to (s := s) (i := i) (by omega)
    obtain ⟨r1, r2, _, r3⟩ := rp_to (s := s) (i := (tk s i).fin) (most := 3) t2
    split
    · next h => exact ⟨r1, fun h0 => absurd h0 h, r3⟩
    · next h =>
      have h0 : (rp s (tk s i).fin 3).2.2 = 0 := by simpa using h
      have h2 := r2 h0
      unfold rr2
      split
      · exact ⟨r1, fun _ => by show i < (rp s (tk s i).fin 3).2.1; omega, .inl rfl⟩
      · next h4 =>
        obtain ⟨u1, u2, u3⟩ := tk_to (s := s) (i := (rp s (tk s i).fin 3).2.1) (fun h => h4 (by rw [h]; decide))
        obtain ⟨v1, v2, _, v3⟩ := rp_to (s := s) (i := (tk s (rp s (tk s i).fin 3).2.1).fin) (most := 6) u2
        split
        · next h => exact ⟨v1, fun h0 => absurd h0 h, v3⟩
        · next h =>
          have h0 : (rp s (tk s (rp s (tk s i).fin 3).2.1).fin 6).2.2 = 0 := by simpa using h
          exact ⟨v1, fun _ => by have := v2 h0; show i < (rp s (tk s (rp s (tk s i).fin 3).2.1).fin 6).2.1; omega, .inl rfl⟩
  · rw [if_pos hk]
    exact ⟨hat, fun h => absurd h (by simp), .inr (.inl rfl)⟩

end Go.Proofs.Ytpclldccjpncdab
