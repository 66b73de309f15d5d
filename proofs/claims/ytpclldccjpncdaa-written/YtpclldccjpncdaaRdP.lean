import Derived.Test.YtpclldccjpncdaaRdS
namespace Go.Proofs.Ytpclldccjpncdaa
open Go.RowKit

/-! reading, part by part -/
def rp (s : ByteArray) (i most : Nat) : ByteArray × Nat × Int :=
  if (tk s i).kind ≠ 5 then ({ data := #[] }, (tk s i).at', 8)
  else if most < (tk s i).tx.length then ({ data := #[] }, (tk s i).at', 9)
  else (strOfNums (tk s i).tx, (tk s i).fin, 0)
def noRl : Rl := ⟨{ data := #[] }, 0, 0, { data := #[] }, { data := #[] }⟩
/-- where the reset is read -/
def rhJ (s : ByteArray) (j : Nat) : Nat := if (tk s j).kind = 2 then (tk s j).fin else j
def rhB (s : ByteArray) (j : Nat) : Nat := if (tk s j).kind = 2 then (tk s j).n else 0
def rh (s : ByteArray) (i : Nat) : Rl × Nat × Int :=
  if (tk s i).kind ≠ 1 then (noRl, (tk s i).at', 8)
  else if (rp s (rhJ s (tk s i).fin) 6).2.2 ≠ 0 then (noRl, (rp s (rhJ s (tk s i).fin) 6).2.1, (rp s (rhJ s (tk s i).fin) 6).2.2)
  else ({ noRl with reset := (rp s (rhJ s (tk s i).fin) 6).1, before := (rhB s (tk s i).fin : Nat) }, (rp s (rhJ s (tk s i).fin) 6).2.1, 0)
/-- a relation without its more, read to j -/
def rr2 (s : ByteArray) (lv : Nat) (tx : ByteArray) (j : Nat) : Rl × Nat × Int :=
  if (tk s j).kind ≠ 4 then ({ noRl with level := (lv : Nat), text := tx }, j, 0)
  else if (rp s (tk s j).fin 6).2.2 ≠ 0 then (noRl, (rp s (tk s j).fin 6).2.1, (rp s (tk s j).fin 6).2.2)
  else ({ noRl with level := (lv : Nat), text := tx, more := (rp s (tk s j).fin 6).1 }, (rp s (tk s j).fin 6).2.1, 0)
def rr (s : ByteArray) (i : Nat) : Rl × Nat × Int :=
  if (tk s i).kind ≠ 3 then (noRl, (tk s i).at', 8)
  else if (rp s (tk s i).fin 3).2.2 ≠ 0 then (noRl, (rp s (tk s i).fin 3).2.1, (rp s (tk s i).fin 3).2.2)
  else rr2 s (tk s i).n (rp s (tk s i).fin 3).1 (rp s (tk s i).fin 3).2.1

theorem thn_only {st k : Nat} (h : st = 2 ∨ st = 4 ∨ st = 6) (k5 : k ≠ 5) : thn st k = none := by
  unfold thn
  repeat' split
  all_goals first | rfl | (exfalso; omega)
theorem thn_one {k : Nat} (k5 : k ≠ 5) (k2 : k ≠ 2) : thn 1 k = none := by
  unfold thn
  repeat' split
  all_goals first | rfl | (exfalso; omega)
theorem thn_three {k : Nat} (k3 : k ≠ 3) : thn 3 k = none := by
  unfold thn
  repeat' split
  all_goals first | rfl | (exfalso; omega)
/-- a part is read, where state st' is behind it -/
theorem rp_rd {s : ByteArray} {S : St} {st' most : Nat} (h5 : thn S.st 5 = some st') (hn : ∀ k, k ≠ 5 → k ≠ (if S.st = 1 then 2 else 5) → thn S.st k = none) (hk : S.st = 1 → (tk s S.i).kind ≠ 2) (hm : most = lim st') (h8 : st' ≠ 8) :
    ((rp s S.i most).2.2 ≠ 0 → rd s S = ([], (rp s S.i most).2.2, (rp s S.i most).2.1)) ∧
    ((rp s S.i most).2.2 = 0 → rd s S = rd s (adv S st' (tk s S.i)) ∧ (rp s S.i most).1 = strOfNums (tk s S.i).tx ∧ (rp s S.i most).2.1 = (tk s S.i).fin ∧ (tk s S.i).kind = 5) := by
  subst hm
  unfold rp
  by_cases hk5 : (tk s S.i).kind = 5
  · rw [if_neg (not_not_intro hk5)]
    have ht : thn S.st (tk s S.i).kind = some st' := by rw [hk5]; exact h5
    by_cases hl : lim st' < (tk s S.i).tx.length
    · rw [if_pos hl]
      exact ⟨fun _ => rd_part ht hl, fun h => absurd h (by simp)⟩
    · rw [if_neg hl]
      exact ⟨fun h => absurd rfl h, fun _ => ⟨rd_step ht hl h8, rfl, rfl, hk5⟩⟩
  · rw [if_pos hk5]
    refine ⟨fun _ => rd_bad (hn _ hk5 ?_), fun h => absurd h (by simp)⟩
    by_cases h1 : S.st = 1
    · rw [if_pos h1]; exact hk h1
    · rw [if_neg h1]; exact hk5
theorem rp_to {s : ByteArray} {i most : Nat} (hi : i ≤ s.size) : (rp s i most).2.1 ≤ s.size ∧ ((rp s i most).2.2 = 0 → i < (rp s i most).2.1) ∧ (rp s i most).1.size ≤ s.size ∧ ((rp s i most).2.2 = 0 ∨ (rp s i most).2.2 = 8 ∨ (rp s i most).2.2 = 9) := by
  have hat : (tk s i).at' ≤ s.size := by rw [tk_at]; exact skp_le hi
  unfold rp
  split
  · exact ⟨hat, fun h => absurd h (by simp), by show 0 ≤ _; omega, .inr (.inl rfl)⟩
  · next h5 =>
    obtain ⟨t1, t2, t3⟩ := tk_to (s := s) (i := i) (fun h => h5 (by rw [h]; decide))
    split
    · exact ⟨hat, fun h => absurd h (by simp), by show 0 ≤ _; omega, .inr (.inr rfl)⟩
    · exact ⟨t2, fun _ => t1, by rw [strOfNums_size]; exact tkA_len, .inl rfl⟩
theorem thn_w {st k : Nat} (hst : st = 0 ∨ st = 5 ∨ st = 7) (hk : k = 1) : thn st k = some 1 := by subst hk; unfold thn; rw [if_pos rfl, if_pos hst]
/-- a chain may begin there, and nothing else -/
def Whole (s : ByteArray) (st i : Nat) : Prop := i ≤ s.size ∧ (st = 0 ∨ st = 5 ∨ st = 7) ∧ ((tk s i).kind ≠ 1 → (tk s i).kind ≠ 7 → thn st (tk s i).kind = none)
/-- a chain's head -/
theorem rh_rd {s : ByteArray} {st i : Nat} {out : List Rl} (hw : Whole s st i) (h7 : (tk s i).kind ≠ 7) :
    ((rh s i).2.2 ≠ 0 → rd s ⟨st, i, default, out⟩ = ([], (rh s i).2.2, (rh s i).2.1)) ∧
    ((rh s i).2.2 = 0 → rd s ⟨st, i, default, out⟩ = rd s ⟨3, (rh s i).2.1, (rh s i).1, out⟩) := by
  obtain ⟨hi, hst, hn⟩ := hw
  unfold rh
  by_cases hk : (tk s i).kind = 1
  · rw [if_neg (not_not_intro hk)]
    have h1 : rd s ⟨st, i, default, out⟩ = rd s ⟨1, (tk s i).fin, default, out⟩ := rd_step (s := s) (S := ⟨st, i, default, out⟩) (st' := 1) (thn_w hst hk) (by rw [show (tk s (St.mk st i default out).i).tx = [] from tk_tx (by show (tk s i).kind ≠ 5; omega)]; simp) (by decide)
    rw [h1]
    generalize (tk s i).fin = j
    by_cases hb : (tk s j).kind = 2
    · have h2 : rd s ⟨1, j, default, out⟩ = rd s ⟨2, (tk s j).fin, { (default : Rl) with before := ((tk s j).n : Int) }, out⟩ := rd_step (s := s) (S := ⟨1, j, default, out⟩) (st' := 2) (by show thn 1 (tk s j).kind = _; rw [hb]; rfl) (by rw [show (tk s (St.mk 1 j default out).i).tx = [] from tk_tx (by show (tk s j).kind ≠ 5; omega)]; simp) (by decide)
      rw [h2]
      have ej : rhJ s j = (tk s j).fin := by unfold rhJ; rw [if_pos hb]
      have eb : rhB s j = (tk s j).n := by unfold rhB; rw [if_pos hb]
      rw [ej, eb]
      obtain ⟨p1, p2⟩ := rp_rd (s := s) (S := ⟨2, (tk s j).fin, { (default : Rl) with before := ((tk s j).n : Int) }, out⟩) (st' := 3) (most := 6) rfl (fun k k5 _ => thn_only (.inl rfl) k5) (fun h => absurd h (by simp)) rfl (by decide)
      simp only at p1 p2
      by_cases h0 : (rp s (tk s j).fin 6).2.2 = 0
      · rw [if_neg (not_not_intro h0)]
        obtain ⟨q1, q2, q3, _⟩ := p2 h0
        refine ⟨fun h => absurd rfl h, fun _ => ?_⟩
        rw [q1, q2, q3]
        rfl
      · rw [if_pos h0]
        exact ⟨fun _ => p1 h0, fun h => absurd h h0⟩
    · have ej : rhJ s j = j := by unfold rhJ; rw [if_neg hb]
      have eb : rhB s j = 0 := by unfold rhB; rw [if_neg hb]
      rw [ej, eb]
      obtain ⟨p1, p2⟩ := rp_rd (s := s) (S := ⟨1, j, default, out⟩) (st' := 3) (most := 6) rfl (fun k k5 k2 => thn_one k5 k2) (fun _ => hb) rfl (by decide)
      simp only at p1 p2
      by_cases h0 : (rp s j 6).2.2 = 0
      · rw [if_neg (not_not_intro h0)]
        obtain ⟨q1, q2, q3, _⟩ := p2 h0
        refine ⟨fun h => absurd rfl h, fun _ => ?_⟩
        rw [q1, q2, q3]
        rfl
      · rw [if_pos h0]
        exact ⟨fun _ => p1 h0, fun h => absurd h h0⟩
  · rw [if_pos hk]
    exact ⟨fun _ => rd_bad (hn hk h7), fun h => absurd h (by simp)⟩
theorem rh_to {s : ByteArray} {i : Nat} (hi : i ≤ s.size) : (rh s i).2.1 ≤ s.size ∧ ((rh s i).2.2 = 0 → i < (rh s i).2.1) ∧ ((rh s i).2.2 = 0 ∨ (rh s i).2.2 = 8 ∨ (rh s i).2.2 = 9) := by
  have hat : (tk s i).at' ≤ s.size := by rw [tk_at]; exact skp_le hi
  unfold rh
  by_cases hk : (tk s i).kind = 1
  · rw [if_neg (not_not_intro hk)]
    obtain ⟨t1, t2, t3⟩ := tk_to (s := s) (i := i) (by omega)
    have hj : (tk s i).fin ≤ rhJ s (tk s i).fin ∧ rhJ s (tk s i).fin ≤ s.size := by
      unfold rhJ
      split
      · next h2 =>
        obtain ⟨u1, u2, u3⟩ := tk_to (s := s) (i := (tk s i).fin) (by omega)
        exact ⟨by omega, u2⟩
      · exact ⟨Nat.le_refl _, t2⟩
    obtain ⟨r1, r2, _, r3⟩ := rp_to (s := s) (i := rhJ s (tk s i).fin) (most := 6) hj.2
    split
    · next h => exact ⟨r1, fun h0 => absurd h0 h, r3⟩
    · next h =>
      have h0 : (rp s (rhJ s (tk s i).fin) 6).2.2 = 0 := by simpa using h
      exact ⟨r1, fun _ => by have := r2 h0; show i < (rp s (rhJ s (tk s i).fin) 6).2.1; omega, .inl rfl⟩
  · rw [if_pos hk]
    exact ⟨hat, fun h => absurd h (by simp), .inr (.inl rfl)⟩
theorem setMore_snoc (l : List Rl) (x : Rl) (m : ByteArray) : setMore (l ++ [x]) m = l ++ [{ x with more := m }] := by simp [setMore]
/-- the state behind a relation -/
def rrS (s : ByteArray) (i : Nat) : Nat := if (tk s (rp s (tk s i).fin 3).2.1).kind = 4 then 7 else 5
/-- a relation -/
theorem rr_rd {s : ByteArray} {st i : Nat} {nx : Rl} {out : List Rl} (hst : st = 3 ∨ ((st = 5 ∨ st = 7) ∧ (tk s i).kind = 3)) (hnx : nx.more = { data := #[] }) :
    ((rr s i).2.2 ≠ 0 → rd s ⟨st, i, nx, out⟩ = ([], (rr s i).2.2, (rr s i).2.1)) ∧
    ((rr s i).2.2 = 0 → (rrS s i = 7 ∨ (rrS s i = 5 ∧ (tk s (rr s i).2.1).kind ≠ 4)) ∧ rd s ⟨st, i, nx, out⟩ = rd s ⟨rrS s i, (rr s i).2.1, default, out ++ [{ (rr s i).1 with reset := nx.reset, before := nx.before }]⟩) := by
  unfold rr rrS
  by_cases hk : (tk s i).kind = 3
  · rw [if_neg (not_not_intro hk)]
    have h1 : rd s ⟨st, i, nx, out⟩ = rd s ⟨4, (tk s i).fin, { nx with level := ((tk s i).n : Int) }, out⟩ := rd_step (s := s) (S := ⟨st, i, nx, out⟩) (st' := 4) (by show thn st (tk s i).kind = _; rw [hk]; unfold thn; rw [if_neg (by decide), if_neg (by decide), if_pos rfl, if_pos (by omega)]) (by rw [show (tk s (St.mk st i nx out).i).tx = [] from tk_tx (by show (tk s i).kind ≠ 5; omega)]; simp) (by decide)
    rw [h1]
    generalize (tk s i).fin = j
    generalize (tk s i).n = lv
    obtain ⟨p1, p2⟩ := rp_rd (s := s) (S := ⟨4, j, { nx with level := (lv : Int) }, out⟩) (st' := 5) (most := 3) rfl (fun k k5 _ => thn_only (.inr (.inl rfl)) k5) (fun h => absurd h (by simp)) rfl (by decide)
    simp only at p1 p2
    by_cases h0 : (rp s j 3).2.2 = 0
    · rw [if_neg (not_not_intro h0)]
      obtain ⟨q1, q2, q3, _⟩ := p2 h0
      have q1' : rd s ⟨4, j, { nx with level := (lv : Int) }, out⟩ = rd s ⟨5, (rp s j 3).2.1, default, out ++ [{ nx with level := (lv : Int), text := (rp s j 3).1 }]⟩ := by
        rw [q1, q2, q3]
        rfl
      rw [q1']
      generalize (rp s j 3).2.1 = j2
      generalize (rp s j 3).1 = tx
      unfold rr2
      by_cases h4 : (tk s j2).kind = 4
      · rw [if_neg (not_not_intro h4)]
        have h2 : rd s ⟨5, j2, default, out ++ [{ nx with level := (lv : Int), text := tx }]⟩ = rd s ⟨6, (tk s j2).fin, default, out ++ [{ nx with level := (lv : Int), text := tx }]⟩ := rd_step (s := s) (S := ⟨5, j2, default, out ++ [{ nx with level := (lv : Int), text := tx }]⟩) (st' := 6) (by show thn 5 (tk s j2).kind = _; rw [h4]; rfl) (by rw [show (tk s (St.mk 5 j2 default (out ++ [{ nx with level := (lv : Int), text := tx }])).i).tx = [] from tk_tx (by show (tk s j2).kind ≠ 5; omega)]; simp) (by decide)
        rw [h2]
        generalize (tk s j2).fin = j3
        obtain ⟨p1, p2⟩ := rp_rd (s := s) (S := ⟨6, j3, default, out ++ [{ nx with level := (lv : Int), text := tx }]⟩) (st' := 7) (most := 6) rfl (fun k k5 _ => thn_only (.inr (.inr rfl)) k5) (fun h => absurd h (by simp)) rfl (by decide)
        simp only at p1 p2
        by_cases h0 : (rp s j3 6).2.2 = 0
        · rw [if_neg (not_not_intro h0)]
          obtain ⟨q1, q2, q3, _⟩ := p2 h0
          rw [if_pos h4]
          refine ⟨fun h => absurd rfl h, fun _ => ⟨.inl rfl, ?_⟩⟩
          rw [q1, q2, q3]
          show rd s ⟨7, (tk s j3).fin, default, setMore (out ++ [{ nx with level := (lv : Int), text := tx }]) (strOfNums (tk s j3).tx)⟩ = _
          rw [setMore_snoc]
        · rw [if_pos h0]
          exact ⟨fun _ => p1 h0, fun h => absurd h h0⟩
      · rw [if_pos h4]
        rw [if_neg h4]
        refine ⟨fun h => absurd rfl h, fun _ => ⟨.inr ⟨rfl, h4⟩, ?_⟩⟩
        show _ = rd s ⟨5, j2, default, out ++ [⟨nx.reset, nx.before, (lv : Nat), tx, { data := #[] }⟩]⟩
        rw [← hnx]
    · rw [if_pos h0]
      exact ⟨fun _ => p1 h0, fun h => absurd h h0⟩
  · rw [if_pos hk]
    have h3 : st = 3 := by rcases hst with h | h
                           · exact h
                           · exact absurd h.2 hk
    subst h3
    refine ⟨fun _ => rd_bad ?_, fun h => absurd h (by simp)⟩
    exact thn_three hk
theorem rr_to {s : ByteArray} {i : Nat} (hi : i ≤ s.size) : (rr s i).2.1 ≤ s.size ∧ ((rr s i).2.2 = 0 → i < (rr s i).2.1) ∧ ((rr s i).2.2 = 0 ∨ (rr s i).2.2 = 8 ∨ (rr s i).2.2 = 9) := by
  have hat : (tk s i).at' ≤ s.size := by rw [tk_at]; exact skp_le hi
  unfold rr
  by_cases hk : (tk s i).kind = 3
  · rw [if_neg (not_not_intro hk)]
    obtain ⟨t1, t2, t3⟩ := tk_to (s := s) (i := i) (by omega)
    obtain ⟨r1, r2, _, r3⟩ := rp_to (s := s) (i := (tk s i).fin) (most := 3) t2
    split
    · next h => exact ⟨r1, fun h0 => absurd h0 h, r3⟩
    · next h =>
      have h0 : (rp s (tk s i).fin 3).2.2 = 0 := by simpa using h
      have h2 := r2 h0
      unfold rr2
      split
      · exact ⟨r1, fun _ => by show i < (rp s (tk s i).fin 3).2.1; omega, .inl rfl⟩
      · next h4 =>
        obtain ⟨u1, u2, u3⟩ := tk_to (s := s) (i := (rp s (tk s i).fin 3).2.1) (fun h => h4 (by rw [h]; decide))
        obtain ⟨v1, v2, _, v3⟩ := rp_to (s := s) (i := (tk s (rp s (tk s i).fin 3).2.1).fin) (most := 6) u2
        split
        · next h => exact ⟨v1, fun h0 => absurd h0 h, v3⟩
        · next h =>
          have h0 : (rp s (tk s (rp s (tk s i).fin 3).2.1).fin 6).2.2 = 0 := by simpa using h
          exact ⟨v1, fun _ => by have := v2 h0; show i < (rp s (tk s (rp s (tk s i).fin 3).2.1).fin 6).2.1; omega, .inl rfl⟩
  · rw [if_pos hk]
    exact ⟨hat, fun h => absurd h (by simp), .inr (.inl rfl)⟩

end Go.Proofs.Ytpclldccjpncdaa
