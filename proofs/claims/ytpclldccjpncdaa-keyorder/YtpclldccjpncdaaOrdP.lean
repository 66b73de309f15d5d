import Derived.Test.YtpclldccjpncdaaKeep2
import Derived.Test.YtpclldccjpncdaaCompareW
namespace Go.Proofs.Ytpclldccjpncdaa
open Go.RowKit

/-! ### the comparison is an order -/
theorem cmpL_self : ∀ a : List Int, cmpL a a = 0
  | [] => rfl
  | a :: l => by simp [cmpL, cmpL_self l]
theorem cmpL_turn : ∀ a b : List Int, cmpL b a = - cmpL a b
  | [], [] => rfl
  | [], _ :: _ => rfl
  | _ :: _, [] => rfl
  | a :: l, b :: r => by
    have ih := cmpL_turn l r
    unfold cmpL
    by_cases h1 : a < b
    · have h2 : ¬ b < a := by omega
      simp [h1, h2]
    · by_cases h2 : b < a
      · simp [h1, h2]
      · simp [h1, h2, ih]
/-- of three: never a ring -/
def Trans3 (x y z : Int) : Prop := x ≤ 0 → y ≤ 0 → z = -1 ∨ (z = 0 ∧ x = 0 ∧ y = 0)
theorem cmpL_trans : ∀ a b c : List Int, Trans3 (cmpL a b) (cmpL b c) (cmpL a c)
  | [], [], [] => by simp [Trans3, cmpL]
  | [], [], _ :: _ => by simp [Trans3, cmpL]
  | [], _ :: _, [] => by simp [Trans3, cmpL]
  | [], _ :: _, _ :: _ => by simp [Trans3, cmpL]
  | _ :: _, [], _ => by simp [Trans3, cmpL]
  | _ :: _, _ :: _, [] => by simp [Trans3, cmpL]
  | a :: l, b :: r, c :: s => by
    have ih := cmpL_trans l r s
    unfold Trans3 at ih ⊢
    simp only [cmpL]
    intro hx hy
    by_cases h1 : a < b
    · by_cases h2 : b < c
      · exact .inl (by rw [if_pos (by omega)])
      · rw [if_neg h2] at hy
        by_cases h3 : c < b
        · rw [if_pos h3] at hy; omega
        · exact .inl (by rw [if_pos (by omega)])
    · rw [if_neg h1] at hx ⊢
      by_cases h2 : b < a
      · rw [if_pos h2] at hx; omega
      · rw [if_neg h2] at hx ⊢
        have e : a = b := by omega
        subst e
        by_cases h3 : a < c
        · exact .inl (by rw [if_pos h3])
        · rw [if_neg h3] at hy ⊢
          by_cases h4 : c < a
          · rw [if_pos h4] at hy; omega
          · rw [if_neg h4] at hy ⊢
            rw [if_neg h3, if_neg h4]
            exact ih hx hy
theorem cmpF_self (L : Lay) (a : ByteArray) : ∀ f lv, cmpFrom L a a f lv = 0
  | 0, _ => rfl
  | f + 1, lv => by simp [cmpFrom, cmpL_self, cmpF_self L a f]
theorem cmpF_turn (L : Lay) (a b : ByteArray) : ∀ f lv, cmpFrom L b a f lv = - cmpFrom L a b f lv
  | 0, _ => rfl
  | f + 1, lv => by
    have ih := cmpF_turn L a b f (lv + 1)
    have h := cmpL_turn (wl L a lv) (wl L b lv)
    unfold cmpFrom
    by_cases e : cmpL (wl L a lv) (wl L b lv) = 0
    · rw [if_neg (by rw [h, e]; simp), if_neg (by simp [e]), ih]
    · rw [if_pos (by rw [h]; omega), if_pos e, h]
theorem cmpF_vals (L : Lay) (a b : ByteArray) : ∀ f lv, cmpFrom L a b f lv = -1 ∨ cmpFrom L a b f lv = 0 ∨ cmpFrom L a b f lv = 1
  | 0, _ => .inr (.inl rfl)
  | f + 1, lv => by
    unfold cmpFrom
    split
    · exact cmpL_vals _ _
    · exact cmpF_vals L a b f (lv + 1)
theorem cmpF_trans (L : Lay) (a b c : ByteArray) : ∀ f lv, Trans3 (cmpFrom L a b f lv) (cmpFrom L b c f lv) (cmpFrom L a c f lv)
  | 0, _ => fun _ _ => .inr ⟨rfl, rfl, rfl⟩
  | f + 1, lv => by
    have ih := cmpF_trans L a b c f (lv + 1)
    have ht := cmpL_trans (wl L a lv) (wl L b lv) (wl L c lv)
    have hx := cmpL_vals (wl L a lv) (wl L b lv)
    have hy := cmpL_vals (wl L b lv) (wl L c lv)
    have hr := cmpL_trans (wl L c lv) (wl L b lv) (wl L a lv)
    rw [cmpL_turn (wl L b lv) (wl L c lv), cmpL_turn (wl L a lv) (wl L b lv), cmpL_turn (wl L a lv) (wl L c lv)] at hr
    unfold cmpFrom
    generalize cmpL (wl L a lv) (wl L b lv) = x at *
    generalize cmpL (wl L b lv) (wl L c lv) = y at *
    generalize cmpL (wl L a lv) (wl L c lv) = z at *
    unfold Trans3 at *
    by_cases e1 : x = 0
    · by_cases e2 : y = 0
      · have e3 : z = 0 := by
          have h1 := ht (by omega) (by omega)
          have h2 := hr (by omega) (by omega)
          omega
        simp only [e1, e2, e3, ne_eq, not_true_eq_false, if_false]
        exact ih
      · intro h1 h2
        rw [if_neg (by simp [e1])] at h1
        rw [if_pos e2] at h2
        have := ht (by omega) h2
        have e3 : z = -1 := by omega
        rw [e3]
        exact .inl (by simp)
    · intro h1 h2
      rw [if_pos e1] at h1
      by_cases e2 : y = 0
      · have := ht h1 (by omega)
        have e3 : z = -1 := by omega
        rw [e3]
        exact .inl (by simp)
      · rw [if_pos e2] at h2
        have := ht h1 h2
        have e3 : z = -1 := by omega
        rw [e3]
        exact .inl (by simp)
theorem cmpF_more (L : Lay) (a b : ByteArray) : ∀ f lv, cmpFrom L a b f lv ≠ 0 → cmpFrom L a b (f + 1) lv = cmpFrom L a b f lv
  | 0, _, h => absurd rfl h
  | f + 1, lv, h => by
    unfold cmpFrom at h ⊢
    by_cases e : cmpL (wl L a lv) (wl L b lv) = 0
    · rw [if_neg (by simp [e])] at h ⊢
      rw [if_neg (by simp [e])]
      exact cmpF_more L a b f (lv + 1) h
    · rw [if_pos e, if_pos e]

/-! ### a text of letters has pieces -/
theorem cut_exists (m : Nat) (tx : Nat → ByteArray) (s : ByteArray) : ∃ q, Cut m tx s q := by
  have key : ∀ d q, (∀ j, j < q → 0 < lenAt m tx s (pos m tx s j)) → s.size - pos m tx s q ≤ d → ∃ q', Cut m tx s q' := by
    intro d
    induction d with
    | zero =>
      intro q hg hd
      refine ⟨q, hg, ?_⟩
      have h1 := pos_le m tx s q
      have h2 : pos m tx s q = s.size := by omega
      rw [h2]
      exact lenAt_end m tx s
    | succ d ih =>
      intro q hg hd
      by_cases h0 : lenAt m tx s (pos m tx s q) = 0
      · exact ⟨q, hg, h0⟩
      · refine ih (q + 1) (fun j hj => ?_) ?_
        · by_cases e : j = q
          · rw [e]; omega
          · exact hg j (by omega)
        · show s.size - (pos m tx s q + lenAt m tx s (pos m tx s q)) ≤ d
          have := pos_le m tx s (q + 1)
          have h4 : pos m tx s q + lenAt m tx s (pos m tx s q) ≤ s.size := this
          omega
  exact key _ 0 (fun j hj => by omega) (Nat.le_refl _)
theorem spelt_has {L : Lay} {s : ByteArray} (h : Spelt L s) : hasP L s := by
  obtain ⟨q, hq⟩ := cut_exists L.m L.tx s
  unfold hasP
  rw [cutN_eq hq]
  have h1 := pos_le L.m L.tx s q
  by_cases e : pos L.m L.tx s q < s.size
  · have := lenAt_max (n := 1) (by omega) (by omega) (by omega) (h _ e)
    have := hq.stop
    omega
  · omega
theorem spelt_cmpE {L : Lay} {a b : ByteArray} (he : L.err = 0) (ha : Spelt L a) (hb : Spelt L b) (sa : a.size ≤ 24) (sb : b.size ≤ 24) {n : Nat} (h1 : 1 ≤ n) (h3 : n ≤ 3) : cmpE L a b (n : Int) = 0 ∧ cmpV L a b (n : Int) = cmpFrom L a b n 1 := by
  have hE : cmpE L a b (n : Int) = 0 := by
    unfold cmpE
    rw [if_neg (by simp [he]), if_neg (by omega), if_neg (by omega), if_neg (by simp [spelt_has ha, spelt_has hb])]
  refine ⟨hE, ?_⟩
  unfold cmpV
  rw [if_neg (by simp [hE])]
  rfl

end Go.Proofs.Ytpclldccjpncdaa
