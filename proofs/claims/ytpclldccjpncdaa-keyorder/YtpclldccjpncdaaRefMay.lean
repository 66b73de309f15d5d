import Derived.Test.YtpclldccjpncdaaRefLevel
namespace Go.Proofs.Ytpclldccjpncdaa
open Go.RowKit

open Classical in
noncomputable def mayE (L : Lay) (k : Nat) (u : Nat → ByteArray) (lev : Int) : Int :=
  if L.err ≠ 0 then L.err else if ∃ i, i < k ∧ 24 < (u i).size then 4 else if lev < 1 ∨ 3 < lev then 5 else if ∃ i, i < k ∧ ¬ hasP L (u i) then 6 else 0
theorem mayE_err {L : Lay} {k : Nat} {u : Nat → ByteArray} {lev : Int} (h : L.err ≠ 0) : L.err = mayE L k u lev := by simp [mayE, h]
theorem mayE_long {L : Lay} {k : Nat} {u : Nat → ByteArray} {lev : Int} (h : L.err = 0) (h2 : ∃ i, i < k ∧ 24 < (u i).size) : 4 = mayE L k u lev := by
  unfold mayE
  rw [if_neg (by simpa using h), if_pos h2]
theorem mayE_level {L : Lay} {k : Nat} {u : Nat → ByteArray} {lev : Int} (h : L.err = 0) (h2 : ∀ i, i < k → (u i).size ≤ 24) (h3 : lev < 1 ∨ 3 < lev) : 5 = mayE L k u lev := by
  unfold mayE
  rw [if_neg (by simpa using h), if_neg (by rintro ⟨i, hi, hx⟩; have := h2 i hi; omega), if_pos h3]
theorem mayE_text {L : Lay} {k : Nat} {u : Nat → ByteArray} {lev : Int} (h : L.err = 0) (h2 : ∀ i, i < k → (u i).size ≤ 24) (h3 : 1 ≤ lev) (h4 : lev ≤ 3) (h5 : ∃ i, i < k ∧ ¬ hasP L (u i)) : 6 = mayE L k u lev := by
  unfold mayE
  rw [if_neg (by simpa using h), if_neg (by rintro ⟨i, hi, hx⟩; have := h2 i hi; omega), if_neg (by omega), if_pos h5]
theorem mayE_ok {L : Lay} {k : Nat} {u : Nat → ByteArray} {lev : Int} (h : L.err = 0) (h2 : ∀ i, i < k → (u i).size ≤ 24) (h3 : 1 ≤ lev) (h4 : lev ≤ 3) (h5 : ∀ i, i < k → hasP L (u i)) : 0 = mayE L k u lev := by
  unfold mayE
  rw [if_neg (by simpa using h), if_neg (by rintro ⟨i, hi, hx⟩; have := h2 i hi; omega), if_neg (by omega), if_neg (by rintro ⟨i, hi, hx⟩; exact hx (h5 i hi))]

end Go.Proofs.Ytpclldccjpncdaa
