import Derived.Test.YtpclldccjpncdaaRefMay
namespace Go.Proofs.Ytpclldccjpncdaa
open Go.RowKit

/-- two texts -/
def two (a b : ByteArray) (i : Nat) : ByteArray := if i = 0 then a else b
theorem strs_two (w : World) (a b : ByteArray) (t : TypeId) : StrsIn (w.alloc (.cells #[.string a, .string b] t)).heap.size (w.alloc (.cells #[.string a, .string b] t)) (some ⟨w.heap.size, 0, none⟩) 2 w.heap.size 0 (two a b) := by
  have hr : (w.alloc (.cells #[.string a, .string b] t)).rowIs w.heap.size t 2 (fun i => #[Value.string a, .string b].getD i undef) := row_new w _ t 2 rfl
  refine ⟨fun _ => rfl, fun _ => hr.lt, fun i hi => ?_, by omega⟩
  match i, hi with
  | 0, _ => exact hr.cell (i := 0) (by omega)
  | 1, _ => exact hr.cell (i := 1) (by omega)
theorem mayE_two {L : Lay} {a b : ByteArray} {lev : Int} : mayE L 2 (two a b) lev = cmpE L a b lev := by
  by_cases he : L.err = 0
  · by_cases hs : 24 < a.size ∨ 24 < b.size
    · rw [cmpE_long he hs]
      refine (mayE_long he ?_).symm
      rcases hs with h | h
      · exact ⟨0, by omega, by simpa [two] using h⟩
      · exact ⟨1, by omega, by simpa [two] using h⟩
    · have h24 : ∀ i, i < 2 → (two a b i).size ≤ 24 := fun i hi => by
        match i, hi with
        | 0, _ => simp [two]; omega
        | 1, _ => simp [two]; omega
      by_cases hl : lev < 1 ∨ 3 < lev
      · rw [cmpE_level he (by omega) (by omega) hl, ← mayE_level he h24 hl]
      · by_cases hp : ¬ hasP L a ∨ ¬ hasP L b
        · rw [cmpE_text he (by omega) (by omega) (by omega) (by omega) hp]
          refine (mayE_text he h24 (by omega) (by omega) ?_).symm
          rcases hp with h | h
          · exact ⟨0, by omega, by simpa [two] using h⟩
          · exact ⟨1, by omega, by simpa [two] using h⟩
        · have ha : hasP L a := Classical.byContradiction fun h => hp (.inl h)
          have hb : hasP L b := Classical.byContradiction fun h => hp (.inr h)
          rw [cmpE_ok he (by omega) (by omega) (by omega) (by omega) ha hb]
          refine (mayE_ok he h24 (by omega) (by omega) fun i hi => ?_).symm
          match i, hi with
          | 0, _ => simpa [two] using ha
          | 1, _ => simpa [two] using hb
  · rw [cmpE_err he, ← mayE_err he]
theorem cmpE_zero {L : Lay} {a b : ByteArray} {lev : Int} (h : cmpE L a b lev = 0) : L.err = 0 ∧ a.size ≤ 24 ∧ b.size ≤ 24 ∧ 1 ≤ lev ∧ lev ≤ 3 ∧ hasP L a ∧ hasP L b := by
  by_cases he : L.err = 0
  · by_cases hs : 24 < a.size ∨ 24 < b.size
    · rw [cmpE_long he hs] at h; omega
    · by_cases hl : lev < 1 ∨ 3 < lev
      · rw [cmpE_level he (by omega) (by omega) hl] at h; omega
      · by_cases hp : ¬ hasP L a ∨ ¬ hasP L b
        · rw [cmpE_text he (by omega) (by omega) (by omega) (by omega) hp] at h; omega
        · exact ⟨he, by omega, by omega, by omega, by omega, Classical.byContradiction fun h => hp (.inl h), Classical.byContradiction fun h => hp (.inr h)⟩
  · rw [cmpE_err he] at h; exact absurd h he

end Go.Proofs.Ytpclldccjpncdaa
