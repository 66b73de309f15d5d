import Derived.Test.YtpclldccjpncdaaGreatRef
namespace Go.Proofs.YtpclldccjpncdaaGreat
open Go.RowKit

theorem refParts_at (p s t p' s' t' i : Int) (w : World) (hi : partsI p s t p' s' t' = i) :
    Calls Tryz.prog 73 #[.agg #[.int .i64 p, .int .i64 s, .int .i64 t], .agg #[.int .i64 p', .int .i64 s', .int .i64 t']] w fun e w' => e = .returned (.int .i64 i) ∧ Below w.heap.size w w' := hi ▸ refParts_any p s t p' s' t' w

theorem refWeights_b (p s t : Int) (w : World) :
    Calls Tryz.prog 72 #[.agg #[.int .i64 p, .int .i64 s, .int .i64 t]] w fun e w' => e = .returned (.agg #[.int .i64 p, .int .i64 s, .int .i64 t]) ∧ Below w.heap.size w w' :=
  (refWeights_any p s t w).mono fun _ _ ⟨he, hw⟩ => ⟨he, by rw [← hw]; exact below_then (below_one _) (below_one _)⟩

set_option maxHeartbeats 800000 in
theorem refAbove_at (p s t p' s' t' : Int) (w : World) (i : Nat) (hi3 : i ≤ 3) (hi : partsI p s t p' s' t' = i) (v : Bool) (hv0 : i = 0 → v = false) (hv1 : i = 1 → v = decide (p < p')) (hv2 : i = 2 → v = decide (s < s')) (hv3 : i = 3 → v = decide (t < t')) :
    Calls Tryz.prog 43 #[.agg #[.int .i64 p, .int .i64 s, .int .i64 t], .agg #[.int .i64 p', .int .i64 s', .int .i64 t']] w fun e w' => e = .returned (.bool v) ∧ Below w.heap.size w w' := by
  have HI : Hid (partsI p s t p' s' t' = i) := hi
  have HV : Hid ((i = 0 → v = false) ∧ (i = 1 → v = decide (p < p')) ∧ (i = 2 → v = decide (s < s')) ∧ (i = 3 → v = decide (t < t'))) := ⟨hv0, hv1, hv2, hv3⟩
  clear hi hv0 hv1 hv2 hv3
  have : i = 0 ∨ i = 1 ∨ i = 2 ∨ i = 3 := by omega
  rcases this with rfl | rfl | rfl | rfl
  all_goals
    go_enter Tryz.func43, Tryz.ntmps43
    go_wp2_with (first
      | (go_at_call 73; refine (refParts_at _ _ _ _ _ _ _ _ HI.out).mono ?_; rintro e w1 ⟨rfl, hb1⟩; obtain ⟨hc, hf⟩ := bcell hb1; have hz : w.heap.size + 1 < w1.heap.size := by have := hb1.size; simp at this; omega)
      | (go_at_call 72; have hz' := hz2; refine (refWeights_b _ _ _ _).mono ?_; rintro e w3 ⟨rfl, hb3⟩; obtain ⟨hc3, hf3⟩ := bcell hb3; have hz3 : w2.heap.size < w3.heap.size := by have := hb3.size; simp at this; omega)
      | (go_at_call 72; refine (refWeights_b _ _ _ _).mono ?_; rintro e w2 ⟨rfl, hb2⟩; obtain ⟨hc2, hf2⟩ := bcell hb2; have hz2 : w.heap.size + 1 < w2.heap.size := by have := hb2.size; omega))
    go_quiet (fail)
    go_wp2
    go_ret
    refine ⟨ret_bool ?_, below_drewN (below_then (below_then (below_then (below_then (below_then (below_then (below_one _) (below_one _)) hb1) hb2) (below_one _)) hb3) (below_one _)) _⟩
    have := HV.out
    simp_all

theorem refAbove_any (p s t p' s' t' : Int) (w : World) :
    Calls Tryz.prog 43 #[.agg #[.int .i64 p, .int .i64 s, .int .i64 t], .agg #[.int .i64 p', .int .i64 s', .int .i64 t']] w fun e w' => e = .returned (.bool (aboveB p' s' t' p s t)) ∧ Below w.heap.size w w' := by
  by_cases h1 : p = p'
  · by_cases h2 : s = s'
    · by_cases h3 : t = t'
      · exact refAbove_at p s t p' s' t' w 0 (by omega) (by simp [partsI, h1, h2, h3]) _ (fun _ => by simp [aboveB, h1, h2, h3]) (by omega) (by omega) (by omega)
      · exact refAbove_at p s t p' s' t' w 3 (by omega) (by simp [partsI, h1, h2, h3]) _ (by omega) (by omega) (by omega) (fun _ => by simp [aboveB, h1, h2])
    · exact refAbove_at p s t p' s' t' w 2 (by omega) (by simp [partsI, h1, h2]) _ (by omega) (by omega) (fun _ => by simp [aboveB, h1, Ne.symm h2]) (by omega)
  · exact refAbove_at p s t p' s' t' w 1 (by omega) (by simp [partsI, h1]) _ (by omega) (fun _ => by simp [aboveB, Ne.symm h1]) (by omega) (by omega)

end Go.Proofs.YtpclldccjpncdaaGreat
