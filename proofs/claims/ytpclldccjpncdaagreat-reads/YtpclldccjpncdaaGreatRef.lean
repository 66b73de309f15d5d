import Derived.Test.YtpclldccjpncdaaGreatValid
namespace Go.Proofs.YtpclldccjpncdaaGreat
open Go.RowKit

set_option maxHeartbeats 400000 in
theorem refWeights_any (p s t : Int) (w : World) :
    Calls Tryz.prog 72 #[.agg #[.int .i64 p, .int .i64 s, .int .i64 t]] w fun e w' => e = .returned (.agg #[.int .i64 p, .int .i64 s, .int .i64 t]) ∧ (w.alloc (.cells #[.int .i64 p, .int .i64 s, .int .i64 t] 65)).alloc (.cells #[.int .i64 p, .int .i64 s, .int .i64 t] 95) = w' := by
  go_enter Tryz.func72, Tryz.ntmps72
  go_wp2
  exact bodyPost_ret (v := .agg #[.int .i64 p, .int .i64 s, .int .i64 t]) (by simp [results, Tryz.results72, go_sem]) rfl ⟨rfl, rfl⟩

theorem nodeB_no {p s t : Int} (h : ¬ ((0 ≤ p ∧ p ≤ 250) ∧ (0 ≤ s ∧ s ≤ 250) ∧ (1 ≤ t ∧ t ≤ 250) ∧ (p = 0 ∨ 0 < s))) : false = nodeB p s t := by simp [nodeB, h]
theorem nodeB_yes {p s t : Int} (h : (0 ≤ p ∧ p ≤ 250) ∧ (0 ≤ s ∧ s ≤ 250) ∧ (1 ≤ t ∧ t ≤ 250) ∧ (p = 0 ∨ 0 < s)) : true = nodeB p s t := by simp [nodeB, h]

set_option maxHeartbeats 400000 in
theorem refIsNode_any (p s t : Int) (w : World) :
    Calls Tryz.prog 42 #[.agg #[.int .i64 p, .int .i64 s, .int .i64 t]] w fun e w' => e = .returned (.bool (nodeB p s t)) ∧ Below w.heap.size w w' := by
  go_enter Tryz.func42, Tryz.ntmps42
  go_wp2_with (go_at_call 72; refine (refWeights_any _ _ _ _).mono ?_; rintro e _ ⟨rfl, rfl⟩)
  go_loop [4] (fun i => ∃ k : Nat, k ≤ 3 ∧ i = .int .i64 k ∧ (0 < k → 0 ≤ p ∧ p ≤ 250) ∧ (1 < k → 0 ≤ s ∧ s ≤ 250) ∧ (2 < k → 0 ≤ t ∧ t ≤ 250)) (fun i => 3 - (intOf i).toNat)
  case atStart => exact ⟨0, by omega, rfl, by omega, by omega, by omega⟩
  case round =>
    obtain ⟨k, hk, rfl, h1, h2, h3⟩ := hrel
    have HN : Hid ((0 < k → 0 ≤ p ∧ p ≤ 250) ∧ (1 < k → 0 ≤ s ∧ s ≤ 250) ∧ (2 < k → 0 ≤ t ∧ t ≤ 250)) := ⟨h1, h2, h3⟩
    clear h1 h2 h3
    have : k = 0 ∨ k = 1 ∨ k = 2 ∨ k = 3 := by omega
    rcases this with rfl | rfl | rfl | rfl
    all_goals go_wp2
    all_goals first
      | (go_round; (case rel => have := HN.out; first | exact ⟨1, by omega, rfl, by omega, by omega, by omega⟩ | exact ⟨2, by omega, rfl, by omega, by omega, by omega⟩ | exact ⟨3, by omega, rfl, by omega, by omega, by omega⟩); (case measure => simp [intOf]))
      | (go_ret; refine ⟨ret_bool ?_, below_then (below_then (below_then (below_one _) (below_one _)) (below_one _)) (below_one _)⟩; have := HN.out; first | exact nodeB_no (by omega) | exact nodeB_yes (by omega) | (rw [Bool.eq_iff_iff]; simp [nodeB]; omega))

def partsI (p s t p' s' t' : Int) : Int := if p ≠ p' then 1 else if s ≠ s' then 2 else if t ≠ t' then 3 else 0

set_option maxHeartbeats 800000 in
theorem refParts_any (p s t p' s' t' : Int) (w : World) :
    Calls Tryz.prog 73 #[.agg #[.int .i64 p, .int .i64 s, .int .i64 t], .agg #[.int .i64 p', .int .i64 s', .int .i64 t']] w fun e w' => e = .returned (.int .i64 (partsI p s t p' s' t')) ∧ Below w.heap.size w w' := by
  go_enter Tryz.func73, Tryz.ntmps73
  go_wp2_with (go_at_call 72; refine (refWeights_any _ _ _ _).mono ?_; rintro e _ ⟨rfl, rfl⟩)
  go_loopw [7] (fun i wr => ∃ k : Nat, k ≤ 3 ∧ i = .int .i64 k ∧ ((0 < k → p = p') ∧ (1 < k → s = s') ∧ (2 < k → t = t')) ∧ Below w.heap.size w wr ∧
      (wr.cell? ⟨w.heap.size + 1 + 1 + 1 + 1, 0, none⟩ = some (.int .i64 p) ∧ wr.cell? ⟨w.heap.size + 1 + 1 + 1 + 1, 1, none⟩ = some (.int .i64 s) ∧ wr.cell? ⟨w.heap.size + 1 + 1 + 1 + 1, 2, none⟩ = some (.int .i64 t)) ∧
      (wr.cell? ⟨w.heap.size + 1 + 1 + 1 + 1 + 1 + 1 + 1, 0, none⟩ = some (.int .i64 p') ∧ wr.cell? ⟨w.heap.size + 1 + 1 + 1 + 1 + 1 + 1 + 1, 1, none⟩ = some (.int .i64 s') ∧ wr.cell? ⟨w.heap.size + 1 + 1 + 1 + 1 + 1 + 1 + 1, 2, none⟩ = some (.int .i64 t')))
    (fun i _ => 3 - (intOf i).toNat)
  case atStart =>
    refine ⟨0, by omega, rfl, ⟨by omega, by omega, by omega⟩, ?_, ⟨?_, ?_, ?_⟩, ?_, ?_, ?_⟩
    · exact below_then (below_then (below_then (below_then (below_then (below_then (below_then (below_one _) (below_one _)) (below_one _)) (below_one _)) (below_one _)) (below_one _)) (below_one _)) (below_one _)
    all_goals go_simp
  case round =>
    obtain ⟨k, hk, rfl, hn, hbel, ⟨c0, c1, c2⟩, d0, d1, d2⟩ := hrel
    have HN : Hid ((0 < k → p = p') ∧ (1 < k → s = s') ∧ (2 < k → t = t')) := hn
    clear hn
    have : k = 0 ∨ k = 1 ∨ k = 2 ∨ k = 3 := by omega
    rcases this with rfl | rfl | rfl | rfl
    · go_wp2
      go_quiet (fail)
      go_wp2
      all_goals first
        | (go_roundw; (case rel => exact ⟨1, by omega, rfl, ⟨fun _ => by simp_all, by omega, by omega⟩, below_drewN hbel _, ⟨c0, c1, c2⟩, d0, d1, d2⟩); (case measure => simp [intOf]))
        | (go_ret; exact ⟨ret_int (by simp_all [partsI]), below_drewN hbel _⟩)
    · go_wp2
      go_quiet (fail)
      go_wp2
      all_goals first
        | (go_roundw; (case rel => exact ⟨2, by omega, rfl, ⟨fun _ => HN.out.1 (by omega), fun _ => by simp_all, by omega⟩, below_drewN hbel _, ⟨c0, c1, c2⟩, d0, d1, d2⟩); (case measure => simp [intOf]))
        | (go_ret; have e1 := HN.out.1 (by omega); exact ⟨ret_int (by simp_all [partsI]), below_drewN hbel _⟩)
    · go_wp2
      go_quiet (fail)
      go_wp2
      all_goals first
        | (go_roundw; (case rel => exact ⟨3, by omega, rfl, ⟨fun _ => HN.out.1 (by omega), fun _ => HN.out.2.1 (by omega), fun _ => by simp_all⟩, below_drewN hbel _, ⟨c0, c1, c2⟩, d0, d1, d2⟩); (case measure => simp [intOf]))
        | (go_ret; have e1 := HN.out.1 (by omega); have e2 := HN.out.2.1 (by omega); exact ⟨ret_int (by simp_all [partsI]), below_drewN hbel _⟩)
    · go_wp2
      go_ret
      have e1 := HN.out.1 (by omega)
      have e2 := HN.out.2.1 (by omega)
      have e3 := HN.out.2.2 (by omega)
      exact ⟨ret_int (by simp_all [partsI]), hbel⟩

end Go.Proofs.YtpclldccjpncdaaGreat
