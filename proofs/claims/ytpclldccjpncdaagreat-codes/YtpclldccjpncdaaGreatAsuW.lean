import Derived.Test.YtpclldccjpncdaaGreatDecS
namespace Go.Proofs.YtpclldccjpncdaaGreat
open Go.RowKit

set_option maxHeartbeats 400000 in
/-- all: a list of one number -/
theorem allN_any (k b : Nat) (cap : Nat) (ao : Option Addr) (x : Int) (w : World) (h : IntsIn w.heap.size w ao k b 0 (fun _ => x)) :
    Calls Tryz.prog 57 #[.slice ao k cap, .int .i64 x] w fun e w' => e = .returned (.bool true) ∧ Below w.heap.size w w' := by
  have hk := h.le
  obtain ⟨ha, hb, hc, _⟩ := h
  go_enter Tryz.func57, Tryz.ntmps57
  go_wp2
  go_loopw [5] (fun i wr => ∃ j : Nat, j ≤ k ∧ i = .int .i64 j ∧ Below w.heap.size w wr) (fun i _ => k - (intOf i).toNat)
  case atStart => exact ⟨0, Nat.zero_le _, rfl, Below.refl _ _⟩
  case round =>
    obtain ⟨j, hj, rfl, hbel⟩ := hrel
    by_cases hlt : j < k
    · have e1 := ha (by omega)
      subst e1
      have c0 := cellTo hbel (hc j hlt) (hb (by omega))
      simp only [Nat.zero_add] at c0
      go_wp2
      go_roundw
      case rel => exact ⟨j + 1, by omega, by go_num, hbel⟩
      case measure => simp [intOf]; omega
    · go_wp2
      go_ret
      exact ⟨rfl, hbel⟩

end Go.Proofs.YtpclldccjpncdaaGreat
