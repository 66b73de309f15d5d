import Derived.Test.YtpclldccjpncdaaGreatWritesW
import Derived.Test.YtpclldccjpncdaaGreatWrQ
namespace Go.Proofs.YtpclldccjpncdaaGreat
open Go.RowKit

set_option maxHeartbeats 400000 in
theorem plays_write (L : Lay) (a b : ByteArray) (lev : Int) (ra : Option Addr) (rn rc : Nat) (w : World) (h : ∃ b' off' f, RulesIn w.heap.size w ra rn b' off' f) :
    Calls Tryz.prog 11 #[.agg #[.int .i64 8, .slice L.na L.n L.nc, .slice L.ea L.m L.ec, .string a, .string b, .int .i64 lev, .slice ra rn rc]] w fun e w' => e = .returned (.bool true) ∧ Below w.heap.size w w' := by
  obtain ⟨b', off', f, hr⟩ := h
  have HR : Hid (RulesIn w.heap.size w ra rn b' off' f) := hr
  clear hr
  go_enter Tryz.func11, Tryz.ntmps11
  go_wp2_with fail
  refine (writes_of (fun wx ao n cap b off f h => write_any ao n cap b off f wx h) _ _ _ _ _ _ _ _ _ _ _ _ _ b' off' f _ (HR.out.later (below_one _))).mono ?_
  rintro e w1 ⟨rfl, hb1⟩
  go_wp2
  go_ret
  exact ⟨rfl, below_then (below_one _) hb1⟩

end Go.Proofs.YtpclldccjpncdaaGreat
