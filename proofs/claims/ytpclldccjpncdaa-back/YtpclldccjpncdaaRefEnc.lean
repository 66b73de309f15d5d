import Derived.Test.YtpclldccjpncdaaEncW
import Derived.Test.YtpclldccjpncdaaRef
namespace Go.Proofs.Ytpclldccjpncdaa
open Go.RowKit

set_option maxRecDepth 100000 in
set_option maxHeartbeats 2000000 in
theorem encode_any (L : Lay) (w : World) (h : L.In w.heap.size w) :
    Calls Try.prog 18 #[.agg #[.slice L.na L.n L.nc, .slice L.ea L.m L.ec]] w fun e w' => e = .returned (.tuple #[.string (encV L), .int .i64 L.err]) ∧ Below w.heap.size w w' := by
  have HC : Hid (Calls Try.prog 34 #[.agg #[.slice L.na L.n L.nc, .slice L.ea L.m L.ec]] (w.alloc (.cells #[.slice L.na L.n L.nc, .slice L.ea L.m L.ec] 26)) fun e w' => e = .returned (.tuple #[.string (encV L), .int .i64 L.err]) ∧ Below (w.alloc (.cells #[.slice L.na L.n L.nc, .slice L.ea L.m L.ec] 26)).heap.size (w.alloc (.cells #[.slice L.na L.n L.nc, .slice L.ea L.m L.ec] 26)) w') := codeEncode_any L _ (h.later (below_one _))
  clear h
  go_enter Try.func18, Try.ntmps18
  go_wp2_with fail
  refine Calls.mono HC.out ?_
  rintro e w1 ⟨rfl, hb1⟩
  go_wp2
  go_ret2
  exact ⟨rfl, below_then (below_one _) hb1⟩

theorem convN {w0 : World} {B : Nat} (l : List Int) (cs : Array Value) (hcs : cs = (l.map (Value.int .u8)).toArray) (hB : w0.heap.size = B) : (convert 50 9 (.slice (some ⟨B, 0, none⟩) l.length l.length)).run Try.prog (w0.alloc (.cells cs 5)) = .ok (.string (strOfNums l)) (w0.alloc (.cells cs 5)) := by
  subst hcs
  refine run_convert_bytes_arg _ 50 5 Try.underlying50 Try.underlying5 B 0 l.length l.length l rfl (fun i hi => ?_) 9 Try.underlying9
  have := World.news_of_block (heap_alloc_new w0 (.cells (l.map (Value.int .u8)).toArray 5)) i (.int .u8 (l.getD i 0)) (by simp [List.getD, List.getElem?_eq_getElem hi])
  rw [hB, Addr.add_lit] at this
  simpa using this

end Go.Proofs.Ytpclldccjpncdaa
