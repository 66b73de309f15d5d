import Derived.Test.YtpclldccjpncdaaRefSign
import Derived.Deep.Cut
import Derived.Deep.CutRange
import Derived.Deep.RegionWith
namespace Go.Proofs.Ytpclldccjpncdaa
open Go.RowKit

theorem three_cells {w : World} {g : Nat} {p s t : Int} {T : TypeId} (hr : w.rowIs g T 3 (fun i => #[Value.int .i64 p, .int .i64 s, .int .i64 t].getD i undef)) (L : Lay) (c lv : Nat) (hp : p = L.p c) (hs : s = L.s c) (ht : t = L.t c) (h1 : 1 ≤ lv) (h3 : lv ≤ 3) : w.cell? ⟨g, lv - 1, none⟩ = some (.int .i64 (wt L lv c)) := by
  subst hp hs ht
  have : lv = 1 ∨ lv = 2 ∨ lv = 3 := by omega
  rcases this with rfl | rfl | rfl
  · exact hr.cell (i := 0) (by omega)
  · exact hr.cell (i := 1) (by omega)
  · exact hr.cell (i := 2) (by omega)

end Go.Proofs.Ytpclldccjpncdaa
