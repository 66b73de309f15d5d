import Derived.Test.YtpclldccjpncdaaCompareW
import Derived.Test.YtpclldccjpncdaaRefCut
namespace Go.Proofs.Ytpclldccjpncdaa
open Go.RowKit

/-- the numbers of a text's nodes, as numbers -/
noncomputable def numsZ (L : Lay) (s : ByteArray) (q : Nat) : List Int := (nums L s q).map Int.ofNat
theorem numsZ_succ {L : Lay} (hok : L.Ok) {s : ByteArray} {q : Nat} (h : ∀ j, j < q + 1 → 0 < lenAt L.m L.tx s (pos L.m L.tx s j)) :
    numsZ L s (q + 1) = numsZ L s q ++ (List.range (L.k (pidx L.m L.tx s q))).map fun i => L.z (pidx L.m L.tx s q) i := by
  unfold numsZ
  rw [nums_succ, List.map_append]
  congr 1
  simp only [entNums, List.map_map]
  refine List.map_congr_left fun i hi => ?_
  have := hok.z _ (pidx_spec h (Nat.lt_succ_self q)).1 i (List.mem_range.1 hi)
  simp; omega

end Go.Proofs.Ytpclldccjpncdaa
