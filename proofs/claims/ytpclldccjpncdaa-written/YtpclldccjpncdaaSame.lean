import Derived.Test.YtpclldccjpncdaaLentW
namespace Go.Proofs.Ytpclldccjpncdaa
open Go.RowKit

/-- two tables of one content -/
structure Lay.Twin (L M : Lay) : Prop where
  n : M.n = L.n
  m : M.m = L.m
  p : M.p = L.p
  s : M.s = L.s
  t : M.t = L.t
  tx : M.tx = L.tx
  k : M.k = L.k
  z : M.z = L.z

end Go.Proofs.Ytpclldccjpncdaa
