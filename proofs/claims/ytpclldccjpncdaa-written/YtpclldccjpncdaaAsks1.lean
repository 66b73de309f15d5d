import Derived.Test.YtpclldccjpncdaaStillP
namespace Go.Proofs.Ytpclldccjpncdaa
open Go.RowKit

/-- an Op that lies in memory, taken out -/
def opV (kind : Int) (L : Lay) (a b : ByteArray) (lev : Int) (rv : Value) : Value := .agg #[.int .i64 kind, .slice L.na L.n L.nc, .slice L.ea L.m L.ec, .string a, .string b, .int .i64 lev, rv]

end Go.Proofs.Ytpclldccjpncdaa
