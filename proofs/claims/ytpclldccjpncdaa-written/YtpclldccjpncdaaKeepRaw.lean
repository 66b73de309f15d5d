import Derived.Test.YtpclldccjpncdaaSpec
namespace Go.Proofs.Ytpclldccjpncdaa
open Go.RowKit

/-- numbers that came in: they lie there, and are int's -/
structure RawIn (B : Nat) (w : World) (ao : Option Addr) (k b off : Nat) (z : Nat → Int) : Prop where
  ints : IntsIn B w ao k b off z
  range : ∀ i, i < k → -9223372036854775808 ≤ z i ∧ z i ≤ 9223372036854775807
theorem RawIn.later {w w' : World} {ao : Option Addr} {k b off : Nat} {z : Nat → Int} (h : RawIn w.heap.size w ao k b off z) (hb : Below w.heap.size w w') : RawIn w'.heap.size w' ao k b off z :=
  ⟨(h.ints.below hb).mono hb.size, h.range⟩

end Go.Proofs.Ytpclldccjpncdaa
