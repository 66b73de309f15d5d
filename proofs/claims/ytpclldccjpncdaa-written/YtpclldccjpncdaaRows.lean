/-
  No cell of these rows narrows 'for every input' (looked for: loops, veiled, ifaces, maps, wideKeys, modest, calm, conditions, laid).
  DERIVED. THE GIVEN ROWS OF THIS SEAT. 5 by the template 'for every input the law returns true; each argument reads behind the call as it read before'; 0 by the template 'total and deterministic' (their statements: YtpclldccjpncdaaTotals.lean).
  GIVEN WITH THE SEED: the statements are not yours to turn. If you find one false, say at which input.
  Laid BY PROGRAM, IN A SANDBOX (cutbox-rows.mjs): the forced cells as the released guide's own fill.sh prints them over the translation 9dc0e4fee5b6ca85… (all of the seat's roots in one cut). By AI agents, Wed Nov 11 2026. No macro, syntax, notation, axiom, sorry.
-/
import Derived.Test.YtpclldccjpncdaaChecked
import GoSem.Claim
import GoSem.ClaimJoined
import GoSem.ClaimMapViews
import Derived.JoinedTies
import Derived.KernelRfl
namespace Go.Proofs.Ytpclldccjpncdaa
/- THE CELL 'sum', in the pinned program and in every row, IS THE sha256 OF THE DUMP (.gsa) THAT YtpclldccjpncdaaProg.lean LOADS. Nothing in Lean hashes anything: it is a label: what it is worth is what the hold of that sum in a sandbox is worth. -/
noncomputable def Try.pinned : Pinned := { name := "ytpclldccjpncdaa", sum := "9dc0e4fee5b6ca85c1464fb9a871410721f8a40561b1f4179f3332034fa30730", checked := Try.checked }
namespace Rows
def none {H : Type} : Left H := { results := [], args := [] }

/-- 'tailorkeep.Longest': WHATEVER THE INPUT: true; the input reads as it did. -/
def longestSpec : ChangeSpec := { name := "longest", fn := fun _ => fun
  | [d1, d2, d3] => { results := [.lit (.bool true)], args := [d1, d2, d3] }
  | _ => none }
def longestRow : OpenClaim := { program := "ytpclldccjpncdaa", sum := "9dc0e4fee5b6ca85c1464fb9a871410721f8a40561b1f4179f3332034fa30730", func := "tailor/tailorkeep.Longest", spec := "longest", apart := false }
def LongestSaid : Prop := longestRow.holds Try.pinned (OpenSpec.ofChange longestSpec)

/-- ITS FALSE NEIGHBOUR: 'it returns false'. Refute it at one input. -/
def longestWrong : ChangeSpec := { name := "longest", fn := fun _ => fun
  | [d1, d2, d3] => { results := [.lit (.bool false)], args := [d1, d2, d3] }
  | _ => none }
def LongestWrongFalsely : Prop := longestRow.holds Try.pinned (OpenSpec.ofChange longestWrong)

/-- 'tailorkeep.KeyOrder': WHATEVER THE INPUT: true; the input reads as it did. -/
def keyOrderSpec : ChangeSpec := { name := "keyOrder", fn := fun _ => fun
  | [d1, d2, d3, d4] => { results := [.lit (.bool true)], args := [d1, d2, d3, d4] }
  | _ => none }
def keyOrderRow : OpenClaim := { program := "ytpclldccjpncdaa", sum := "9dc0e4fee5b6ca85c1464fb9a871410721f8a40561b1f4179f3332034fa30730", func := "tailor/tailorkeep.KeyOrder", spec := "keyOrder", apart := false }
def KeyOrderSaid : Prop := keyOrderRow.holds Try.pinned (OpenSpec.ofChange keyOrderSpec)

/-- ITS FALSE NEIGHBOUR: 'it returns false'. Refute it at one input. -/
def keyOrderWrong : ChangeSpec := { name := "keyOrder", fn := fun _ => fun
  | [d1, d2, d3, d4] => { results := [.lit (.bool false)], args := [d1, d2, d3, d4] }
  | _ => none }
def KeyOrderWrongFalsely : Prop := keyOrderRow.holds Try.pinned (OpenSpec.ofChange keyOrderWrong)

/-- 'tailorkeep.Order': WHATEVER THE INPUT: true; the input reads as it did. -/
def orderSpec : ChangeSpec := { name := "order", fn := fun _ => fun
  | [d1, d2, d3, d4, d5] => { results := [.lit (.bool true)], args := [d1, d2, d3, d4, d5] }
  | _ => none }
def orderRow : OpenClaim := { program := "ytpclldccjpncdaa", sum := "9dc0e4fee5b6ca85c1464fb9a871410721f8a40561b1f4179f3332034fa30730", func := "tailor/tailorkeep.Order", spec := "order", apart := false }
def OrderSaid : Prop := orderRow.holds Try.pinned (OpenSpec.ofChange orderSpec)

/-- ITS FALSE NEIGHBOUR: 'it returns false'. Refute it at one input. -/
def orderWrong : ChangeSpec := { name := "order", fn := fun _ => fun
  | [d1, d2, d3, d4, d5] => { results := [.lit (.bool false)], args := [d1, d2, d3, d4, d5] }
  | _ => none }
def OrderWrongFalsely : Prop := orderRow.holds Try.pinned (OpenSpec.ofChange orderWrong)

/-- 'tailorkeep.Back': WHATEVER THE INPUT: true; the input reads as it did. -/
def backSpec : ChangeSpec := { name := "back", fn := fun _ => fun
  | [d1, d2, d3] => { results := [.lit (.bool true)], args := [d1, d2, d3] }
  | _ => none }
def backRow : OpenClaim := { program := "ytpclldccjpncdaa", sum := "9dc0e4fee5b6ca85c1464fb9a871410721f8a40561b1f4179f3332034fa30730", func := "tailor/tailorkeep.Back", spec := "back", apart := false }
def BackSaid : Prop := backRow.holds Try.pinned (OpenSpec.ofChange backSpec)

/-- ITS FALSE NEIGHBOUR: 'it returns false'. Refute it at one input. -/
def backWrong : ChangeSpec := { name := "back", fn := fun _ => fun
  | [d1, d2, d3] => { results := [.lit (.bool false)], args := [d1, d2, d3] }
  | _ => none }
def BackWrongFalsely : Prop := backRow.holds Try.pinned (OpenSpec.ofChange backWrong)

/-- 'tailorkeep.Written': WHATEVER THE INPUT: true; the input reads as it did. -/
def writtenSpec : ChangeSpec := { name := "written", fn := fun _ => fun
  | [d] => { results := [.lit (.bool true)], args := [d] }
  | _ => none }
def writtenRow : OpenClaim := { program := "ytpclldccjpncdaa", sum := "9dc0e4fee5b6ca85c1464fb9a871410721f8a40561b1f4179f3332034fa30730", func := "tailor/tailorkeep.Written", spec := "written", apart := false }
def WrittenSaid : Prop := writtenRow.holds Try.pinned (OpenSpec.ofChange writtenSpec)

/-- ITS FALSE NEIGHBOUR: 'it returns false'. Refute it at one input. -/
def writtenWrong : ChangeSpec := { name := "written", fn := fun _ => fun
  | [d] => { results := [.lit (.bool false)], args := [d] }
  | _ => none }
def WrittenWrongFalsely : Prop := writtenRow.holds Try.pinned (OpenSpec.ofChange writtenWrong)

/- THE SECOND FORM. 'bulk': how many values and letters a reading holds, each counted each time it is reached (what is shared counts as often as it is met; a slice's spare places count too). A statement '..UptoSaid' is the law's where the arguments, and the package variables that the reading takes, are together of bulk at most 1048576: NARROWER than '..Said'. Prove '..Said' where nothing that the law and all that it calls make is longer than what came in: it says more and counts as full. Else prove '..UptoSaid'. A law counts once. -/
mutual
def uptoBulk {H : Type} : DataW H → Nat
  | .lit (.string bytes) => bytes.length + 1
  | .lit _ => 1
  | .nil => 1
  | .ptr d => uptoBulk d + 1
  | .slice elems spare => uptoBulkAll elems + uptoBulkAll spare + 1
  | .agg parts => uptoBulkAll parts + 1
  | .iface _ d => uptoBulk d + 1
  | .map entries => uptoBulkEntries entries + 1
  | .held _ => 1
def uptoBulkAll {H : Type} : List (DataW H) → Nat
  | [] => 0
  | d :: r => uptoBulk d + uptoBulkAll r
def uptoBulkEntries {H : Type} : List (Lit × DataW H) → Nat
  | [] => 0
  | x :: r => uptoBulkEntry x + uptoBulkEntries r
def uptoBulkEntry {H : Type} : Lit × DataW H → Nat
  | (.string bytes, d) => bytes.length + uptoBulk d + 1
  | (_, d) => uptoBulk d + 1
 end
def uptoSmall : (H : Type) → List (DataW H) → Bool := fun _ ds => decide (uptoBulkAll ds ≤ 1048576)
def OpenSpec.upto (s : _root_.Go.ChangeSpec) : _root_.Go.OpenSpec := { _root_.Go.OpenSpec.ofChange s with cond := some uptoSmall }

/-- 'tailorkeep.Longest', WHERE WHAT IT READS IS OF BULK AT MOST 1048576: true; the input reads as it did. -/
def longestUptoRow : OpenClaim := { program := "ytpclldccjpncdaa", sum := "9dc0e4fee5b6ca85c1464fb9a871410721f8a40561b1f4179f3332034fa30730", func := "tailor/tailorkeep.Longest", spec := "longest", apart := false, narrowed := true }
def LongestUptoSaid : Prop := longestUptoRow.holds Try.pinned (OpenSpec.upto longestSpec)

/-- 'tailorkeep.KeyOrder', WHERE WHAT IT READS IS OF BULK AT MOST 1048576: true; the input reads as it did. -/
def keyOrderUptoRow : OpenClaim := { program := "ytpclldccjpncdaa", sum := "9dc0e4fee5b6ca85c1464fb9a871410721f8a40561b1f4179f3332034fa30730", func := "tailor/tailorkeep.KeyOrder", spec := "keyOrder", apart := false, narrowed := true }
def KeyOrderUptoSaid : Prop := keyOrderUptoRow.holds Try.pinned (OpenSpec.upto keyOrderSpec)

/-- 'tailorkeep.Order', WHERE WHAT IT READS IS OF BULK AT MOST 1048576: true; the input reads as it did. -/
def orderUptoRow : OpenClaim := { program := "ytpclldccjpncdaa", sum := "9dc0e4fee5b6ca85c1464fb9a871410721f8a40561b1f4179f3332034fa30730", func := "tailor/tailorkeep.Order", spec := "order", apart := false, narrowed := true }
def OrderUptoSaid : Prop := orderUptoRow.holds Try.pinned (OpenSpec.upto orderSpec)

/-- 'tailorkeep.Back', WHERE WHAT IT READS IS OF BULK AT MOST 1048576: true; the input reads as it did. -/
def backUptoRow : OpenClaim := { program := "ytpclldccjpncdaa", sum := "9dc0e4fee5b6ca85c1464fb9a871410721f8a40561b1f4179f3332034fa30730", func := "tailor/tailorkeep.Back", spec := "back", apart := false, narrowed := true }
def BackUptoSaid : Prop := backUptoRow.holds Try.pinned (OpenSpec.upto backSpec)

/-- 'tailorkeep.Written', WHERE WHAT IT READS IS OF BULK AT MOST 1048576: true; the input reads as it did. -/
def writtenUptoRow : OpenClaim := { program := "ytpclldccjpncdaa", sum := "9dc0e4fee5b6ca85c1464fb9a871410721f8a40561b1f4179f3332034fa30730", func := "tailor/tailorkeep.Written", spec := "written", apart := false, narrowed := true }
def WrittenUptoSaid : Prop := writtenUptoRow.holds Try.pinned (OpenSpec.upto writtenSpec)

end Rows
end Go.Proofs.Ytpclldccjpncdaa
