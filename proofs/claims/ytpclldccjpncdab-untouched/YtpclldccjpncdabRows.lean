/-
  No cell of these rows narrows 'for every input' (looked for: loops, veiled, ifaces, maps, wideKeys, modest, calm, conditions, laid).
  DERIVED. THE GIVEN ROWS OF THIS SEAT. 3 by the template 'for every input the law returns true; each argument reads behind the call as it read before'; 0 by the template 'total and deterministic' (their statements: YtpclldccjpncdabTotals.lean).
  GIVEN WITH THE SEED: the statements are not yours to turn. If you find one false, say at which input.
  Laid BY PROGRAM, IN A SANDBOX (cutbox-rows.mjs): the forced cells as the released guide's own fill.sh prints them over the translation d1c209fd81f19573… (all of the seat's roots in one cut). By AI agents, Wed Nov 11 2026. No macro, syntax, notation, axiom, sorry.
-/
import Derived.Test.YtpclldccjpncdabChecked
import GoSem.Claim
import GoSem.ClaimJoined
import GoSem.ClaimMapViews
import Derived.JoinedTies
import Derived.KernelRfl
namespace Go.Proofs.Ytpclldccjpncdab
/- THE CELL 'sum', in the pinned program and in every row, IS THE sha256 OF THE DUMP (.gsa) THAT YtpclldccjpncdabProg.lean LOADS. Nothing in Lean hashes anything: it is a label: what it is worth is what the hold of that sum in a sandbox is worth. -/
noncomputable def Try.pinned : Pinned := { name := "ytpclldccjpncdab", sum := "d1c209fd81f19573d8dd1ad3879eab02166b54704eb0e1a23d5b3ef5a75d9aa3", checked := Try.checked }
namespace Rows
def none {H : Type} : Left H := { results := [], args := [] }

/-- 'tailorkeep.Untouched': WHATEVER THE INPUT: true; the input reads as it did. -/
def untouchedSpec : ChangeSpec := { name := "untouched", fn := fun _ => fun
  | [d1, d2, d3, d4] => { results := [.lit (.bool true)], args := [d1, d2, d3, d4] }
  | _ => none }
def untouchedRow : OpenClaim := { program := "ytpclldccjpncdab", sum := "d1c209fd81f19573d8dd1ad3879eab02166b54704eb0e1a23d5b3ef5a75d9aa3", func := "tailor/tailorkeep.Untouched", spec := "untouched", apart := false }
def UntouchedSaid : Prop := untouchedRow.holds Try.pinned (OpenSpec.ofChange untouchedSpec)

/-- ITS FALSE NEIGHBOUR: 'it returns false'. Refute it at one input. -/
def untouchedWrong : ChangeSpec := { name := "untouched", fn := fun _ => fun
  | [d1, d2, d3, d4] => { results := [.lit (.bool false)], args := [d1, d2, d3, d4] }
  | _ => none }
def UntouchedWrongFalsely : Prop := untouchedRow.holds Try.pinned (OpenSpec.ofChange untouchedWrong)

/-- 'tailorkeep.Placed': WHATEVER THE INPUT: true; the input reads as it did. -/
def placedSpec : ChangeSpec := { name := "placed", fn := fun _ => fun
  | [d1, d2, d3, d4, d5] => { results := [.lit (.bool true)], args := [d1, d2, d3, d4, d5] }
  | _ => none }
def placedRow : OpenClaim := { program := "ytpclldccjpncdab", sum := "d1c209fd81f19573d8dd1ad3879eab02166b54704eb0e1a23d5b3ef5a75d9aa3", func := "tailor/tailorkeep.Placed", spec := "placed", apart := false }
def PlacedSaid : Prop := placedRow.holds Try.pinned (OpenSpec.ofChange placedSpec)

/-- ITS FALSE NEIGHBOUR: 'it returns false'. Refute it at one input. -/
def placedWrong : ChangeSpec := { name := "placed", fn := fun _ => fun
  | [d1, d2, d3, d4, d5] => { results := [.lit (.bool false)], args := [d1, d2, d3, d4, d5] }
  | _ => none }
def PlacedWrongFalsely : Prop := placedRow.holds Try.pinned (OpenSpec.ofChange placedWrong)

/-- 'tailorkeep.Chains': WHATEVER THE INPUT: true; the input reads as it did. -/
def chainsSpec : ChangeSpec := { name := "chains", fn := fun _ => fun
  | [d1, d2, d3, d4] => { results := [.lit (.bool true)], args := [d1, d2, d3, d4] }
  | _ => none }
def chainsRow : OpenClaim := { program := "ytpclldccjpncdab", sum := "d1c209fd81f19573d8dd1ad3879eab02166b54704eb0e1a23d5b3ef5a75d9aa3", func := "tailor/tailorkeep.Chains", spec := "chains", apart := false }
def ChainsSaid : Prop := chainsRow.holds Try.pinned (OpenSpec.ofChange chainsSpec)

/-- ITS FALSE NEIGHBOUR: 'it returns false'. Refute it at one input. -/
def chainsWrong : ChangeSpec := { name := "chains", fn := fun _ => fun
  | [d1, d2, d3, d4] => { results := [.lit (.bool false)], args := [d1, d2, d3, d4] }
  | _ => none }
def ChainsWrongFalsely : Prop := chainsRow.holds Try.pinned (OpenSpec.ofChange chainsWrong)

/- THE SECOND FORM. 'bulk': how many values and letters a reading holds, each counted each time it is reached (what is shared counts as often as it is met; a slice's spare places count too). A statement '..UptoSaid' is the law's where the arguments, and the package variables that the reading takes, are together of bulk at most 1048576: NARROWER than '..Said'. Prove '..Said' where nothing that the law and all that it calls make is longer than what came in: it says more and counts as full. Else prove '..UptoSaid'. A law counts once. -/
mutual
def uptoBulk {H : Type} : DataW H → Nat
  | .lit (.string bytes) => bytes.length + 1
  | .lit _ => 1
  | .nil => 1
  | .ptr d => uptoBulk d + 1
  | .slice elems spare => uptoBulkAll elems + uptoBulkAll spare + 1
  | .agg parts => uptoBulkAll parts + 1
  | .iface _ d => uptoBulk d + 1
  | .map entries => uptoBulkEntries entries + 1
  | .held _ => 1
def uptoBulkAll {H : Type} : List (DataW H) → Nat
  | [] => 0
  | d :: r => uptoBulk d + uptoBulkAll r
def uptoBulkEntries {H : Type} : List (Lit × DataW H) → Nat
  | [] => 0
  | x :: r => uptoBulkEntry x + uptoBulkEntries r
def uptoBulkEntry {H : Type} : Lit × DataW H → Nat
  | (.string bytes, d) => bytes.length + uptoBulk d + 1
  | (_, d) => uptoBulk d + 1
 end
def uptoSmall : (H : Type) → List (DataW H) → Bool := fun _ ds => decide (uptoBulkAll ds ≤ 1048576)
def OpenSpec.upto (s : _root_.Go.ChangeSpec) : _root_.Go.OpenSpec := { _root_.Go.OpenSpec.ofChange s with cond := some uptoSmall }

/-- 'tailorkeep.Untouched', WHERE WHAT IT READS IS OF BULK AT MOST 1048576: true; the input reads as it did. -/
def untouchedUptoRow : OpenClaim := { program := "ytpclldccjpncdab", sum := "d1c209fd81f19573d8dd1ad3879eab02166b54704eb0e1a23d5b3ef5a75d9aa3", func := "tailor/tailorkeep.Untouched", spec := "untouched", apart := false, narrowed := true }
def UntouchedUptoSaid : Prop := untouchedUptoRow.holds Try.pinned (OpenSpec.upto untouchedSpec)

/-- 'tailorkeep.Placed', WHERE WHAT IT READS IS OF BULK AT MOST 1048576: true; the input reads as it did. -/
def placedUptoRow : OpenClaim := { program := "ytpclldccjpncdab", sum := "d1c209fd81f19573d8dd1ad3879eab02166b54704eb0e1a23d5b3ef5a75d9aa3", func := "tailor/tailorkeep.Placed", spec := "placed", apart := false, narrowed := true }
def PlacedUptoSaid : Prop := placedUptoRow.holds Try.pinned (OpenSpec.upto placedSpec)

/-- 'tailorkeep.Chains', WHERE WHAT IT READS IS OF BULK AT MOST 1048576: true; the input reads as it did. -/
def chainsUptoRow : OpenClaim := { program := "ytpclldccjpncdab", sum := "d1c209fd81f19573d8dd1ad3879eab02166b54704eb0e1a23d5b3ef5a75d9aa3", func := "tailor/tailorkeep.Chains", spec := "chains", apart := false, narrowed := true }
def ChainsUptoSaid : Prop := chainsUptoRow.holds Try.pinned (OpenSpec.upto chainsSpec)

end Rows
end Go.Proofs.Ytpclldccjpncdab
