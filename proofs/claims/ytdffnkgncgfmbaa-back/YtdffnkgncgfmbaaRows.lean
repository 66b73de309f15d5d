/-
  No cell of these rows narrows 'for every input' (looked for: loops, veiled, ifaces, maps, wideKeys, modest, calm, conditions, laid).
  DERIVED. THE GIVEN ROWS OF THIS SEAT. 9 by the template 'for every input the law returns true; each argument reads behind the call as it read before'; 0 by the template 'total and deterministic' (their statements: YtdffnkgncgfmbaaTotals.lean).
  GIVEN WITH THE SEED: the statements are not yours to turn. If you find one false, say at which input.
  Laid BY PROGRAM, IN A SANDBOX (cutbox-rows.mjs): the forced cells as the released guide's own fill.sh prints them over the translation 27fd4d862074a7f6… (all of the seat's roots in one cut). By AI agents, Wed Nov 11 2026. No macro, syntax, notation, axiom, sorry.
-/
import Derived.Test.YtdffnkgncgfmbaaChecked
import GoSem.Claim
import GoSem.ClaimJoined
import GoSem.ClaimMapViews
import Derived.JoinedTies
import Derived.KernelRfl
namespace Go.Proofs.Ytdffnkgncgfmbaa
/- THE CELL 'sum', in the pinned program and in every row, IS THE sha256 OF THE DUMP (.gsa) THAT YtdffnkgncgfmbaaProg.lean LOADS. Nothing in Lean hashes anything: it is a label: what it is worth is what the hold of that sum in a sandbox is worth. -/
noncomputable def Try.pinned : Pinned := { name := "ytdffnkgncgfmbaa", sum := "27fd4d862074a7f6433fa41732dc9cad66ccef9ce167dab6d53bcedf45ce10ed", checked := Try.checked }
namespace Rows
def none {H : Type} : Left H := { results := [], args := [] }

/-- 'tailorlaw.Valids': WHATEVER THE INPUT: true; the input reads as it did. -/
def validsSpec : ChangeSpec := { name := "valids", fn := fun _ => fun
  | [d] => { results := [.lit (.bool true)], args := [d] }
  | _ => none }
def validsRow : OpenClaim := { program := "ytdffnkgncgfmbaa", sum := "27fd4d862074a7f6433fa41732dc9cad66ccef9ce167dab6d53bcedf45ce10ed", func := "tailor/tailorlaw.Valids", spec := "valids", apart := false }
def ValidsSaid : Prop := validsRow.holds Try.pinned (OpenSpec.ofChange validsSpec)

/-- ITS FALSE NEIGHBOUR: 'it returns false'. Refute it at one input. -/
def validsWrong : ChangeSpec := { name := "valids", fn := fun _ => fun
  | [d] => { results := [.lit (.bool false)], args := [d] }
  | _ => none }
def ValidsWrongFalsely : Prop := validsRow.holds Try.pinned (OpenSpec.ofChange validsWrong)

/-- 'tailorlaw.Cuts': WHATEVER THE INPUT: true; the input reads as it did. -/
def cutsSpec : ChangeSpec := { name := "cuts", fn := fun _ => fun
  | [d] => { results := [.lit (.bool true)], args := [d] }
  | _ => none }
def cutsRow : OpenClaim := { program := "ytdffnkgncgfmbaa", sum := "27fd4d862074a7f6433fa41732dc9cad66ccef9ce167dab6d53bcedf45ce10ed", func := "tailor/tailorlaw.Cuts", spec := "cuts", apart := false }
def CutsSaid : Prop := cutsRow.holds Try.pinned (OpenSpec.ofChange cutsSpec)

/-- ITS FALSE NEIGHBOUR: 'it returns false'. Refute it at one input. -/
def cutsWrong : ChangeSpec := { name := "cuts", fn := fun _ => fun
  | [d] => { results := [.lit (.bool false)], args := [d] }
  | _ => none }
def CutsWrongFalsely : Prop := cutsRow.holds Try.pinned (OpenSpec.ofChange cutsWrong)

/-- 'tailorlaw.Compares': WHATEVER THE INPUT: true; the input reads as it did. -/
def comparesSpec : ChangeSpec := { name := "compares", fn := fun _ => fun
  | [d] => { results := [.lit (.bool true)], args := [d] }
  | _ => none }
def comparesRow : OpenClaim := { program := "ytdffnkgncgfmbaa", sum := "27fd4d862074a7f6433fa41732dc9cad66ccef9ce167dab6d53bcedf45ce10ed", func := "tailor/tailorlaw.Compares", spec := "compares", apart := false }
def ComparesSaid : Prop := comparesRow.holds Try.pinned (OpenSpec.ofChange comparesSpec)

/-- ITS FALSE NEIGHBOUR: 'it returns false'. Refute it at one input. -/
def comparesWrong : ChangeSpec := { name := "compares", fn := fun _ => fun
  | [d] => { results := [.lit (.bool false)], args := [d] }
  | _ => none }
def ComparesWrongFalsely : Prop := comparesRow.holds Try.pinned (OpenSpec.ofChange comparesWrong)

/-- 'tailorlaw.Keys': WHATEVER THE INPUT: true; the input reads as it did. -/
def keysSpec : ChangeSpec := { name := "keys", fn := fun _ => fun
  | [d] => { results := [.lit (.bool true)], args := [d] }
  | _ => none }
def keysRow : OpenClaim := { program := "ytdffnkgncgfmbaa", sum := "27fd4d862074a7f6433fa41732dc9cad66ccef9ce167dab6d53bcedf45ce10ed", func := "tailor/tailorlaw.Keys", spec := "keys", apart := false }
def KeysSaid : Prop := keysRow.holds Try.pinned (OpenSpec.ofChange keysSpec)

/-- ITS FALSE NEIGHBOUR: 'it returns false'. Refute it at one input. -/
def keysWrong : ChangeSpec := { name := "keys", fn := fun _ => fun
  | [d] => { results := [.lit (.bool false)], args := [d] }
  | _ => none }
def KeysWrongFalsely : Prop := keysRow.holds Try.pinned (OpenSpec.ofChange keysWrong)

/-- 'tailorkeep.Longest': WHATEVER THE INPUT: true; the input reads as it did. -/
def longestSpec : ChangeSpec := { name := "longest", fn := fun _ => fun
  | [d1, d2, d3] => { results := [.lit (.bool true)], args := [d1, d2, d3] }
  | _ => none }
def longestRow : OpenClaim := { program := "ytdffnkgncgfmbaa", sum := "27fd4d862074a7f6433fa41732dc9cad66ccef9ce167dab6d53bcedf45ce10ed", func := "tailor/tailorkeep.Longest", spec := "longest", apart := false }
def LongestSaid : Prop := longestRow.holds Try.pinned (OpenSpec.ofChange longestSpec)

/-- ITS FALSE NEIGHBOUR: 'it returns false'. Refute it at one input. -/
def longestWrong : ChangeSpec := { name := "longest", fn := fun _ => fun
  | [d1, d2, d3] => { results := [.lit (.bool false)], args := [d1, d2, d3] }
  | _ => none }
def LongestWrongFalsely : Prop := longestRow.holds Try.pinned (OpenSpec.ofChange longestWrong)

/-- 'tailorkeep.KeyOrder': WHATEVER THE INPUT: true; the input reads as it did. -/
def keyOrderSpec : ChangeSpec := { name := "keyOrder", fn := fun _ => fun
  | [d1, d2, d3, d4] => { results := [.lit (.bool true)], args := [d1, d2, d3, d4] }
  | _ => none }
def keyOrderRow : OpenClaim := { program := "ytdffnkgncgfmbaa", sum := "27fd4d862074a7f6433fa41732dc9cad66ccef9ce167dab6d53bcedf45ce10ed", func := "tailor/tailorkeep.KeyOrder", spec := "keyOrder", apart := false }
def KeyOrderSaid : Prop := keyOrderRow.holds Try.pinned (OpenSpec.ofChange keyOrderSpec)

/-- ITS FALSE NEIGHBOUR: 'it returns false'. Refute it at one input. -/
def keyOrderWrong : ChangeSpec := { name := "keyOrder", fn := fun _ => fun
  | [d1, d2, d3, d4] => { results := [.lit (.bool false)], args := [d1, d2, d3, d4] }
  | _ => none }
def KeyOrderWrongFalsely : Prop := keyOrderRow.holds Try.pinned (OpenSpec.ofChange keyOrderWrong)

/-- 'tailorkeep.Order': WHATEVER THE INPUT: true; the input reads as it did. -/
def orderSpec : ChangeSpec := { name := "order", fn := fun _ => fun
  | [d1, d2, d3, d4, d5] => { results := [.lit (.bool true)], args := [d1, d2, d3, d4, d5] }
  | _ => none }
def orderRow : OpenClaim := { program := "ytdffnkgncgfmbaa", sum := "27fd4d862074a7f6433fa41732dc9cad66ccef9ce167dab6d53bcedf45ce10ed", func := "tailor/tailorkeep.Order", spec := "order", apart := false }
def OrderSaid : Prop := orderRow.holds Try.pinned (OpenSpec.ofChange orderSpec)

/-- ITS FALSE NEIGHBOUR: 'it returns false'. Refute it at one input. -/
def orderWrong : ChangeSpec := { name := "order", fn := fun _ => fun
  | [d1, d2, d3, d4, d5] => { results := [.lit (.bool false)], args := [d1, d2, d3, d4, d5] }
  | _ => none }
def OrderWrongFalsely : Prop := orderRow.holds Try.pinned (OpenSpec.ofChange orderWrong)

/-- 'tailorlaw.Codes': WHATEVER THE INPUT: true; the input reads as it did. -/
def codesSpec : ChangeSpec := { name := "codes", fn := fun _ => fun
  | [d] => { results := [.lit (.bool true)], args := [d] }
  | _ => none }
def codesRow : OpenClaim := { program := "ytdffnkgncgfmbaa", sum := "27fd4d862074a7f6433fa41732dc9cad66ccef9ce167dab6d53bcedf45ce10ed", func := "tailor/tailorlaw.Codes", spec := "codes", apart := false }
def CodesSaid : Prop := codesRow.holds Try.pinned (OpenSpec.ofChange codesSpec)

/-- ITS FALSE NEIGHBOUR: 'it returns false'. Refute it at one input. -/
def codesWrong : ChangeSpec := { name := "codes", fn := fun _ => fun
  | [d] => { results := [.lit (.bool false)], args := [d] }
  | _ => none }
def CodesWrongFalsely : Prop := codesRow.holds Try.pinned (OpenSpec.ofChange codesWrong)

/-- 'tailorkeep.Back': WHATEVER THE INPUT: true; the input reads as it did. -/
def backSpec : ChangeSpec := { name := "back", fn := fun _ => fun
  | [d1, d2, d3] => { results := [.lit (.bool true)], args := [d1, d2, d3] }
  | _ => none }
def backRow : OpenClaim := { program := "ytdffnkgncgfmbaa", sum := "27fd4d862074a7f6433fa41732dc9cad66ccef9ce167dab6d53bcedf45ce10ed", func := "tailor/tailorkeep.Back", spec := "back", apart := false }
def BackSaid : Prop := backRow.holds Try.pinned (OpenSpec.ofChange backSpec)

/-- ITS FALSE NEIGHBOUR: 'it returns false'. Refute it at one input. -/
def backWrong : ChangeSpec := { name := "back", fn := fun _ => fun
  | [d1, d2, d3] => { results := [.lit (.bool false)], args := [d1, d2, d3] }
  | _ => none }
def BackWrongFalsely : Prop := backRow.holds Try.pinned (OpenSpec.ofChange backWrong)

/- THE SECOND FORM. 'bulk': how many values and letters a reading holds, each counted each time it is reached (what is shared counts as often as it is met; a slice's spare places count too). A statement '..UptoSaid' is the law's where the arguments, and the package variables that the reading takes, are together of bulk at most 1048576: NARROWER than '..Said'. Prove '..Said' where nothing that the law and all that it calls make is longer than what came in: it says more and counts as full. Else prove '..UptoSaid'. A law counts once. -/
mutual
def uptoBulk {H : Type} : DataW H → Nat
  | .lit (.string bytes) => bytes.length + 1
  | .lit _ => 1
  | .nil => 1
  | .ptr d => uptoBulk d + 1
  | .slice elems spare => uptoBulkAll elems + uptoBulkAll spare + 1
  | .agg parts => uptoBulkAll parts + 1
  | .iface _ d => uptoBulk d + 1
  | .map entries => uptoBulkEntries entries + 1
  | .held _ => 1
def uptoBulkAll {H : Type} : List (DataW H) → Nat
  | [] => 0
  | d :: r => uptoBulk d + uptoBulkAll r
def uptoBulkEntries {H : Type} : List (Lit × DataW H) → Nat
  | [] => 0
  | x :: r => uptoBulkEntry x + uptoBulkEntries r
def uptoBulkEntry {H : Type} : Lit × DataW H → Nat
  | (.string bytes, d) => bytes.length + uptoBulk d + 1
  | (_, d) => uptoBulk d + 1
 end
def uptoSmall : (H : Type) → List (DataW H) → Bool := fun _ ds => decide (uptoBulkAll ds ≤ 1048576)
def OpenSpec.upto (s : _root_.Go.ChangeSpec) : _root_.Go.OpenSpec := { _root_.Go.OpenSpec.ofChange s with cond := some uptoSmall }

/-- 'tailorlaw.Valids', WHERE WHAT IT READS IS OF BULK AT MOST 1048576: true; the input reads as it did. -/
def validsUptoRow : OpenClaim := { program := "ytdffnkgncgfmbaa", sum := "27fd4d862074a7f6433fa41732dc9cad66ccef9ce167dab6d53bcedf45ce10ed", func := "tailor/tailorlaw.Valids", spec := "valids", apart := false, narrowed := true }
def ValidsUptoSaid : Prop := validsUptoRow.holds Try.pinned (OpenSpec.upto validsSpec)

/-- 'tailorlaw.Cuts', WHERE WHAT IT READS IS OF BULK AT MOST 1048576: true; the input reads as it did. -/
def cutsUptoRow : OpenClaim := { program := "ytdffnkgncgfmbaa", sum := "27fd4d862074a7f6433fa41732dc9cad66ccef9ce167dab6d53bcedf45ce10ed", func := "tailor/tailorlaw.Cuts", spec := "cuts", apart := false, narrowed := true }
def CutsUptoSaid : Prop := cutsUptoRow.holds Try.pinned (OpenSpec.upto cutsSpec)

/-- 'tailorlaw.Compares', WHERE WHAT IT READS IS OF BULK AT MOST 1048576: true; the input reads as it did. -/
def comparesUptoRow : OpenClaim := { program := "ytdffnkgncgfmbaa", sum := "27fd4d862074a7f6433fa41732dc9cad66ccef9ce167dab6d53bcedf45ce10ed", func := "tailor/tailorlaw.Compares", spec := "compares", apart := false, narrowed := true }
def ComparesUptoSaid : Prop := comparesUptoRow.holds Try.pinned (OpenSpec.upto comparesSpec)

/-- 'tailorlaw.Keys', WHERE WHAT IT READS IS OF BULK AT MOST 1048576: true; the input reads as it did. -/
def keysUptoRow : OpenClaim := { program := "ytdffnkgncgfmbaa", sum := "27fd4d862074a7f6433fa41732dc9cad66ccef9ce167dab6d53bcedf45ce10ed", func := "tailor/tailorlaw.Keys", spec := "keys", apart := false, narrowed := true }
def KeysUptoSaid : Prop := keysUptoRow.holds Try.pinned (OpenSpec.upto keysSpec)

/-- 'tailorkeep.Longest', WHERE WHAT IT READS IS OF BULK AT MOST 1048576: true; the input reads as it did. -/
def longestUptoRow : OpenClaim := { program := "ytdffnkgncgfmbaa", sum := "27fd4d862074a7f6433fa41732dc9cad66ccef9ce167dab6d53bcedf45ce10ed", func := "tailor/tailorkeep.Longest", spec := "longest", apart := false, narrowed := true }
def LongestUptoSaid : Prop := longestUptoRow.holds Try.pinned (OpenSpec.upto longestSpec)

/-- 'tailorkeep.KeyOrder', WHERE WHAT IT READS IS OF BULK AT MOST 1048576: true; the input reads as it did. -/
def keyOrderUptoRow : OpenClaim := { program := "ytdffnkgncgfmbaa", sum := "27fd4d862074a7f6433fa41732dc9cad66ccef9ce167dab6d53bcedf45ce10ed", func := "tailor/tailorkeep.KeyOrder", spec := "keyOrder", apart := false, narrowed := true }
def KeyOrderUptoSaid : Prop := keyOrderUptoRow.holds Try.pinned (OpenSpec.upto keyOrderSpec)

/-- 'tailorkeep.Order', WHERE WHAT IT READS IS OF BULK AT MOST 1048576: true; the input reads as it did. -/
def orderUptoRow : OpenClaim := { program := "ytdffnkgncgfmbaa", sum := "27fd4d862074a7f6433fa41732dc9cad66ccef9ce167dab6d53bcedf45ce10ed", func := "tailor/tailorkeep.Order", spec := "order", apart := false, narrowed := true }
def OrderUptoSaid : Prop := orderUptoRow.holds Try.pinned (OpenSpec.upto orderSpec)

/-- 'tailorlaw.Codes', WHERE WHAT IT READS IS OF BULK AT MOST 1048576: true; the input reads as it did. -/
def codesUptoRow : OpenClaim := { program := "ytdffnkgncgfmbaa", sum := "27fd4d862074a7f6433fa41732dc9cad66ccef9ce167dab6d53bcedf45ce10ed", func := "tailor/tailorlaw.Codes", spec := "codes", apart := false, narrowed := true }
def CodesUptoSaid : Prop := codesUptoRow.holds Try.pinned (OpenSpec.upto codesSpec)

/-- 'tailorkeep.Back', WHERE WHAT IT READS IS OF BULK AT MOST 1048576: true; the input reads as it did. -/
def backUptoRow : OpenClaim := { program := "ytdffnkgncgfmbaa", sum := "27fd4d862074a7f6433fa41732dc9cad66ccef9ce167dab6d53bcedf45ce10ed", func := "tailor/tailorkeep.Back", spec := "back", apart := false, narrowed := true }
def BackUptoSaid : Prop := backUptoRow.holds Try.pinned (OpenSpec.upto backSpec)

end Rows
end Go.Proofs.Ytdffnkgncgfmbaa
