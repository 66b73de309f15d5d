/-
  No cell of these rows narrows 'for every input' (looked for: loops, veiled, ifaces, maps, wideKeys, modest, calm, conditions, laid).
  DERIVED. THE GIVEN ROWS OF THIS SEAT. 7 by the template 'for every input the law returns true; each argument reads behind the call as it read before'; 0 by the template 'total and deterministic' (their statements: YtpclldccjpncdaaGreatTotals.lean).
  GIVEN WITH THE SEED: the statements are not yours to turn. If you find one false, say at which input.
  Laid BY PROGRAM, IN A SANDBOX (cutbox-rows.mjs): the forced cells as the released guide's own fill.sh prints them over the translation b53d152dccd5d0fe… (all of the seat's roots in one cut). By AI agents, Wed Nov 11 2026. No macro, syntax, notation, axiom, sorry.
-/
import Derived.Test.YtpclldccjpncdaaGreatChecked
import GoSem.Claim
import GoSem.ClaimJoined
import GoSem.ClaimMapViews
import Derived.JoinedTies
import Derived.KernelRfl
namespace Go.Proofs.YtpclldccjpncdaaGreat
/- THE CELL 'sum', in the pinned program and in every row, IS THE sha256 OF THE DUMP (.gsa) THAT YtpclldccjpncdaaGreatProg.lean LOADS. Nothing in Lean hashes anything: it is a label: what it is worth is what the hold of that sum in a sandbox is worth. -/
noncomputable def Tryz.pinned : Pinned := { name := "ytpclldccjpncdaagreat", sum := "b53d152dccd5d0feaa99b436675e1c591bed8250bccd6aa04c7ff1cc6b9069c6", checked := Tryz.checked }
namespace Rows
def none {H : Type} : Left H := { results := [], args := [] }

/-- 'tailorlaw.Valids': WHATEVER THE INPUT: true; the input reads as it did. -/
def validsSpec : ChangeSpec := { name := "valids", fn := fun _ => fun
  | [d] => { results := [.lit (.bool true)], args := [d] }
  | _ => none }
def validsRow : OpenClaim := { program := "ytpclldccjpncdaagreat", sum := "b53d152dccd5d0feaa99b436675e1c591bed8250bccd6aa04c7ff1cc6b9069c6", func := "tailor/tailorlaw.Valids", spec := "valids", apart := false }
def ValidsSaid : Prop := validsRow.holds Tryz.pinned (OpenSpec.ofChange validsSpec)

/-- ITS FALSE NEIGHBOUR: 'it returns false'. Refute it at one input. -/
def validsWrong : ChangeSpec := { name := "valids", fn := fun _ => fun
  | [d] => { results := [.lit (.bool false)], args := [d] }
  | _ => none }
def ValidsWrongFalsely : Prop := validsRow.holds Tryz.pinned (OpenSpec.ofChange validsWrong)

/-- 'tailorlaw.Cuts': WHATEVER THE INPUT: true; the input reads as it did. -/
def cutsSpec : ChangeSpec := { name := "cuts", fn := fun _ => fun
  | [d] => { results := [.lit (.bool true)], args := [d] }
  | _ => none }
def cutsRow : OpenClaim := { program := "ytpclldccjpncdaagreat", sum := "b53d152dccd5d0feaa99b436675e1c591bed8250bccd6aa04c7ff1cc6b9069c6", func := "tailor/tailorlaw.Cuts", spec := "cuts", apart := false }
def CutsSaid : Prop := cutsRow.holds Tryz.pinned (OpenSpec.ofChange cutsSpec)

/-- ITS FALSE NEIGHBOUR: 'it returns false'. Refute it at one input. -/
def cutsWrong : ChangeSpec := { name := "cuts", fn := fun _ => fun
  | [d] => { results := [.lit (.bool false)], args := [d] }
  | _ => none }
def CutsWrongFalsely : Prop := cutsRow.holds Tryz.pinned (OpenSpec.ofChange cutsWrong)

/-- 'tailorlaw.Compares': WHATEVER THE INPUT: true; the input reads as it did. -/
def comparesSpec : ChangeSpec := { name := "compares", fn := fun _ => fun
  | [d] => { results := [.lit (.bool true)], args := [d] }
  | _ => none }
def comparesRow : OpenClaim := { program := "ytpclldccjpncdaagreat", sum := "b53d152dccd5d0feaa99b436675e1c591bed8250bccd6aa04c7ff1cc6b9069c6", func := "tailor/tailorlaw.Compares", spec := "compares", apart := false }
def ComparesSaid : Prop := comparesRow.holds Tryz.pinned (OpenSpec.ofChange comparesSpec)

/-- ITS FALSE NEIGHBOUR: 'it returns false'. Refute it at one input. -/
def comparesWrong : ChangeSpec := { name := "compares", fn := fun _ => fun
  | [d] => { results := [.lit (.bool false)], args := [d] }
  | _ => none }
def ComparesWrongFalsely : Prop := comparesRow.holds Tryz.pinned (OpenSpec.ofChange comparesWrong)

/-- 'tailorlaw.Keys': WHATEVER THE INPUT: true; the input reads as it did. -/
def keysSpec : ChangeSpec := { name := "keys", fn := fun _ => fun
  | [d] => { results := [.lit (.bool true)], args := [d] }
  | _ => none }
def keysRow : OpenClaim := { program := "ytpclldccjpncdaagreat", sum := "b53d152dccd5d0feaa99b436675e1c591bed8250bccd6aa04c7ff1cc6b9069c6", func := "tailor/tailorlaw.Keys", spec := "keys", apart := false }
def KeysSaid : Prop := keysRow.holds Tryz.pinned (OpenSpec.ofChange keysSpec)

/-- ITS FALSE NEIGHBOUR: 'it returns false'. Refute it at one input. -/
def keysWrong : ChangeSpec := { name := "keys", fn := fun _ => fun
  | [d] => { results := [.lit (.bool false)], args := [d] }
  | _ => none }
def KeysWrongFalsely : Prop := keysRow.holds Tryz.pinned (OpenSpec.ofChange keysWrong)

/-- 'tailorlaw.Codes': WHATEVER THE INPUT: true; the input reads as it did. -/
def codesSpec : ChangeSpec := { name := "codes", fn := fun _ => fun
  | [d] => { results := [.lit (.bool true)], args := [d] }
  | _ => none }
def codesRow : OpenClaim := { program := "ytpclldccjpncdaagreat", sum := "b53d152dccd5d0feaa99b436675e1c591bed8250bccd6aa04c7ff1cc6b9069c6", func := "tailor/tailorlaw.Codes", spec := "codes", apart := false }
def CodesSaid : Prop := codesRow.holds Tryz.pinned (OpenSpec.ofChange codesSpec)

/-- ITS FALSE NEIGHBOUR: 'it returns false'. Refute it at one input. -/
def codesWrong : ChangeSpec := { name := "codes", fn := fun _ => fun
  | [d] => { results := [.lit (.bool false)], args := [d] }
  | _ => none }
def CodesWrongFalsely : Prop := codesRow.holds Tryz.pinned (OpenSpec.ofChange codesWrong)

/-- 'tailorlaw.Reads': WHATEVER THE INPUT: true; the input reads as it did. -/
def readsSpec : ChangeSpec := { name := "reads", fn := fun _ => fun
  | [d] => { results := [.lit (.bool true)], args := [d] }
  | _ => none }
def readsRow : OpenClaim := { program := "ytpclldccjpncdaagreat", sum := "b53d152dccd5d0feaa99b436675e1c591bed8250bccd6aa04c7ff1cc6b9069c6", func := "tailor/tailorlaw.Reads", spec := "reads", apart := false }
def ReadsSaid : Prop := readsRow.holds Tryz.pinned (OpenSpec.ofChange readsSpec)

/-- ITS FALSE NEIGHBOUR: 'it returns false'. Refute it at one input. -/
def readsWrong : ChangeSpec := { name := "reads", fn := fun _ => fun
  | [d] => { results := [.lit (.bool false)], args := [d] }
  | _ => none }
def ReadsWrongFalsely : Prop := readsRow.holds Tryz.pinned (OpenSpec.ofChange readsWrong)

/-- 'tailorlaw.Writes': WHATEVER THE INPUT: true; the input reads as it did. -/
def writesSpec : ChangeSpec := { name := "writes", fn := fun _ => fun
  | [d] => { results := [.lit (.bool true)], args := [d] }
  | _ => none }
def writesRow : OpenClaim := { program := "ytpclldccjpncdaagreat", sum := "b53d152dccd5d0feaa99b436675e1c591bed8250bccd6aa04c7ff1cc6b9069c6", func := "tailor/tailorlaw.Writes", spec := "writes", apart := false }
def WritesSaid : Prop := writesRow.holds Tryz.pinned (OpenSpec.ofChange writesSpec)

/-- ITS FALSE NEIGHBOUR: 'it returns false'. Refute it at one input. -/
def writesWrong : ChangeSpec := { name := "writes", fn := fun _ => fun
  | [d] => { results := [.lit (.bool false)], args := [d] }
  | _ => none }
def WritesWrongFalsely : Prop := writesRow.holds Tryz.pinned (OpenSpec.ofChange writesWrong)

/- THE SECOND FORM. 'bulk': how many values and letters a reading holds, each counted each time it is reached (what is shared counts as often as it is met; a slice's spare places count too). A statement '..UptoSaid' is the law's where the arguments, and the package variables that the reading takes, are together of bulk at most 1048576: NARROWER than '..Said'. Prove '..Said' where nothing that the law and all that it calls make is longer than what came in: it says more and counts as full. Else prove '..UptoSaid'. A law counts once. -/
mutual
def uptoBulk {H : Type} : DataW H → Nat
  | .lit (.string bytes) => bytes.length + 1
  | .lit _ => 1
  | .nil => 1
  | .ptr d => uptoBulk d + 1
  | .slice elems spare => uptoBulkAll elems + uptoBulkAll spare + 1
  | .agg parts => uptoBulkAll parts + 1
  | .iface _ d => uptoBulk d + 1
  | .map entries => uptoBulkEntries entries + 1
  | .held _ => 1
def uptoBulkAll {H : Type} : List (DataW H) → Nat
  | [] => 0
  | d :: r => uptoBulk d + uptoBulkAll r
def uptoBulkEntries {H : Type} : List (Lit × DataW H) → Nat
  | [] => 0
  | x :: r => uptoBulkEntry x + uptoBulkEntries r
def uptoBulkEntry {H : Type} : Lit × DataW H → Nat
  | (.string bytes, d) => bytes.length + uptoBulk d + 1
  | (_, d) => uptoBulk d + 1
 end
def uptoSmall : (H : Type) → List (DataW H) → Bool := fun _ ds => decide (uptoBulkAll ds ≤ 1048576)
def OpenSpec.upto (s : _root_.Go.ChangeSpec) : _root_.Go.OpenSpec := { _root_.Go.OpenSpec.ofChange s with cond := some uptoSmall }

/-- 'tailorlaw.Valids', WHERE WHAT IT READS IS OF BULK AT MOST 1048576: true; the input reads as it did. -/
def validsUptoRow : OpenClaim := { program := "ytpclldccjpncdaagreat", sum := "b53d152dccd5d0feaa99b436675e1c591bed8250bccd6aa04c7ff1cc6b9069c6", func := "tailor/tailorlaw.Valids", spec := "valids", apart := false, narrowed := true }
def ValidsUptoSaid : Prop := validsUptoRow.holds Tryz.pinned (OpenSpec.upto validsSpec)

/-- 'tailorlaw.Cuts', WHERE WHAT IT READS IS OF BULK AT MOST 1048576: true; the input reads as it did. -/
def cutsUptoRow : OpenClaim := { program := "ytpclldccjpncdaagreat", sum := "b53d152dccd5d0feaa99b436675e1c591bed8250bccd6aa04c7ff1cc6b9069c6", func := "tailor/tailorlaw.Cuts", spec := "cuts", apart := false, narrowed := true }
def CutsUptoSaid : Prop := cutsUptoRow.holds Tryz.pinned (OpenSpec.upto cutsSpec)

/-- 'tailorlaw.Compares', WHERE WHAT IT READS IS OF BULK AT MOST 1048576: true; the input reads as it did. -/
def comparesUptoRow : OpenClaim := { program := "ytpclldccjpncdaagreat", sum := "b53d152dccd5d0feaa99b436675e1c591bed8250bccd6aa04c7ff1cc6b9069c6", func := "tailor/tailorlaw.Compares", spec := "compares", apart := false, narrowed := true }
def ComparesUptoSaid : Prop := comparesUptoRow.holds Tryz.pinned (OpenSpec.upto comparesSpec)

/-- 'tailorlaw.Keys', WHERE WHAT IT READS IS OF BULK AT MOST 1048576: true; the input reads as it did. -/
def keysUptoRow : OpenClaim := { program := "ytpclldccjpncdaagreat", sum := "b53d152dccd5d0feaa99b436675e1c591bed8250bccd6aa04c7ff1cc6b9069c6", func := "tailor/tailorlaw.Keys", spec := "keys", apart := false, narrowed := true }
def KeysUptoSaid : Prop := keysUptoRow.holds Tryz.pinned (OpenSpec.upto keysSpec)

/-- 'tailorlaw.Codes', WHERE WHAT IT READS IS OF BULK AT MOST 1048576: true; the input reads as it did. -/
def codesUptoRow : OpenClaim := { program := "ytpclldccjpncdaagreat", sum := "b53d152dccd5d0feaa99b436675e1c591bed8250bccd6aa04c7ff1cc6b9069c6", func := "tailor/tailorlaw.Codes", spec := "codes", apart := false, narrowed := true }
def CodesUptoSaid : Prop := codesUptoRow.holds Tryz.pinned (OpenSpec.upto codesSpec)

/-- 'tailorlaw.Reads', WHERE WHAT IT READS IS OF BULK AT MOST 1048576: true; the input reads as it did. -/
def readsUptoRow : OpenClaim := { program := "ytpclldccjpncdaagreat", sum := "b53d152dccd5d0feaa99b436675e1c591bed8250bccd6aa04c7ff1cc6b9069c6", func := "tailor/tailorlaw.Reads", spec := "reads", apart := false, narrowed := true }
def ReadsUptoSaid : Prop := readsUptoRow.holds Tryz.pinned (OpenSpec.upto readsSpec)

/-- 'tailorlaw.Writes', WHERE WHAT IT READS IS OF BULK AT MOST 1048576: true; the input reads as it did. -/
def writesUptoRow : OpenClaim := { program := "ytpclldccjpncdaagreat", sum := "b53d152dccd5d0feaa99b436675e1c591bed8250bccd6aa04c7ff1cc6b9069c6", func := "tailor/tailorlaw.Writes", spec := "writes", apart := false, narrowed := true }
def WritesUptoSaid : Prop := writesUptoRow.holds Tryz.pinned (OpenSpec.upto writesSpec)

end Rows
end Go.Proofs.YtpclldccjpncdaaGreat
