import Derived.Test.YtpclldccjpncdaaRows
import Derived.WalkKit
import Derived.WalkSpells
import Derived.WalkLawsBesides
import Derived.Deep.QuietTactic
import Derived.BigQuiet
namespace Go.Proofs.Ytpclldccjpncdaa
open Go.RowKit

/-- A world that is, below block B, as w was: a name of its own (no subtype: simp would open it). -/
structure Wb (B : Nat) (w : World) where
  val : World
  below : Below B w val

instance Wb.some_ (B : Nat) (w : World) : Nonempty (Wb B w) := ⟨⟨w, Below.refl _ _⟩⟩

theorem Wb.cell {B : Nat} {w : World} {a : Addr} {v : Value} (ha : a.block < B) (h : w.cell? a = some v) : ∀ x : Wb B w, x.val.cell? a = some v := fun x => (x.below.cell ha).trans h

theorem Wb.ofCall {P : Program} {f : FuncId} {args : Array Value} {B : Nat} {w : World} (x : Wb B w) {v : Value}
    (hB : B ≤ w.heap.size) (h : Calls P f args x.val fun e w' => e = .returned v ∧ Below x.val.heap.size x.val w') : Calls P f args x.val fun e w'' => e = .returned v ∧ ∃ y : Wb B w, w'' = y.val :=
  h.mono fun _ w'' ⟨he, hb⟩ => ⟨he, ⟨w'', x.below.trans (hb.mono (Nat.le_trans hB x.below.size))⟩, rfl⟩

/-- A region that draws its order, whose operations read old cells and whose callees leave the old blocks as they were: one walk, in the order of the text. -/
theorem wp_region_below {P : Program} {id : Nat} {Q : Exit → Act → World → Prop} {a : Act} {w : World} {l : List Oper} (B : Nat) (hm : P.follows .mixedOrders = true) (hB : Region.lexB .any l.toArray = true)
    (h : wpQuiet P l.toArray (fun w' => ∃ x : Wb B w, w' = x.val) (fun a' => ∀ w', (∃ x : Wb B w, w' = x.val) → Q .normal a' w') l a) : (Code.region id l.toArray true).wp P Q a w :=
  wp_region_quiet (C := fun w' => ∃ x : Wb B w, w' = x.val) hm hB ⟨⟨_, (Below.refl B w).drew⟩, rfl⟩ (by simpa using h)

theorem bcell {W w1 : World} (hb : Below W.heap.size W w1) : (∀ b o, b < W.heap.size → w1.cell? ⟨b, o, none⟩ = W.cell? ⟨b, o, none⟩) ∧ (∀ b o, b < W.heap.size → w1.frozen? ⟨b, o, none⟩ = W.frozen? ⟨b, o, none⟩) :=
  ⟨fun b o h => hb.cell (p := ⟨b, o, none⟩) h, fun b o h => hb.frozen (p := ⟨b, o, none⟩) h⟩
theorem below_one {w : World} (o : Obj) : Below w.heap.size w (w.alloc o) := (Below.refl _ _).alloc (Nat.le_refl _) _
/-- two steps, the second one stated at its own start -/
theorem below_then {w a b : World} (h : Below w.heap.size w a) (k : Below a.heap.size a b) : Below w.heap.size w b := h.trans (k.mono h.size)

theorem cellTo {B : Nat} {w w' : World} {a : Addr} {v : Value} (h : Below B w w') (hc : w.cell? a = some v) (hb : a.block < B) : w'.cell? a = some v := (h.cell hb).trans hc

theorem ret_bool {a b : Bool} (h : a = b) : Ending.returned (.bool a) = .returned (.bool b) := by rw [h]
theorem ret_int {k : IntKind} {a b : Int} (h : a = b) : Ending.returned (.int k a) = .returned (.int k b) := by rw [h]

end Go.Proofs.Ytpclldccjpncdaa
