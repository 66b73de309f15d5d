import Derived.Test.YtpclldccjpncdabRows
import Derived.WalkKit
import Derived.WalkSpells
import Derived.WalkLawsBesides
import Derived.Deep.QuietTactic
import Derived.BigQuiet
namespace Go.Proofs.Ytpclldccjpncdab
open Go.RowKit

/-- A world that is, below block B, as w was: a name of its own (no subtype: simp would open it). -/
structure Wb (B : Nat) (w : World) where
  val : World
  below : Below B w val

instance Wb.some_ (B : Nat) (w : World) : Nonempty (Wb B w) := ⟨⟨w, Below.refl _ _⟩⟩

theorem Wb.cell {B : Nat} {w : World} {a : Addr} {v : Value} (ha : a.block < B) (h : w.cell? a = some v) : ∀ x : Wb B w, x.val.cell? a = some v := fun x => (x.below.cell ha).trans h

theorem Wb.ofCall {P : Program} {f : FuncId} {args : Array Value} {B : Nat} {w : World} (x : Wb B w) {v : Value}
    (hB : B ≤ w.heap.size) (h : Calls P f args x.val fun e w' => e = .returned v ∧ Below x.val.heap.size x.val w') : Calls P f args x.val fun e w'' => e = .returned v ∧ ∃ y : Wb B w, w'' = y.val :=
  h.mono fun _ w'' ⟨he, hb⟩ => ⟨he, ⟨w'', x.below.trans (hb.mono (Nat.le_trans hB x.below.size))⟩, rfl⟩

/-- A region that draws its order, whose operations read old cells and whose callees leave the old blocks as they were: one walk, in the order of the text. -/
theorem wp_region_below {P : Program} {id : Nat} {Q : Exit → Act → World → Prop} {a : Act} {w : World} {l : List Oper} (B : Nat) (hm : P.follows .mixedOrders = true) (hB : Region.lexB .any l.toArray = true)
    (h : wpQuiet P l.toArray (fun w' => ∃ x : Wb B w, w' = x.val) (fun a' => ∀ w', (∃ x : Wb B w, w' = x.val) → Q .normal a' w') l a) : (Code.region id l.toArray true).wp P Q a w :=
  wp_region_quiet (C := fun w' => ∃ x : Wb B w, w' = x.val) hm hB ⟨⟨_, (Below.refl B w).drew⟩, rfl⟩ (by simpa using h)

theorem bcell {W w1 : World} (hb : Below W.heap.size W w1) : (∀ b o, b < W.heap.size → w1.cell? ⟨b, o, none⟩ = W.cell? ⟨b, o, none⟩) ∧ (∀ b o, b < W.heap.size → w1.frozen? ⟨b, o, none⟩ = W.frozen? ⟨b, o, none⟩) :=
  ⟨fun b o h => hb.cell (p := ⟨b, o, none⟩) h, fun b o h => hb.frozen (p := ⟨b, o, none⟩) h⟩
theorem below_one {w : World} (o : Obj) : Below w.heap.size w (w.alloc o) := (Below.refl _ _).alloc (Nat.le_refl _) _
/-- two steps, the second one stated at its own start -/
theorem below_then {w a b : World} (h : Below w.heap.size w a) (k : Below a.heap.size a b) : Below w.heap.size w b := h.trans (k.mono h.size)

theorem cellTo {B : Nat} {w w' : World} {a : Addr} {v : Value} (h : Below B w w') (hc : w.cell? a = some v) (hb : a.block < B) : w'.cell? a = some v := (h.cell hb).trans hc

theorem ret_bool {a b : Bool} (h : a = b) : Ending.returned (.bool a) = .returned (.bool b) := by rw [h]
theorem ret_int {k : IntKind} {a b : Int} (h : a = b) : Ending.returned (.int k a) = .returned (.int k b) := by rw [h]

end Go.Proofs.Ytpclldccjpncdab

namespace Go.Proofs.Ytpclldccjpncdab
open Go.RowKit

def nodeB (p s t : Int) : Bool := decide ((0 ≤ p ∧ p ≤ 250) ∧ (0 ≤ s ∧ s ≤ 250) ∧ (1 ≤ t ∧ t ≤ 250) ∧ (p = 0 ∨ 0 < s))
def aboveB (p s t p' s' t' : Int) : Bool := if p = p' then (if s = s' then decide (t' < t) else decide (s' < s)) else decide (p' < p)

def nodesOk (n : Nat) (p s t : Nat → Int) : Prop := ∀ j, j < n → nodeB (p j) (s j) (t j) = true ∧ (0 < j → aboveB (p j) (s j) (t j) (p (j - 1)) (s (j - 1)) (t (j - 1)) = true)
open Classical in
noncomputable def nodesB (n : Nat) (p s t : Nat → Int) : Bool := decide (nodesOk n p s t)

theorem nodesB_true {n : Nat} {p s t : Nat → Int} (h : nodesOk n p s t) : true = nodesB n p s t := by simp [nodesB, h]
theorem nodesB_no1 {n k : Nat} {p s t : Nat → Int} (hk : k < n) (h : nodeB (p k) (s k) (t k) = false) : false = nodesB n p s t := by
  have : ¬ nodesOk n p s t := fun H => by have := (H k hk).1; rw [h] at this; cases this
  simp [nodesB, this]
theorem nodesB_no2 {n k : Nat} {p s t : Nat → Int} (hk : k < n) (h0 : 0 < k) (h : aboveB (p k) (s k) (t k) (p (k - 1)) (s (k - 1)) (t (k - 1)) = false) : false = nodesB n p s t := by
  have : ¬ nodesOk n p s t := fun H => by have := (H k hk).2 h0; rw [h] at this; cases this
  simp [nodesB, this]
theorem nodesOk_step {k : Nat} {p s t : Nat → Int} (h : nodesOk k p s t) (h1 : nodeB (p k) (s k) (t k) = true) (h2 : 0 < k → aboveB (p k) (s k) (t k) (p (k - 1)) (s (k - 1)) (t (k - 1)) = true) : nodesOk (k + 1) p s t := by
  intro j hj
  by_cases e : j = k
  · subst e; exact ⟨h1, h2⟩
  · exact h j (by omega)


/-! ### Entries -/
def numsOk (k : Nat) (z : Nat → Int) (n : Int) : Prop := ∀ j, j < k → 0 ≤ z j ∧ z j < n
def entryOk (size k : Nat) (z : Nat → Int) (n : Int) : Prop := (1 ≤ size ∧ size ≤ 3) ∧ (1 ≤ k ∧ k ≤ 4) ∧ numsOk k z n
open Classical in
noncomputable def entryB (size k : Nat) (z : Nat → Int) (n : Int) : Bool := decide (entryOk size k z n)
theorem entryB_yes {size k : Nat} {z : Nat → Int} {n : Int} (h : entryOk size k z n) : true = entryB size k z n := by simp [entryB, h]
theorem entryB_no {size k : Nat} {z : Nat → Int} {n : Int} (h : ¬ entryOk size k z n) : false = entryB size k z n := by simp [entryB, h]
theorem numsOk_step {k : Nat} {z : Nat → Int} {n : Int} (h : numsOk k z n) (h1 : 0 ≤ z k) (h2 : z k < n) : numsOk (k + 1) z n := by
  intro j hj
  by_cases e : j = k
  · subst e; exact ⟨h1, h2⟩
  · exact h j (by omega)

/-- texts rise -/
def lessB (a b : ByteArray) : Bool := Op.bytesLess a.toList b.toList
def entriesOk (m : Nat) (tx : Nat → ByteArray) (k : Nat → Nat) (z : Nat → Nat → Int) (n : Int) : Prop :=
  ∀ i, i < m → entryB (tx i).size (k i) (z i) n = true ∧ (0 < i → lessB (tx (i - 1)) (tx i) = true)
open Classical in
noncomputable def entriesB (m : Nat) (tx : Nat → ByteArray) (k : Nat → Nat) (z : Nat → Nat → Int) (n : Int) : Bool := decide (entriesOk m tx k z n)
theorem entriesB_yes {m : Nat} {tx : Nat → ByteArray} {k : Nat → Nat} {z : Nat → Nat → Int} {n : Int} (h : entriesOk m tx k z n) : true = entriesB m tx k z n := by simp [entriesB, h]
theorem entriesB_no1 {m i : Nat} {tx : Nat → ByteArray} {k : Nat → Nat} {z : Nat → Nat → Int} {n : Int} (hi : i < m) (h : entryB (tx i).size (k i) (z i) n = false) : false = entriesB m tx k z n := by
  have : ¬ entriesOk m tx k z n := fun H => by have := (H i hi).1; rw [h] at this; cases this
  simp [entriesB, this]
theorem entriesB_no2 {m i : Nat} {tx : Nat → ByteArray} {k : Nat → Nat} {z : Nat → Nat → Int} {n : Int} (hi : i < m) (h0 : 0 < i) (h : lessB (tx (i - 1)) (tx i) = false) : false = entriesB m tx k z n := by
  have : ¬ entriesOk m tx k z n := fun H => by have := (H i hi).2 h0; rw [h] at this; cases this
  simp [entriesB, this]
theorem entriesOk_step {i : Nat} {tx : Nat → ByteArray} {k : Nat → Nat} {z : Nat → Nat → Int} {n : Int} (h : entriesOk i tx k z n) (h1 : entryB (tx i).size (k i) (z i) n = true) (h2 : 0 < i → lessB (tx (i - 1)) (tx i) = true) : entriesOk (i + 1) tx k z n := by
  intro j hj
  by_cases e : j = i
  · subst e; exact ⟨h1, h2⟩
  · exact h j (by omega)

/-! ### What lies in memory -/
/-- numbers: k of them from off on in block b, below B -/
structure IntsIn (B : Nat) (w : World) (ao : Option Addr) (k b off : Nat) (z : Nat → Int) : Prop where
  addr : 0 < k → ao = some ⟨b, off, none⟩
  lt : 0 < k → b < B
  cell : ∀ i, i < k → w.cell? ⟨b, off + i, none⟩ = some (.int .i64 (z i))
  le : k * 8 ≤ 140737488351232
theorem IntsIn.below {B : Nat} {w w' : World} {ao : Option Addr} {k b off : Nat} {z : Nat → Int} (h : IntsIn B w ao k b off z) (hb : Below B w w') : IntsIn B w' ao k b off z :=
  ⟨h.addr, h.lt, fun i hi => (hb.cell (by exact h.lt (by omega))).trans (h.cell i hi), h.le⟩
theorem IntsIn.mono {B B' : Nat} {w : World} {ao : Option Addr} {k b off : Nat} {z : Nat → Int} (h : IntsIn B w ao k b off z) (hB : B ≤ B') : IntsIn B' w ao k b off z :=
  ⟨h.addr, fun h0 => Nat.lt_of_lt_of_le (h.lt h0) hB, h.cell, h.le⟩

structure NodesIn (B : Nat) (w : World) (ao : Option Addr) (n b off : Nat) (p s t : Nat → Int) : Prop where
  addr : 0 < n → ao = some ⟨b, off, none⟩
  lt : 0 < n → b < B
  p : ∀ i, i < n → w.cell? ⟨b, off + i * 3, none⟩ = some (.int .i64 (p i))
  s : ∀ i, i < n → w.cell? ⟨b, off + i * 3 + 1, none⟩ = some (.int .i64 (s i))
  t : ∀ i, i < n → w.cell? ⟨b, off + i * 3 + 2, none⟩ = some (.int .i64 (t i))
  le : n * 24 ≤ 140737488351232
theorem NodesIn.below {B : Nat} {w w' : World} {ao : Option Addr} {n b off : Nat} {p s t : Nat → Int} (h : NodesIn B w ao n b off p s t) (hb : Below B w w') : NodesIn B w' ao n b off p s t :=
  ⟨h.addr, h.lt, fun i hi => (hb.cell (by exact h.lt (by omega))).trans (h.p i hi), fun i hi => (hb.cell (by exact h.lt (by omega))).trans (h.s i hi), fun i hi => (hb.cell (by exact h.lt (by omega))).trans (h.t i hi), h.le⟩
theorem NodesIn.mono {B B' : Nat} {w : World} {ao : Option Addr} {n b off : Nat} {p s t : Nat → Int} (h : NodesIn B w ao n b off p s t) (hB : B ≤ B') : NodesIn B' w ao n b off p s t :=
  ⟨h.addr, fun h0 => Nat.lt_of_lt_of_le (h.lt h0) hB, h.p, h.s, h.t, h.le⟩

/-- entries: a text and a slice of numbers each -/
structure EntriesIn (B : Nat) (w : World) (ao : Option Addr) (m b off : Nat) (tx : Nat → ByteArray) (la : Nat → Option Addr) (k lc lb lo : Nat → Nat) (z : Nat → Nat → Int) : Prop where
  addr : 0 < m → ao = some ⟨b, off, none⟩
  lt : 0 < m → b < B
  text : ∀ i, i < m → w.cell? ⟨b, off + i * 2, none⟩ = some (.string (tx i))
  list : ∀ i, i < m → w.cell? ⟨b, off + i * 2 + 1, none⟩ = some (.slice (la i) (k i) (lc i))
  ints : ∀ i, i < m → IntsIn B w (la i) (k i) (lb i) (lo i) (z i)
  le : m * 40 ≤ 140737488351232
theorem EntriesIn.below {B : Nat} {w w' : World} {ao : Option Addr} {m b off : Nat} {tx : Nat → ByteArray} {la : Nat → Option Addr} {k lc lb lo : Nat → Nat} {z : Nat → Nat → Int} (h : EntriesIn B w ao m b off tx la k lc lb lo z) (hb : Below B w w') : EntriesIn B w' ao m b off tx la k lc lb lo z :=
  ⟨h.addr, h.lt, fun i hi => (hb.cell (by exact h.lt (by omega))).trans (h.text i hi), fun i hi => (hb.cell (by exact h.lt (by omega))).trans (h.list i hi), fun i hi => (h.ints i hi).below hb, h.le⟩
theorem EntriesIn.mono {B B' : Nat} {w : World} {ao : Option Addr} {m b off : Nat} {tx : Nat → ByteArray} {la : Nat → Option Addr} {k lc lb lo : Nat → Nat} {z : Nat → Nat → Int} (h : EntriesIn B w ao m b off tx la k lc lb lo z) (hB : B ≤ B') : EntriesIn B' w ao m b off tx la k lc lb lo z :=
  ⟨h.addr, fun h0 => Nat.lt_of_lt_of_le (h.lt h0) hB, h.text, h.list, fun i hi => (h.ints i hi).mono hB, h.le⟩

end Go.Proofs.Ytpclldccjpncdab

namespace Go.Proofs.Ytpclldccjpncdab
open Go.RowKit

set_option maxHeartbeats 400000 in
theorem isNode_any (p s t : Int) (w : World) :
    Calls Try.prog 67 #[.agg #[.int .i64 p, .int .i64 s, .int .i64 t]] w fun e w' => e = .returned (.bool (nodeB p s t)) ∧ Below w.heap.size w w' := by
  go_enter Try.func67, Try.ntmps67
  go_wp2
  all_goals
    go_ret
    refine ⟨ret_bool ?_, (Below.refl _ _).alloc (Nat.le_refl _) _⟩
    unfold nodeB
    rw [Bool.eq_iff_iff]; simp; try omega

set_option maxHeartbeats 400000 in
theorem isAbove_any (p s t p' s' t' : Int) (w : World) :
    Calls Try.prog 68 #[.agg #[.int .i64 p, .int .i64 s, .int .i64 t], .agg #[.int .i64 p', .int .i64 s', .int .i64 t']] w fun e w' => e = .returned (.bool (aboveB p s t p' s' t')) ∧ Below w.heap.size w w' := by
  go_enter Try.func68, Try.ntmps68
  go_wp2
  all_goals
    go_ret
    refine ⟨ret_bool ?_, ((Below.refl _ _).alloc (Nat.le_refl _) _).alloc (by simp) _⟩
    unfold aboveB
    simp_all


set_option maxHeartbeats 400000 in
theorem validNodes_any (n cap b off : Nat) (ao : Option Addr) (p s t : Nat → Int) (w : World) (hn : n ≤ 48) (h : NodesIn w.heap.size w ao n b off p s t) :
    Calls Try.prog 44 #[.slice ao n cap] w fun e w' => e = .returned (.bool (nodesB n p s t)) ∧ Below w.heap.size w w' := by
  obtain ⟨ha, hb, hp, hs, ht, _⟩ := h
  go_enter Try.func44, Try.ntmps44
  go_wp2
  go_loopw [3] (fun i wr => ∃ k : Nat, k ≤ n ∧ i = .int .i64 k ∧ Below w.heap.size w wr ∧ nodesOk k p s t) (fun i _ => n - (intOf i).toNat)
  case atStart => exact ⟨0, Nat.zero_le _, rfl, Below.refl _ _, by intro j hj; omega⟩
  case round =>
    obtain ⟨k, hk, rfl, hbel, hok⟩ := hrel
    have HOK : Hid (nodesOk k p s t) := hok
    clear hok
    by_cases hlt : k < n
    · have ha' := ha (by omega)
      subst ha'
      clear ha
      have hbb := hb (by omega)
      have c0 : wr.cell? ⟨b, off + k * 3, none⟩ = some (.int .i64 (p k)) := (hbel.cell (by exact hbb)).trans (hp k hlt)
      have c1 : wr.cell? ⟨b, off + k * 3 + 1, none⟩ = some (.int .i64 (s k)) := (hbel.cell (by exact hbb)).trans (hs k hlt)
      have c2 : wr.cell? ⟨b, off + k * 3 + 2, none⟩ = some (.int .i64 (t k)) := (hbel.cell (by exact hbb)).trans (ht k hlt)
      have hsz := hbel.size
      go_wp2_with (go_at_call 67; refine (isNode_any _ _ _ _).mono ?_; rintro e w1 ⟨rfl, hb1⟩)
      · go_ret
        exact ⟨ret_bool (nodesB_no1 hlt (by simp_all)), hbel.trans (hb1.mono hsz)⟩
      · have hz1 := hb1.size
        by_cases h0 : 0 < k
        · have d0 := Wb.cell (w := w1) (B := wr.heap.size) (by show b < _; omega) ((hb1.cell (by show b < _; omega)).trans c0)
          have d1 := Wb.cell (w := w1) (B := wr.heap.size) (by show b < _; omega) ((hb1.cell (by show b < _; omega)).trans c1)
          have d2 := Wb.cell (w := w1) (B := wr.heap.size) (by show b < _; omega) ((hb1.cell (by show b < _; omega)).trans c2)
          have g0 := Wb.cell (w := w1) (B := wr.heap.size) (by show b < _; omega) ((hb1.cell (by show b < _; omega)).trans ((hbel.cell (by exact hbb)).trans (hp (k - 1) (by omega))))
          have g1 := Wb.cell (w := w1) (B := wr.heap.size) (by show b < _; omega) ((hb1.cell (by show b < _; omega)).trans ((hbel.cell (by exact hbb)).trans (hs (k - 1) (by omega))))
          have g2 := Wb.cell (w := w1) (B := wr.heap.size) (by show b < _; omega) ((hb1.cell (by show b < _; omega)).trans ((hbel.cell (by exact hbb)).trans (ht (k - 1) (by omega))))
          refine wp_region_below wr.heap.size (by kernel_rfl) (by kernel_rfl) ?_
          repeat (go_big_quiet_step ((go_at_call 68; exact Wb.ofCall _ hz1 (isAbove_any _ _ _ _ _ _ _))))
          refine wpQuiet_nil ?_
          rintro _ ⟨x, rfl⟩
          have hx := x.below
          generalize x.val = w2 at hx
          clear d0 d1 d2 g0 g1 g2
          go_wp2
          · go_ret
            exact ⟨ret_bool (nodesB_no2 hlt h0 (by simp_all)), hbel.trans ((hb1.trans hx).mono hsz)⟩
          · go_roundw
            case rel => exact ⟨k + 1, by omega, by go_num, hbel.trans ((hb1.trans hx).mono hsz), nodesOk_step HOK.out (by simp_all) (fun _ => by simp_all)⟩
            case measure => simp [intOf]; omega
        · have hd : decide (0 < k) = false := by simpa using h0
          refine wp_region_below wr.heap.size (by kernel_rfl) (by kernel_rfl) ?_
          repeat (go_big_quiet_step (fail))
          refine wpQuiet_nil ?_
          rintro _ ⟨x, rfl⟩
          have hx := x.below
          generalize x.val = w2 at hx
          go_wp2
          go_roundw
          case rel => exact ⟨k + 1, by omega, by go_num, hbel.trans ((hb1.trans hx).mono hsz), nodesOk_step HOK.out (by simp_all) (fun h => absurd h h0)⟩
          case measure => simp [intOf]; omega
    · go_wp2
      go_ret
      have : k = n := by omega
      subst this
      exact ⟨ret_bool (nodesB_true HOK.out), hbel⟩
end Go.Proofs.Ytpclldccjpncdab

namespace Go.Proofs.Ytpclldccjpncdab
open Go.RowKit

set_option maxHeartbeats 400000 in
theorem isEntry_any (tx : ByteArray) (k lc lb lo : Nat) (la : Option Addr) (z : Nat → Int) (n : Int) (w : World) (h : IntsIn w.heap.size w la k lb lo z) :
    Calls Try.prog 69 #[.agg #[.string tx, .slice la k lc], .int .i64 n] w fun e w' => e = .returned (.bool (entryB tx.size k z n)) ∧ Below w.heap.size w w' := by
  by_cases hs : (1 ≤ tx.size ∧ tx.size ≤ 3) ∧ (1 ≤ k ∧ k ≤ 4)
  · have hx := hs
    obtain ⟨⟨h1, h2⟩, h3, h4⟩ := hs
    have ha := h.addr (by omega)
    subst ha
    have hlt := h.lt (by omega)
    have hc : ∀ (o : Obj) (i : Nat), i < k → (w.alloc o).cell? ⟨lb, lo + i, none⟩ = some (.int .i64 (z i)) := fun o i hi => by
      rw [← h.cell i hi]; exact ((Below.refl w.heap.size w).alloc (Nat.le_refl _) o).cell (by exact hlt)
    clear h
    go_enter Try.func69, Try.ntmps69
    go_wp2
    go_loop [5] (fun i => ∃ j : Nat, j ≤ k ∧ i = .int .i64 j ∧ numsOk j z n) (fun i => k - (intOf i).toNat)
    case atStart => exact ⟨0, Nat.zero_le _, rfl, by intro j hj; omega⟩
    case round =>
      obtain ⟨j, hj, rfl, hok⟩ := hrel
      have HOK : Hid (numsOk j z n) := hok
      clear hok
      by_cases hjk : j < k
      · have hcj := fun o => hc o j hjk
        go_wp2
        · go_ret
          refine ⟨ret_bool (entryB_no ?_), (Below.refl _ _).alloc (Nat.le_refl _) _⟩
          intro H
          have := H.2.2 j hjk
          omega
        · go_round
          case rel => exact ⟨j + 1, by omega, by go_num, numsOk_step HOK.out (by omega) (by omega)⟩
          case measure => simp [intOf]; omega
        · go_ret
          refine ⟨ret_bool (entryB_no ?_), (Below.refl _ _).alloc (Nat.le_refl _) _⟩
          intro H
          have := H.2.2 j hjk
          omega
      · go_wp2
        go_ret
        have : j = k := by omega
        subst this
        exact ⟨ret_bool (entryB_yes ⟨hx.1, hx.2, HOK.out⟩), (Below.refl _ _).alloc (Nat.le_refl _) _⟩
  · have hno : ¬ entryOk tx.size k z n := fun H => hs ⟨H.1, H.2.1⟩
    have HN : Hid (¬ ((1 ≤ tx.size ∧ tx.size ≤ 3) ∧ (1 ≤ k ∧ k ≤ 4))) := hs
    have HO : Hid (¬ entryOk tx.size k z n) := hno
    clear h hs hno
    go_enter Try.func69, Try.ntmps69
    go_wp2
    all_goals first
      | (go_ret; exact ⟨ret_bool (entryB_no HO.out), (Below.refl _ _).alloc (Nat.le_refl _) _⟩)
      | (exfalso; have := HN.out; omega)

theorem less_no : ∀ a b : List UInt8, (Op.bytesLess a b = true ∨ a = b) → Op.bytesLess b a = false
  | [], [], _ => by simp [Op.bytesLess]
  | [], b :: bs, _ => by simp [Op.bytesLess]
  | a :: l, [], h => by simp [Op.bytesLess] at h
  | a :: l, b :: bs, h => by
    have ih := less_no l bs
    simp only [Op.bytesLess, Bool.or_eq_true, Bool.and_eq_true, decide_eq_true_eq, beq_iff_eq, List.cons.injEq, UInt8.lt_iff_toNat_lt, ← UInt8.toNat_inj, Bool.or_eq_false_iff, decide_eq_false_iff_not, Bool.and_eq_false_iff, beq_eq_false_iff_ne, ne_eq] at h ⊢
    rcases h with (h | ⟨h1, h2⟩) | ⟨h1, h2⟩
    · omega
    · exact ⟨by omega, .inr (ih (.inl h2))⟩
    · exact ⟨by omega, .inr (ih (.inr h2))⟩
theorem less_yes : ∀ a b : List UInt8, Op.bytesLess a b = false ∧ ¬ a = b → Op.bytesLess b a = true
  | [], [], h => absurd rfl h.2
  | [], b :: bs, h => by simp [Op.bytesLess] at h
  | a :: l, [], _ => by simp [Op.bytesLess]
  | a :: l, b :: bs, h => by
    have ih := less_yes l bs
    simp only [Op.bytesLess, Bool.or_eq_true, Bool.and_eq_true, decide_eq_true_eq, beq_iff_eq, List.cons.injEq, UInt8.lt_iff_toNat_lt, ← UInt8.toNat_inj, Bool.or_eq_false_iff, decide_eq_false_iff_not, Bool.and_eq_false_iff, beq_eq_false_iff_ne, ne_eq] at h ⊢
    obtain ⟨⟨h1, h2⟩, h3⟩ := h
    by_cases e : a.toNat = b.toNat
    · refine .inr ⟨e.symm, ih ⟨?_, fun h => h3 ⟨e, h⟩⟩⟩
      rcases h2 with h2 | h2
      · exact absurd e h2
      · exact h2
    · exact .inl (by omega)

set_option maxHeartbeats 400000 in
theorem validEntries_any (m cap b off : Nat) (ao : Option Addr) (tx : Nat → ByteArray) (la : Nat → Option Addr) (k lc lb lo : Nat → Nat) (z : Nat → Nat → Int) (n : Int) (w : World) (hm : m ≤ 48)
    (h : EntriesIn w.heap.size w ao m b off tx la k lc lb lo z) :
    Calls Try.prog 45 #[.slice ao m cap, .int .i64 n] w fun e w' => e = .returned (.bool (entriesB m tx k z n)) ∧ Below w.heap.size w w' := by
  go_enter Try.func45, Try.ntmps45
  go_wp2
  go_loopw [5] (fun i wr => ∃ j : Nat, j ≤ m ∧ i = .int .i64 j ∧ Below w.heap.size w wr ∧ entriesOk j tx k z n) (fun i _ => m - (intOf i).toNat)
  case atStart => exact ⟨0, Nat.zero_le _, rfl, Below.refl _ _, by intro j hj; omega⟩
  case round =>
    obtain ⟨j, hj, rfl, hbel, hok⟩ := hrel
    have HOK : Hid (entriesOk j tx k z n) := hok
    have HE : Hid (EntriesIn w.heap.size w ao m b off tx la k lc lb lo z) := h
    clear hok h
    by_cases hlt : j < m
    · have ha' := HE.out.addr (by omega)
      subst ha'
      have hbb := HE.out.lt (by omega)
      have hsz := hbel.size
      have c0 : wr.cell? ⟨b, off + j * 2, none⟩ = some (.string (tx j)) := (hbel.cell (by exact hbb)).trans (HE.out.text j hlt)
      have c1 : wr.cell? ⟨b, off + j * 2 + 1, none⟩ = some (.slice (la j) (k j) (lc j)) := (hbel.cell (by exact hbb)).trans (HE.out.list j hlt)
      have HI : Hid (IntsIn wr.heap.size wr (la j) (k j) (lb j) (lo j) (z j)) := ((HE.out.ints j hlt).below hbel).mono hsz
      go_wp2_with (go_at_call 69; refine (isEntry_any _ _ _ _ _ _ _ _ _ HI.out).mono ?_; rintro e w1 ⟨rfl, hb1⟩)
      · go_ret
        exact ⟨ret_bool (entriesB_no1 hlt (by simp_all)), hbel.trans (hb1.mono hsz)⟩
      · have hz1 := hb1.size
        by_cases h0 : 0 < j
        · have d0 := Wb.cell (w := w1) (B := wr.heap.size) (by show b < _; omega) ((hb1.cell (by show b < _; omega)).trans c0)
          have g0 := Wb.cell (w := w1) (B := wr.heap.size) (by show b < _; omega) ((hb1.cell (by show b < _; omega)).trans ((hbel.cell (by exact hbb)).trans (HE.out.text (j - 1) (by omega))))
          refine wp_region_below wr.heap.size (by kernel_rfl) (by kernel_rfl) ?_
          repeat (go_big_quiet_step (fail))
          refine wpQuiet_nil ?_
          rintro _ ⟨x, rfl⟩
          have hx := x.below
          generalize x.val = w2 at hx
          clear d0 g0
          go_wp2
          · go_ret
            refine ⟨ret_bool (entriesB_no2 hlt h0 ?_), hbel.trans ((hb1.trans hx).mono hsz)⟩
            refine less_no _ _ ?_
            simp_all
          · go_roundw
            case rel =>
              refine ⟨j + 1, by omega, by go_num, hbel.trans ((hb1.trans hx).mono hsz), entriesOk_step HOK.out (by simp_all) (fun _ => ?_)⟩
              refine less_yes _ _ ?_
              simp_all
            case measure => simp [intOf]; omega
        · have hd : decide (0 < j) = false := by simpa using h0
          refine wp_region_below wr.heap.size (by kernel_rfl) (by kernel_rfl) ?_
          repeat (go_big_quiet_step (fail))
          refine wpQuiet_nil ?_
          rintro _ ⟨x, rfl⟩
          have hx := x.below
          generalize x.val = w2 at hx
          go_wp2
          go_roundw
          case rel => exact ⟨j + 1, by omega, by go_num, hbel.trans ((hb1.trans hx).mono hsz), entriesOk_step HOK.out (by simp_all) (fun h => absurd h h0)⟩
          case measure => simp [intOf]; omega
    · go_wp2
      go_ret
      have : j = m := by omega
      subst this
      exact ⟨ret_bool (entriesB_yes HOK.out), hbel⟩

end Go.Proofs.Ytpclldccjpncdab
