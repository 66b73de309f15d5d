import Derived.Test.YtpclldccjpncdaaBase
namespace Go.Proofs.Ytpclldccjpncdaa
open Go.RowKit

def nodeB (p s t : Int) : Bool := decide ((0 ≤ p ∧ p ≤ 250) ∧ (0 ≤ s ∧ s ≤ 250) ∧ (1 ≤ t ∧ t ≤ 250) ∧ (p = 0 ∨ 0 < s))
def aboveB (p s t p' s' t' : Int) : Bool := if p = p' then (if s = s' then decide (t' < t) else decide (s' < s)) else decide (p' < p)

def nodesOk (n : Nat) (p s t : Nat → Int) : Prop := ∀ j, j < n → nodeB (p j) (s j) (t j) = true ∧ (0 < j → aboveB (p j) (s j) (t j) (p (j - 1)) (s (j - 1)) (t (j - 1)) = true)
open Classical in
noncomputable def nodesB (n : Nat) (p s t : Nat → Int) : Bool := decide (nodesOk n p s t)

theorem nodesB_true {n : Nat} {p s t : Nat → Int} (h : nodesOk n p s t) : true = nodesB n p s t := by simp [nodesB, h]
theorem nodesB_no1 {n k : Nat} {p s t : Nat → Int} (hk : k < n) (h : nodeB (p k) (s k) (t k) = false) : false = nodesB n p s t := by
  have : ¬ nodesOk n p s t := fun H => by have := (H k hk).1; rw [h] at this; cases this
  simp [nodesB, this]
theorem nodesB_no2 {n k : Nat} {p s t : Nat → Int} (hk : k < n) (h0 : 0 < k) (h : aboveB (p k) (s k) (t k) (p (k - 1)) (s (k - 1)) (t (k - 1)) = false) : false = nodesB n p s t := by
  have : ¬ nodesOk n p s t := fun H => by have := (H k hk).2 h0; rw [h] at this; cases this
  simp [nodesB, this]
theorem nodesOk_step {k : Nat} {p s t : Nat → Int} (h : nodesOk k p s t) (h1 : nodeB (p k) (s k) (t k) = true) (h2 : 0 < k → aboveB (p k) (s k) (t k) (p (k - 1)) (s (k - 1)) (t (k - 1)) = true) : nodesOk (k + 1) p s t := by
  intro j hj
  by_cases e : j = k
  · subst e; exact ⟨h1, h2⟩
  · exact h j (by omega)


/-! ### Entries -/
def numsOk (k : Nat) (z : Nat → Int) (n : Int) : Prop := ∀ j, j < k → 0 ≤ z j ∧ z j < n
def entryOk (size k : Nat) (z : Nat → Int) (n : Int) : Prop := (1 ≤ size ∧ size ≤ 3) ∧ (1 ≤ k ∧ k ≤ 4) ∧ numsOk k z n
open Classical in
noncomputable def entryB (size k : Nat) (z : Nat → Int) (n : Int) : Bool := decide (entryOk size k z n)
theorem entryB_yes {size k : Nat} {z : Nat → Int} {n : Int} (h : entryOk size k z n) : true = entryB size k z n := by simp [entryB, h]
theorem entryB_no {size k : Nat} {z : Nat → Int} {n : Int} (h : ¬ entryOk size k z n) : false = entryB size k z n := by simp [entryB, h]
theorem numsOk_step {k : Nat} {z : Nat → Int} {n : Int} (h : numsOk k z n) (h1 : 0 ≤ z k) (h2 : z k < n) : numsOk (k + 1) z n := by
  intro j hj
  by_cases e : j = k
  · subst e; exact ⟨h1, h2⟩
  · exact h j (by omega)

/-- texts rise -/
def lessB (a b : ByteArray) : Bool := Op.bytesLess a.toList b.toList
def entriesOk (m : Nat) (tx : Nat → ByteArray) (k : Nat → Nat) (z : Nat → Nat → Int) (n : Int) : Prop :=
  ∀ i, i < m → entryB (tx i).size (k i) (z i) n = true ∧ (0 < i → lessB (tx (i - 1)) (tx i) = true)
open Classical in
noncomputable def entriesB (m : Nat) (tx : Nat → ByteArray) (k : Nat → Nat) (z : Nat → Nat → Int) (n : Int) : Bool := decide (entriesOk m tx k z n)
theorem entriesB_yes {m : Nat} {tx : Nat → ByteArray} {k : Nat → Nat} {z : Nat → Nat → Int} {n : Int} (h : entriesOk m tx k z n) : true = entriesB m tx k z n := by simp [entriesB, h]
theorem entriesB_no1 {m i : Nat} {tx : Nat → ByteArray} {k : Nat → Nat} {z : Nat → Nat → Int} {n : Int} (hi : i < m) (h : entryB (tx i).size (k i) (z i) n = false) : false = entriesB m tx k z n := by
  have : ¬ entriesOk m tx k z n := fun H => by have := (H i hi).1; rw [h] at this; cases this
  simp [entriesB, this]
theorem entriesB_no2 {m i : Nat} {tx : Nat → ByteArray} {k : Nat → Nat} {z : Nat → Nat → Int} {n : Int} (hi : i < m) (h0 : 0 < i) (h : lessB (tx (i - 1)) (tx i) = false) : false = entriesB m tx k z n := by
  have : ¬ entriesOk m tx k z n := fun H => by have := (H i hi).2 h0; rw [h] at this; cases this
  simp [entriesB, this]
theorem entriesOk_step {i : Nat} {tx : Nat → ByteArray} {k : Nat → Nat} {z : Nat → Nat → Int} {n : Int} (h : entriesOk i tx k z n) (h1 : entryB (tx i).size (k i) (z i) n = true) (h2 : 0 < i → lessB (tx (i - 1)) (tx i) = true) : entriesOk (i + 1) tx k z n := by
  intro j hj
  by_cases e : j = i
  · subst e; exact ⟨h1, h2⟩
  · exact h j (by omega)

/-! ### What lies in memory -/
/-- numbers: k of them from off on in block b, below B -/
structure IntsIn (B : Nat) (w : World) (ao : Option Addr) (k b off : Nat) (z : Nat → Int) : Prop where
  addr : 0 < k → ao = some ⟨b, off, none⟩
  lt : 0 < k → b < B
  cell : ∀ i, i < k → w.cell? ⟨b, off + i, none⟩ = some (.int .i64 (z i))
  le : k * 8 ≤ 140737488351232
theorem IntsIn.below {B : Nat} {w w' : World} {ao : Option Addr} {k b off : Nat} {z : Nat → Int} (h : IntsIn B w ao k b off z) (hb : Below B w w') : IntsIn B w' ao k b off z :=
  ⟨h.addr, h.lt, fun i hi => (hb.cell (by exact h.lt (by omega))).trans (h.cell i hi), h.le⟩
theorem IntsIn.mono {B B' : Nat} {w : World} {ao : Option Addr} {k b off : Nat} {z : Nat → Int} (h : IntsIn B w ao k b off z) (hB : B ≤ B') : IntsIn B' w ao k b off z :=
  ⟨h.addr, fun h0 => Nat.lt_of_lt_of_le (h.lt h0) hB, h.cell, h.le⟩

structure NodesIn (B : Nat) (w : World) (ao : Option Addr) (n b off : Nat) (p s t : Nat → Int) : Prop where
  addr : 0 < n → ao = some ⟨b, off, none⟩
  lt : 0 < n → b < B
  p : ∀ i, i < n → w.cell? ⟨b, off + i * 3, none⟩ = some (.int .i64 (p i))
  s : ∀ i, i < n → w.cell? ⟨b, off + i * 3 + 1, none⟩ = some (.int .i64 (s i))
  t : ∀ i, i < n → w.cell? ⟨b, off + i * 3 + 2, none⟩ = some (.int .i64 (t i))
  le : n * 24 ≤ 140737488351232
theorem NodesIn.below {B : Nat} {w w' : World} {ao : Option Addr} {n b off : Nat} {p s t : Nat → Int} (h : NodesIn B w ao n b off p s t) (hb : Below B w w') : NodesIn B w' ao n b off p s t :=
  ⟨h.addr, h.lt, fun i hi => (hb.cell (by exact h.lt (by omega))).trans (h.p i hi), fun i hi => (hb.cell (by exact h.lt (by omega))).trans (h.s i hi), fun i hi => (hb.cell (by exact h.lt (by omega))).trans (h.t i hi), h.le⟩
theorem NodesIn.mono {B B' : Nat} {w : World} {ao : Option Addr} {n b off : Nat} {p s t : Nat → Int} (h : NodesIn B w ao n b off p s t) (hB : B ≤ B') : NodesIn B' w ao n b off p s t :=
  ⟨h.addr, fun h0 => Nat.lt_of_lt_of_le (h.lt h0) hB, h.p, h.s, h.t, h.le⟩

/-- entries: a text and a slice of numbers each -/
structure EntriesIn (B : Nat) (w : World) (ao : Option Addr) (m b off : Nat) (tx : Nat → ByteArray) (la : Nat → Option Addr) (k lc lb lo : Nat → Nat) (z : Nat → Nat → Int) : Prop where
  addr : 0 < m → ao = some ⟨b, off, none⟩
  lt : 0 < m → b < B
  text : ∀ i, i < m → w.cell? ⟨b, off + i * 2, none⟩ = some (.string (tx i))
  list : ∀ i, i < m → w.cell? ⟨b, off + i * 2 + 1, none⟩ = some (.slice (la i) (k i) (lc i))
  ints : ∀ i, i < m → IntsIn B w (la i) (k i) (lb i) (lo i) (z i)
  le : m * 40 ≤ 140737488351232
theorem EntriesIn.below {B : Nat} {w w' : World} {ao : Option Addr} {m b off : Nat} {tx : Nat → ByteArray} {la : Nat → Option Addr} {k lc lb lo : Nat → Nat} {z : Nat → Nat → Int} (h : EntriesIn B w ao m b off tx la k lc lb lo z) (hb : Below B w w') : EntriesIn B w' ao m b off tx la k lc lb lo z :=
  ⟨h.addr, h.lt, fun i hi => (hb.cell (by exact h.lt (by omega))).trans (h.text i hi), fun i hi => (hb.cell (by exact h.lt (by omega))).trans (h.list i hi), fun i hi => (h.ints i hi).below hb, h.le⟩
theorem EntriesIn.mono {B B' : Nat} {w : World} {ao : Option Addr} {m b off : Nat} {tx : Nat → ByteArray} {la : Nat → Option Addr} {k lc lb lo : Nat → Nat} {z : Nat → Nat → Int} (h : EntriesIn B w ao m b off tx la k lc lb lo z) (hB : B ≤ B') : EntriesIn B' w ao m b off tx la k lc lb lo z :=
  ⟨h.addr, fun h0 => Nat.lt_of_lt_of_le (h.lt h0) hB, h.text, h.list, fun i hi => (h.ints i hi).mono hB, h.le⟩

end Go.Proofs.Ytpclldccjpncdaa
