import Derived.Test.YtpclldccjpncdaaBase
namespace Go.Proofs.Ytpclldccjpncdaa
open Go.RowKit

/-- a rule -/
structure Rl where
  reset : ByteArray
  before : Int
  level : Int
  text : ByteArray
  more : ByteArray
instance : Inhabited Rl := ⟨⟨ByteArray.empty, 0, 0, ByteArray.empty, ByteArray.empty⟩⟩
def Rl.v (x : Rl) : Value := .agg #[.string x.reset, .int .i64 x.before, .int .i64 x.level, .string x.text, .string x.more]
/-- rules as they lie in memory -/
structure RulesIn (B : Nat) (w : World) (ao : Option Addr) (n b off : Nat) (f : Nat → Rl) : Prop where
  addr : 0 < n → ao = some ⟨b, off, none⟩
  lt : 0 < n → b < B
  c0 : ∀ i, i < n → w.cell? ⟨b, off + i * 5, none⟩ = some (.string (f i).reset)
  c1 : ∀ i, i < n → w.cell? ⟨b, off + i * 5 + 1, none⟩ = some (.int .i64 (f i).before)
  c2 : ∀ i, i < n → w.cell? ⟨b, off + i * 5 + 2, none⟩ = some (.int .i64 (f i).level)
  c3 : ∀ i, i < n → w.cell? ⟨b, off + i * 5 + 3, none⟩ = some (.string (f i).text)
  c4 : ∀ i, i < n → w.cell? ⟨b, off + i * 5 + 4, none⟩ = some (.string (f i).more)
  le : n * 64 ≤ 140737488351232
  fit : ∀ i, i < n → (f i).reset.size ≤ 140737488351232 ∧ (f i).text.size ≤ 140737488351232 ∧ (f i).more.size ≤ 140737488351232
theorem RulesIn.below {B : Nat} {w w' : World} {ao : Option Addr} {n b off : Nat} {f : Nat → Rl} (h : RulesIn B w ao n b off f) (hb : Below B w w') : RulesIn B w' ao n b off f :=
  ⟨h.addr, h.lt, fun i hi => (hb.cell (by exact h.lt (by omega))).trans (h.c0 i hi), fun i hi => (hb.cell (by exact h.lt (by omega))).trans (h.c1 i hi), fun i hi => (hb.cell (by exact h.lt (by omega))).trans (h.c2 i hi), fun i hi => (hb.cell (by exact h.lt (by omega))).trans (h.c3 i hi), fun i hi => (hb.cell (by exact h.lt (by omega))).trans (h.c4 i hi), h.le, h.fit⟩
theorem RulesIn.mono {B B' : Nat} {w : World} {ao : Option Addr} {n b off : Nat} {f : Nat → Rl} (h : RulesIn B w ao n b off f) (hB : B ≤ B') : RulesIn B' w ao n b off f :=
  ⟨h.addr, fun h0 => Nat.lt_of_lt_of_le (h.lt h0) hB, h.c0, h.c1, h.c2, h.c3, h.c4, h.le, h.fit⟩
theorem RulesIn.later {w w' : World} {ao : Option Addr} {n b off : Nat} {f : Nat → Rl} (h : RulesIn w.heap.size w ao n b off f) (hb : Below w.heap.size w w') : RulesIn w'.heap.size w' ao n b off f := (h.below hb).mono hb.size

end Go.Proofs.Ytpclldccjpncdaa
