import Derived.Test.YtpclldccjpncdabB05
namespace Go.Proofs.Ytpclldccjpncdab
open Go.RowKit

/-- the eight bytes that want a backslash, in the document's order -/
def sgl : List Int := [32, 38, 60, 61, 47, 91, 93, 92]
/-- a byte that stands for itself only behind a backslash -/
def sp (c : Int) : Bool := sgl.contains c

/-- a part as it is written -/
def quo (l : List Int) : List Int := l.flatMap fun c => if sp c then [92, c] else [c]
theorem quo_snoc (l : List Int) (c : Int) : quo (l ++ [c]) = quo l ++ (if sp c then [92, c] else [c]) := by simp [quo]
theorem quo_len : ∀ l : List Int, (quo l).length ≤ l.length * 2
  | [] => by simp [quo]
  | c :: l => by
    have := quo_len l
    have h2 : (if sp c then [92, c] else [c]).length ≤ 2 := by split <;> simp
    have h3 : quo (c :: l) = (if sp c then [92, c] else [c]) ++ quo l := by simp [quo]
    rw [h3, List.length_append, List.length_cons]
    omega
theorem blC_at (s : ByteArray) (i : Nat) (h : i < s.size) : (blC s).getD i 0 = ((s[i]'h).toNat : Int) := by
  have h' : i < s.data.size := h
  rw [blC, List.getD_eq_getElem?_getD, List.getElem?_map, Array.getElem?_toList, Array.getElem?_eq_getElem h']
  rfl
theorem blC_take (s : ByteArray) (i : Nat) (h : i < s.size) : (blC s).take (i + 1) = (blC s).take i ++ [((s[i]'h).toNat : Int)] := by
  have hl : i < (blC s).length := by rw [blC_len]; exact h
  rw [List.take_succ_eq_append_getElem hl]
  congr 2
  have := blC_at s i h
  rw [List.getD, List.getElem?_eq_getElem hl] at this
  exact this

end Go.Proofs.Ytpclldccjpncdab

namespace Go.Proofs.Ytpclldccjpncdab
open Go.RowKit

/-- a rule -/
structure Rl where
  reset : ByteArray
  before : Int
  level : Int
  text : ByteArray
  more : ByteArray
instance : Inhabited Rl := ⟨⟨ByteArray.empty, 0, 0, ByteArray.empty, ByteArray.empty⟩⟩
def Rl.v (x : Rl) : Value := .agg #[.string x.reset, .int .i64 x.before, .int .i64 x.level, .string x.text, .string x.more]
/-- rules as they lie in memory -/
structure RulesIn (B : Nat) (w : World) (ao : Option Addr) (n b off : Nat) (f : Nat → Rl) : Prop where
  addr : 0 < n → ao = some ⟨b, off, none⟩
  lt : 0 < n → b < B
  c0 : ∀ i, i < n → w.cell? ⟨b, off + i * 5, none⟩ = some (.string (f i).reset)
  c1 : ∀ i, i < n → w.cell? ⟨b, off + i * 5 + 1, none⟩ = some (.int .i64 (f i).before)
  c2 : ∀ i, i < n → w.cell? ⟨b, off + i * 5 + 2, none⟩ = some (.int .i64 (f i).level)
  c3 : ∀ i, i < n → w.cell? ⟨b, off + i * 5 + 3, none⟩ = some (.string (f i).text)
  c4 : ∀ i, i < n → w.cell? ⟨b, off + i * 5 + 4, none⟩ = some (.string (f i).more)
  le : n * 64 ≤ 140737488351232
  fit : ∀ i, i < n → (f i).reset.size ≤ 140737488351232 ∧ (f i).text.size ≤ 140737488351232 ∧ (f i).more.size ≤ 140737488351232
theorem RulesIn.below {B : Nat} {w w' : World} {ao : Option Addr} {n b off : Nat} {f : Nat → Rl} (h : RulesIn B w ao n b off f) (hb : Below B w w') : RulesIn B w' ao n b off f :=
  ⟨h.addr, h.lt, fun i hi => (hb.cell (by exact h.lt (by omega))).trans (h.c0 i hi), fun i hi => (hb.cell (by exact h.lt (by omega))).trans (h.c1 i hi), fun i hi => (hb.cell (by exact h.lt (by omega))).trans (h.c2 i hi), fun i hi => (hb.cell (by exact h.lt (by omega))).trans (h.c3 i hi), fun i hi => (hb.cell (by exact h.lt (by omega))).trans (h.c4 i hi), h.le, h.fit⟩
theorem RulesIn.mono {B B' : Nat} {w : World} {ao : Option Addr} {n b off : Nat} {f : Nat → Rl} (h : RulesIn B w ao n b off f) (hB : B ≤ B') : RulesIn B' w ao n b off f :=
  ⟨h.addr, fun h0 => Nat.lt_of_lt_of_le (h.lt h0) hB, h.c0, h.c1, h.c2, h.c3, h.c4, h.le, h.fit⟩
theorem RulesIn.later {w w' : World} {ao : Option Addr} {n b off : Nat} {f : Nat → Rl} (h : RulesIn w.heap.size w ao n b off f) (hb : Below w.heap.size w w') : RulesIn w'.heap.size w' ao n b off f := (h.below hb).mono hb.size

end Go.Proofs.Ytpclldccjpncdab

namespace Go.Proofs.Ytpclldccjpncdab
open Go.RowKit

/-- a rule that may be written -/
def Rl.ok (x : Rl) : Prop := (1 ≤ x.text.size ∧ x.text.size ≤ 3) ∧ x.more.size ≤ 6 ∧ x.reset.size ≤ 6 ∧ (0 ≤ x.level ∧ x.level ≤ 3) ∧ (0 ≤ x.before ∧ x.before ≤ 3) ∧ (x.before = 0 ∨ x.reset.size ≠ 0)
instance (x : Rl) : Decidable x.ok := by unfold Rl.ok; infer_instance
theorem empty_iff {s : ByteArray} : s.toList.isEmpty = decide (s.size = 0) := by
  by_cases h : s.size = 0
  · have h3 : s = ByteArray.empty := ByteArray.ext (Array.eq_empty_of_size_eq_zero h)
    subst h3
    simp
  · have : s.toList.isEmpty = false := by
      cases hq : s.toList with
      | cons a b => rfl
      | nil =>
        exfalso
        have h3 : s = ByteArray.empty := bytes_eq.1 (hq.trans (by simp))
        rw [h3] at h
        exact h rfl
    simp [this, h]

end Go.Proofs.Ytpclldccjpncdab

namespace Go.Proofs.Ytpclldccjpncdab
open Go.RowKit

/-- the character at a place: what it stands for, and where it ends -/
def pch (s : ByteArray) (i : Nat) : Option (Int × Nat) :=
  if i < s.size then (if sp (bt s i) = false then some (((bt s i : Nat) : Int), i + 1) else if bt s i = 92 ∧ i + 1 < s.size then some (((bt s (i + 1) : Nat) : Int), i + 2) else none) else none
/-- the characters that stand at a place, and where they end -/
def prt (s : ByteArray) : Nat → Nat → List Int × Nat
  | 0, i => ([], i)
  | k + 1, i => match pch s i with
    | none => ([], i)
    | some (c, j) => (c :: (prt s k j).1, (prt s k j).2)
theorem pch_lt {s : ByteArray} {i : Nat} {c : Int} {j : Nat} (h : pch s i = some (c, j)) : i < s.size ∧ i < j ∧ j ≤ s.size ∧ 0 ≤ c ∧ c ≤ 255 := by
  unfold pch at h
  have b1 := bt_le s i
  have b2 := bt_le s (i + 1)
  split at h
  · split at h
    · cases h; omega
    · split at h
      · cases h; omega
      · cases h
  · cases h
/-- more rounds than there are bytes left change nothing -/
theorem prt_fuel (s : ByteArray) : ∀ k k' i, s.size - i ≤ k → s.size - i ≤ k' → prt s k i = prt s k' i
  | 0, 0, _, _, _ => rfl
  | 0, k' + 1, i, h, _ => by
    have hn : pch s i = none := by unfold pch; rw [if_neg (by omega)]
    simp [prt, hn]
  | k + 1, 0, i, _, h => by
    have hn : pch s i = none := by unfold pch; rw [if_neg (by omega)]
    simp [prt, hn]
  | k + 1, k' + 1, i, h, h' => by
    unfold prt
    cases hp : pch s i with
    | none => rfl
    | some x =>
      obtain ⟨c, j⟩ := x
      have hl := pch_lt hp
      simp only
      rw [prt_fuel s k k' j (by omega) (by omega)]
/-- the part at a place -/
def part (s : ByteArray) (i : Nat) : List Int × Nat := prt s s.size i
theorem part_none {s : ByteArray} {i : Nat} (h : pch s i = none) : part s i = ([], i) := by
  unfold part
  cases hq : s.size with
  | zero => rfl
  | succ k => simp [prt, h]
theorem part_some {s : ByteArray} {i : Nat} {c : Int} {j : Nat} (h : pch s i = some (c, j)) : part s i = (c :: (part s j).1, (part s j).2) := by
  have hl := pch_lt h
  unfold part
  rw [prt_fuel s s.size (s.size - 1 + 1) i (by omega) (by omega)]
  show (match pch s i with | none => ([], i) | some (c, j) => (c :: (prt s (s.size - 1) j).1, (prt s (s.size - 1) j).2)) = _
  rw [h, prt_fuel s s.size (s.size - 1) j (by omega) (by omega)]

end Go.Proofs.Ytpclldccjpncdab
