import Derived.Test.YtpclldccjpncdaaRulesW
import Derived.Test.YtpclldccjpncdaaDecQ
namespace Go.Proofs.Ytpclldccjpncdaa
open Go.RowKit

/-- the character at a place: what it stands for, and where it ends -/
def pch (s : ByteArray) (i : Nat) : Option (Int × Nat) :=
  if i < s.size then (if sp (bt s i) = false then some (((bt s i : Nat) : Int), i + 1) else if bt s i = 92 ∧ i + 1 < s.size then some (((bt s (i + 1) : Nat) : Int), i + 2) else none) else none
/-- the characters that stand at a place, and where they end -/
def prt (s : ByteArray) : Nat → Nat → List Int × Nat
  | 0, i => ([], i)
  | k + 1, i => match pch s i with
    | none => ([], i)
    | some (c, j) => (c :: (prt s k j).1, (prt s k j).2)
theorem pch_lt {s : ByteArray} {i : Nat} {c : Int} {j : Nat} (h : pch s i = some (c, j)) : i < s.size ∧ i < j ∧ j ≤ s.size ∧ 0 ≤ c ∧ c ≤ 255 := by
  unfold pch at h
  have b1 := bt_le s i
  have b2 := bt_le s (i + 1)
  split at h
  · split at h
    · cases h; omega
    · split at h
      · cases h; omega
      · cases h
  · cases h
/-- more rounds than there are bytes left change nothing -/
theorem prt_fuel (s : ByteArray) : ∀ k k' i, s.size - i ≤ k → s.size - i ≤ k' → prt s k i = prt s k' i
  | 0, 0, _, _, _ => rfl
  | 0, k' + 1, i, h, _ => by
    have hn : pch s i = none := by unfold pch; rw [if_neg (by omega)]
    simp [prt, hn]
  | k + 1, 0, i, _, h => by
    have hn : pch s i = none := by unfold pch; rw [if_neg (by omega)]
    simp [prt, hn]
  | k + 1, k' + 1, i, h, h' => by
    unfold prt
    cases hp : pch s i with
    | none => rfl
    | some x =>
      obtain ⟨c, j⟩ := x
      have hl := pch_lt hp
      simp only
      rw [prt_fuel s k k' j (by omega) (by omega)]
/-- the part at a place -/
def part (s : ByteArray) (i : Nat) : List Int × Nat := prt s s.size i
theorem part_none {s : ByteArray} {i : Nat} (h : pch s i = none) : part s i = ([], i) := by
  unfold part
  cases hq : s.size with
  | zero => rfl
  | succ k => simp [prt, h]
theorem part_some {s : ByteArray} {i : Nat} {c : Int} {j : Nat} (h : pch s i = some (c, j)) : part s i = (c :: (part s j).1, (part s j).2) := by
  have hl := pch_lt h
  unfold part
  rw [prt_fuel s s.size (s.size - 1 + 1) i (by omega) (by omega)]
  show (match pch s i with | none => ([], i) | some (c, j) => (c :: (prt s (s.size - 1) j).1, (prt s (s.size - 1) j).2)) = _
  rw [h, prt_fuel s s.size (s.size - 1) j (by omega) (by omega)]

end Go.Proofs.Ytpclldccjpncdaa
