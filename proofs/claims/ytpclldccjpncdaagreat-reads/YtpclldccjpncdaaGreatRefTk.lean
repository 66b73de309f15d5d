import Derived.Test.YtpclldccjpncdaaGreatRdT
import Derived.Test.YtpclldccjpncdaaGreatRdB
import Derived.Test.YtpclldccjpncdaaGreatRefRd
namespace Go.Proofs.YtpclldccjpncdaaGreat
open Go.RowKit

/-! the table of words -/
def wdl : Nat → List Int
  | 0 => [38]
  | 1 => [47]
  | 2 => [61]
  | 3 => [60, 60, 60]
  | 4 => [60, 60]
  | 5 => [60]
  | 6 => beN 1
  | 7 => beN 2
  | _ => beN 3
def wk : Nat → Nat
  | 0 => 1
  | 1 => 4
  | 2 => 3
  | 3 => 3
  | 4 => 3
  | 5 => 3
  | _ => 2
def wn : Nat → Nat
  | 0 => 0
  | 1 => 0
  | 2 => 0
  | 3 => 3
  | 4 => 2
  | 5 => 1
  | 6 => 1
  | 7 => 2
  | _ => 3
theorem wl_in (k : Nat) : ∀ x ∈ wdl k, 0 ≤ x ∧ x ≤ 255 := by
  unfold wdl
  split <;> first | exact beN_in | decide
theorem wl_len (k : Nat) : 1 ≤ (wdl k).length ∧ (wdl k).length ≤ 10 := by
  unfold wdl
  split <;> decide
theorem has_hasB {s : ByteArray} {i : Nat} {l : List Int} (hl : ∀ x ∈ l, 0 ≤ x ∧ x ≤ 255) (h : hasB s i (strOfNums l)) : Has s i l := by
  rw [hasB_iff, strOfNums_size] at h
  refine ⟨h.1, fun k hk => ?_⟩
  have h1 := h.2 k hk
  have h2 := bt_strS l hl k hk
  omega
def wd (k : Nat) : ByteArray := strOfNums (wdl k)
theorem wd_has {s : ByteArray} {a k : Nat} : hasB s a (wd k) ↔ Has s a (wdl k) := ⟨has_hasB (wl_in k), hasB_has (wl_in k)⟩
theorem has_one {s : ByteArray} {a : Nat} {c : Int} (h : a < s.size) (hb : (bt s a : Int) = c) : Has s a [c] := ⟨by show a + 1 ≤ _; omega, fun k hk => by
  have hk0 : k = 0 := by simp at hk; omega
  subst hk0
  simpa using hb⟩
theorem has_cons {s : ByteArray} {a : Nat} {c : Int} {l : List Int} (_h : a < s.size) (hb : (bt s a : Int) = c) (ht : Has s (a + 1) l) : Has s a (c :: l) := by
  refine ⟨by have := ht.1; rw [List.length_cons]; omega, fun k hk => ?_⟩
  cases k with
  | zero => simpa using hb
  | succ k =>
    have := ht.2 k (by simpa using hk)
    rw [show a + (k + 1) = a + 1 + k by omega]
    simpa using this
/-- the first word that stands there -/
theorem wd_first {s : ByteArray} {a k : Nat} (ha : a < s.size) (hk : k < 9) (h : hasB s a (wd k)) (hn : ∀ j, j < k → ¬ hasB s a (wd j)) : tkA s a = ⟨wk k, wn k, [], a, a + (wd k).size⟩ := by
  have hh := wd_has.1 h
  have hx : (wd k).size = (wdl k).length := by rw [wd, strOfNums_size]
  rw [hx]
  have cs : k = 0 ∨ k = 1 ∨ k = 2 ∨ k = 3 ∨ k = 4 ∨ k = 5 ∨ k = 6 ∨ k = 7 ∨ k = 8 := by omega
  rcases cs with rfl | rfl | rfl | rfl | rfl | rfl | rfl | rfl | rfl
  · have h0 : bt s a = 38 := by have := hh.head.2; omega
    unfold tkA
    rw [if_neg (by omega), if_pos h0]
    rfl
  · have h0 : bt s a = 47 := by have := hh.head.2; omega
    unfold tkA
    rw [if_neg (by omega), if_neg (by omega), if_pos h0]
    rfl
  · have h0 : bt s a = 61 := by have := hh.head.2; omega
    unfold tkA
    rw [if_neg (by omega), if_neg (by omega), if_neg (by omega), if_pos h0]
    rfl
  · have h0 : bt s a = 60 := by have := hh.head.2; omega
    have h1 : bt s (a + 1) = 60 := by have := hh.tail.head.2; omega
    have h2 : bt s (a + 2) = 60 := by have := hh.tail.tail.head.2; rw [show a + 1 + 1 = a + 2 from rfl] at this; omega
    have hl : lessN s a = 3 := by unfold lessN; rw [if_pos h1, if_pos h2]
    unfold tkA
    rw [if_neg (by omega), if_neg (by omega), if_neg (by omega), if_neg (by omega), if_pos h0, hl]
    rfl
  · have h0 : bt s a = 60 := by have := hh.head.2; omega
    have h1 : bt s (a + 1) = 60 := by have := hh.tail.head.2; omega
    have h2 : bt s (a + 2) ≠ 60 := fun h2 => hn 3 (by omega) (wd_has.2 (has_cons ha (by omega) (has_cons (by have := hh.1; simp [wdl] at this; omega) (by omega) (has_one (bt_pos (by rw [show a + 1 + 1 = a + 2 from rfl]; omega)) (by rw [show a + 1 + 1 = a + 2 from rfl]; omega)))))
    have hl : lessN s a = 2 := by unfold lessN; rw [if_pos h1, if_neg h2]
    unfold tkA
    rw [if_neg (by omega), if_neg (by omega), if_neg (by omega), if_neg (by omega), if_pos h0, hl]
    rfl
  · have h0 : bt s a = 60 := by have := hh.head.2; omega
    have h1 : bt s (a + 1) ≠ 60 := fun h1 => hn 4 (by omega) (wd_has.2 (has_cons ha (by omega) (has_one (bt_pos (by omega)) (by omega))))
    have hl : lessN s a = 1 := by unfold lessN; rw [if_neg h1]
    unfold tkA
    rw [if_neg (by omega), if_neg (by omega), if_neg (by omega), if_neg (by omega), if_pos h0, hl]
    rfl
  · have h0 : bt s a = 91 := by have := Has.head (c := 91) hh; omega
    have hl : befN s a = 1 := befN_has (by omega) (by omega) hh
    unfold tkA
    rw [if_neg (by omega), if_neg (by omega), if_neg (by omega), if_neg (by omega), if_neg (by omega), if_pos h0, hl, if_neg (by omega)]
    rfl
  · have h0 : bt s a = 91 := by have := Has.head (c := 91) hh; omega
    have hl : befN s a = 2 := befN_has (by omega) (by omega) hh
    unfold tkA
    rw [if_neg (by omega), if_neg (by omega), if_neg (by omega), if_neg (by omega), if_neg (by omega), if_pos h0, hl, if_neg (by omega)]
    rfl
  · have h0 : bt s a = 91 := by have := Has.head (c := 91) hh; omega
    have hl : befN s a = 3 := befN_has (by omega) (by omega) hh
    unfold tkA
    rw [if_neg (by omega), if_neg (by omega), if_neg (by omega), if_neg (by omega), if_neg (by omega), if_pos h0, hl, if_neg (by omega)]
    rfl
/-- no word stands there -/
theorem wd_none {s : ByteArray} {a : Nat} (ha : a < s.size) (hn : ∀ j, j < 9 → ¬ hasB s a (wd j)) : tkA s a = if (part s a).2 = a then ⟨6, 0, [], a, a + 1⟩ else ⟨5, 0, (part s a).1, a, (part s a).2⟩ := by
  have h38 : bt s a ≠ 38 := fun h => hn 0 (by omega) (wd_has.2 (has_one ha (by omega)))
  have h47 : bt s a ≠ 47 := fun h => hn 1 (by omega) (wd_has.2 (has_one ha (by omega)))
  have h61 : bt s a ≠ 61 := fun h => hn 2 (by omega) (wd_has.2 (has_one ha (by omega)))
  have h60 : bt s a ≠ 60 := fun h => hn 5 (by omega) (wd_has.2 (has_one ha (by omega)))
  unfold tkA
  rw [if_neg (by omega), if_neg h38, if_neg h47, if_neg h61, if_neg h60]
  by_cases h91 : bt s a = 91
  · have hb : befN s a = 0 := by
      unfold befN
      rw [if_neg (show ¬ hasB s a (strOfNums (beN 1)) from hn 6 (by omega)), if_neg (show ¬ hasB s a (strOfNums (beN 2)) from hn 7 (by omega)), if_neg (show ¬ hasB s a (strOfNums (beN 3)) from hn 8 (by omega))]
    have hp : pch s a = none := by
      unfold pch
      rw [if_pos ha, h91, if_neg (by decide), if_neg (by omega)]
    rw [if_pos h91, if_pos hb, part_none hp, if_pos rfl]
  · rw [if_neg h91]

end Go.Proofs.YtpclldccjpncdaaGreat
