import Derived.Test.YtpclldccjpncdaaSpec
namespace Go.Proofs.Ytpclldccjpncdaa
open Go.RowKit

/-! ### Pieces of a text, by the texts tx 0 .. tx (m - 1) -/
theorem bytes_eq {a b : ByteArray} : a.toList = b.toList ↔ a = b := by
  constructor
  · intro h
    have h1 : a.data.toList = b.data.toList := by simpa [ByteArray.toList_eq] using h
    exact ByteArray.ext (Array.ext' h1)
  · rintro rfl; rfl

/-- the text of n bytes at a place -/
def sub (s : ByteArray) (at_ n : Nat) : ByteArray := s.extract at_ (at_ + n)
def isText (m : Nat) (tx : Nat → ByteArray) (u : ByteArray) : Prop := ∃ i, i < m ∧ tx i = u
open Classical in
/-- how long the longest text is that stands there (up to 3 bytes); 0: none does -/
noncomputable def lenAt (m : Nat) (tx : Nat → ByteArray) (s : ByteArray) (p : Nat) : Nat :=
  if p + 3 ≤ s.size ∧ isText m tx (sub s p 3) then 3 else if p + 2 ≤ s.size ∧ isText m tx (sub s p 2) then 2 else if p + 1 ≤ s.size ∧ isText m tx (sub s p 1) then 1 else 0
noncomputable def pos (m : Nat) (tx : Nat → ByteArray) (s : ByteArray) : Nat → Nat
  | 0 => 0
  | q + 1 => pos m tx s q + lenAt m tx s (pos m tx s q)
/-- q pieces can be cut off, and no more -/
structure Cut (m : Nat) (tx : Nat → ByteArray) (s : ByteArray) (q : Nat) : Prop where
  go : ∀ j, j < q → 0 < lenAt m tx s (pos m tx s j)
  stop : lenAt m tx s (pos m tx s q) = 0
theorem Cut.uniq {m : Nat} {tx : Nat → ByteArray} {s : ByteArray} {q q' : Nat} (h : Cut m tx s q) (h' : Cut m tx s q') : q = q' := by
  rcases Nat.lt_trichotomy q q' with e | e | e
  · have := h'.go q e; have := h.stop; omega
  · exact e
  · have := h.go q' e; have := h'.stop; omega
theorem lenAt_le (m : Nat) (tx : Nat → ByteArray) (s : ByteArray) (p : Nat) (hp : p ≤ s.size) : p + lenAt m tx s p ≤ s.size ∧ lenAt m tx s p ≤ 3 := by
  unfold lenAt
  split
  · rename_i h; exact ⟨h.1, by omega⟩
  · split
    · rename_i h; exact ⟨h.1, by omega⟩
    · split
      · rename_i h; exact ⟨h.1, by omega⟩
      · exact ⟨by omega, by omega⟩
theorem pos_le (m : Nat) (tx : Nat → ByteArray) (s : ByteArray) : ∀ q, pos m tx s q ≤ s.size
  | 0 => Nat.zero_le _
  | q + 1 => (lenAt_le m tx s _ (pos_le m tx s q)).1
theorem pos_ge {m : Nat} {tx : Nat → ByteArray} {s : ByteArray} : ∀ q, (∀ j, j < q → 0 < lenAt m tx s (pos m tx s j)) → q ≤ pos m tx s q
  | 0, _ => Nat.zero_le _
  | q + 1, h => by
    have h1 := pos_ge q (fun j hj => h j (by omega))
    have h2 := h q (by omega)
    show q + 1 ≤ pos m tx s q + lenAt m tx s (pos m tx s q)
    omega
theorem size_sub (s : ByteArray) (p n : Nat) (h : p + n ≤ s.size) : (sub s p n).size = n := by simp [sub, ByteArray.size_extract]; omega
/-- a text of that length stands there -/
theorem lenAt_text {m : Nat} {tx : Nat → ByteArray} {s : ByteArray} {p : Nat} (h : 0 < lenAt m tx s p) : isText m tx (sub s p (lenAt m tx s p)) := by
  unfold lenAt at h ⊢
  split
  · rename_i h1; exact h1.2
  · split
    · rename_i h1; exact h1.2
    · split
      · rename_i h1; exact h1.2
      · rename_i h1 h2 h3; simp [h1, h2, h3] at h
/-- none longer does -/
theorem lenAt_max {m : Nat} {tx : Nat → ByteArray} {s : ByteArray} {p n : Nat} (hn : n ≤ 3) (h0 : 0 < n) (hs : p + n ≤ s.size) (ht : isText m tx (sub s p n)) : n ≤ lenAt m tx s p := by
  unfold lenAt
  split
  · exact hn
  · rename_i h3
    have hn3 : n ≠ 3 := by rintro rfl; exact h3 ⟨hs, ht⟩
    split
    · omega
    · rename_i h2
      have hn2 : n ≠ 2 := by rintro rfl; exact h2 ⟨hs, ht⟩
      have hn1 : n = 1 := by omega
      subst hn1
      split
      · omega
      · rename_i h1; exact absurd ⟨hs, ht⟩ h1
theorem lenAt_eq {m : Nat} {tx : Nat → ByteArray} {s : ByteArray} {p n : Nat} (hp : p ≤ s.size) (hn : n ≤ 3) (hs : p + n ≤ s.size) (ht : 0 < n → isText m tx (sub s p n)) (hmax : ∀ k, n < k → k ≤ 3 → p + k ≤ s.size → ¬ isText m tx (sub s p k)) : lenAt m tx s p = n := by
  have h1 := lenAt_le m tx s p hp
  by_cases e : lenAt m tx s p ≤ n
  · by_cases h0 : 0 < n
    · have := lenAt_max hn h0 hs (ht h0); omega
    · omega
  · exact absurd (lenAt_text (by omega)) (hmax _ (by omega) h1.2 h1.1)

open Classical in
/-- the first entry of a text; m: there is none -/
noncomputable def idx : Nat → (Nat → ByteArray) → ByteArray → Nat
  | 0, _, _ => 0
  | m + 1, tx, u => if idx m tx u < m then idx m tx u else if tx m = u then m else m + 1
theorem idx_all (tx : Nat → ByteArray) (u : ByteArray) : ∀ m, idx m tx u ≤ m ∧ (idx m tx u < m → tx (idx m tx u) = u) ∧ ∀ j, j < idx m tx u → tx j ≠ u
  | 0 => by simp [idx]
  | m + 1 => by
    obtain ⟨h1, h2, h3⟩ := idx_all tx u m
    unfold idx
    by_cases e : idx m tx u < m
    · rw [if_pos e]
      exact ⟨by omega, fun _ => h2 e, h3⟩
    · rw [if_neg e]
      have e' : idx m tx u = m := by omega
      rw [e'] at h3
      by_cases et : tx m = u
      · rw [if_pos et]
        exact ⟨by omega, fun _ => et, h3⟩
      · rw [if_neg et]
        refine ⟨by omega, by omega, fun j hj => ?_⟩
        by_cases ej : j = m
        · rw [ej]; exact et
        · exact h3 j (by omega)
theorem idx_eq {m : Nat} {tx : Nat → ByteArray} {u : ByteArray} {i : Nat} (hi : i < m) (ht : tx i = u) (hf : ∀ j, j < i → tx j ≠ u) : idx m tx u = i := by
  obtain ⟨h1, h2, h3⟩ := idx_all tx u m
  rcases Nat.lt_trichotomy (idx m tx u) i with e | e | e
  · exact absurd (h2 (by omega)) (hf _ e)
  · exact e
  · exact absurd ht (h3 i e)
theorem idx_spec {m : Nat} {tx : Nat → ByteArray} {u : ByteArray} (h : isText m tx u) : idx m tx u < m ∧ tx (idx m tx u) = u ∧ ∀ j, j < idx m tx u → tx j ≠ u := by
  obtain ⟨h1, h2, h3⟩ := idx_all tx u m
  obtain ⟨i, hi, ht⟩ := h
  have hlt : idx m tx u < m := by
    rcases Nat.lt_or_ge i (idx m tx u) with e | e
    · exact absurd ht (h3 i e)
    · omega
  exact ⟨hlt, h2 hlt, h3⟩
theorem idx_none {m : Nat} {tx : Nat → ByteArray} {u : ByteArray} (h : ¬ isText m tx u) : idx m tx u = m := by
  obtain ⟨h1, h2, h3⟩ := idx_all tx u m
  by_cases e : idx m tx u < m
  · exact absurd ⟨_, e, h2 e⟩ h
  · omega
/-- piece j of a text, and the number of its entry -/
noncomputable def piece (m : Nat) (tx : Nat → ByteArray) (s : ByteArray) (j : Nat) : ByteArray := sub s (pos m tx s j) (lenAt m tx s (pos m tx s j))
noncomputable def pidx (m : Nat) (tx : Nat → ByteArray) (s : ByteArray) (j : Nat) : Nat := idx m tx (piece m tx s j)
theorem pidx_spec {m : Nat} {tx : Nat → ByteArray} {s : ByteArray} {q j : Nat} (h : ∀ j, j < q → 0 < lenAt m tx s (pos m tx s j)) (hj : j < q) : pidx m tx s j < m ∧ tx (pidx m tx s j) = piece m tx s j := by
  have := idx_spec (lenAt_text (h j hj))
  exact ⟨this.1, this.2.1⟩

end Go.Proofs.Ytpclldccjpncdaa
