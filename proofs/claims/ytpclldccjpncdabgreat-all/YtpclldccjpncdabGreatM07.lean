import Derived.Test.YtpclldccjpncdabGreatM06
namespace Go.Proofs.YtpclldccjpncdabGreat
open Go.RowKit

/-! ### Pieces of a text, by the texts tx 0 .. tx (m - 1) -/
theorem bytes_eq {a b : ByteArray} : a.toList = b.toList ↔ a = b := by
  constructor
  · intro h
    have h1 : a.data.toList = b.data.toList := by simpa [ByteArray.toList_eq] using h
    exact ByteArray.ext (Array.ext' h1)
  · rintro rfl; rfl

/-- the text of n bytes at a place -/
def sub (s : ByteArray) (at_ n : Nat) : ByteArray := s.extract at_ (at_ + n)
def isText (m : Nat) (tx : Nat → ByteArray) (u : ByteArray) : Prop := ∃ i, i < m ∧ tx i = u
open Classical in
/-- how long the longest text is that stands there (up to 3 bytes); 0: none does -/
noncomputable def lenAt (m : Nat) (tx : Nat → ByteArray) (s : ByteArray) (p : Nat) : Nat :=
  if p + 3 ≤ s.size ∧ isText m tx (sub s p 3) then 3 else if p + 2 ≤ s.size ∧ isText m tx (sub s p 2) then 2 else if p + 1 ≤ s.size ∧ isText m tx (sub s p 1) then 1 else 0
noncomputable def pos (m : Nat) (tx : Nat → ByteArray) (s : ByteArray) : Nat → Nat
  | 0 => 0
  | q + 1 => pos m tx s q + lenAt m tx s (pos m tx s q)
/-- q pieces can be cut off, and no more -/
structure Cut (m : Nat) (tx : Nat → ByteArray) (s : ByteArray) (q : Nat) : Prop where
  go : ∀ j, j < q → 0 < lenAt m tx s (pos m tx s j)
  stop : lenAt m tx s (pos m tx s q) = 0
theorem Cut.uniq {m : Nat} {tx : Nat → ByteArray} {s : ByteArray} {q q' : Nat} (h : Cut m tx s q) (h' : Cut m tx s q') : q = q' := by
  rcases Nat.lt_trichotomy q q' with e | e | e
  · have := h'.go q e; have := h.stop; omega
  · exact e
  · have := h.go q' e; have := h'.stop; omega
theorem lenAt_le (m : Nat) (tx : Nat → ByteArray) (s : ByteArray) (p : Nat) (hp : p ≤ s.size) : p + lenAt m tx s p ≤ s.size ∧ lenAt m tx s p ≤ 3 := by
  unfold lenAt
  split
  · rename_i h; exact ⟨h.1, by omega⟩
  · split
    · rename_i h; exact ⟨h.1, by omega⟩
    · split
      · rename_i h; exact ⟨h.1, by omega⟩
      · exact ⟨by omega, by omega⟩
theorem pos_le (m : Nat) (tx : Nat → ByteArray) (s : ByteArray) : ∀ q, pos m tx s q ≤ s.size
  | 0 => Nat.zero_le _
  | q + 1 => (lenAt_le m tx s _ (pos_le m tx s q)).1
theorem pos_ge {m : Nat} {tx : Nat → ByteArray} {s : ByteArray} : ∀ q, (∀ j, j < q → 0 < lenAt m tx s (pos m tx s j)) → q ≤ pos m tx s q
  | 0, _ => Nat.zero_le _
  | q + 1, h => by
    have h1 := pos_ge q (fun j hj => h j (by omega))
    have h2 := h q (by omega)
    show q + 1 ≤ pos m tx s q + lenAt m tx s (pos m tx s q)
    omega
theorem size_sub (s : ByteArray) (p n : Nat) (h : p + n ≤ s.size) : (sub s p n).size = n := by simp [sub, ByteArray.size_extract]; omega
/-- a text of that length stands there -/
theorem lenAt_text {m : Nat} {tx : Nat → ByteArray} {s : ByteArray} {p : Nat} (h : 0 < lenAt m tx s p) : isText m tx (sub s p (lenAt m tx s p)) := by
  unfold lenAt at h ⊢
  split
  · rename_i h1; exact h1.2
  · split
    · rename_i h1; exact h1.2
    · split
      · rename_i h1; exact h1.2
      · rename_i h1 h2 h3; simp [h1, h2, h3] at h
/-- none longer does -/
theorem lenAt_max {m : Nat} {tx : Nat → ByteArray} {s : ByteArray} {p n : Nat} (hn : n ≤ 3) (h0 : 0 < n) (hs : p + n ≤ s.size) (ht : isText m tx (sub s p n)) : n ≤ lenAt m tx s p := by
  unfold lenAt
  split
  · exact hn
  · rename_i h3
    have hn3 : n ≠ 3 := by rintro rfl; exact h3 ⟨hs, ht⟩
    split
    · omega
    · rename_i h2
      have hn2 : n ≠ 2 := by rintro rfl; exact h2 ⟨hs, ht⟩
      have hn1 : n = 1 := by omega
      subst hn1
      split
      · omega
      · rename_i h1; exact absurd ⟨hs, ht⟩ h1
theorem lenAt_eq {m : Nat} {tx : Nat → ByteArray} {s : ByteArray} {p n : Nat} (hp : p ≤ s.size) (hn : n ≤ 3) (hs : p + n ≤ s.size) (ht : 0 < n → isText m tx (sub s p n)) (hmax : ∀ k, n < k → k ≤ 3 → p + k ≤ s.size → ¬ isText m tx (sub s p k)) : lenAt m tx s p = n := by
  have h1 := lenAt_le m tx s p hp
  by_cases e : lenAt m tx s p ≤ n
  · by_cases h0 : 0 < n
    · have := lenAt_max hn h0 hs (ht h0); omega
    · omega
  · exact absurd (lenAt_text (by omega)) (hmax _ (by omega) h1.2 h1.1)

open Classical in
/-- the first entry of a text; m: there is none -/
noncomputable def idx : Nat → (Nat → ByteArray) → ByteArray → Nat
  | 0, _, _ => 0
  | m + 1, tx, u => if idx m tx u < m then idx m tx u else if tx m = u then m else m + 1
theorem idx_all (tx : Nat → ByteArray) (u : ByteArray) : ∀ m, idx m tx u ≤ m ∧ (idx m tx u < m → tx (idx m tx u) = u) ∧ ∀ j, j < idx m tx u → tx j ≠ u
  | 0 => by simp [idx]
  | m + 1 => by
    obtain ⟨h1, h2, h3⟩ := idx_all tx u m
    unfold idx
    by_cases e : idx m tx u < m
    · rw [if_pos e]
      exact ⟨by omega, fun _ => h2 e, h3⟩
    · rw [if_neg e]
      have e' : idx m tx u = m := by omega
      rw [e'] at h3
      by_cases et : tx m = u
      · rw [if_pos et]
        exact ⟨by omega, fun _ => et, h3⟩
      · rw [if_neg et]
        refine ⟨by omega, by omega, fun j hj => ?_⟩
        by_cases ej : j = m
        · rw [ej]; exact et
        · exact h3 j (by omega)
theorem idx_eq {m : Nat} {tx : Nat → ByteArray} {u : ByteArray} {i : Nat} (hi : i < m) (ht : tx i = u) (hf : ∀ j, j < i → tx j ≠ u) : idx m tx u = i := by
  obtain ⟨h1, h2, h3⟩ := idx_all tx u m
  rcases Nat.lt_trichotomy (idx m tx u) i with e | e | e
  · exact absurd (h2 (by omega)) (hf _ e)
  · exact e
  · exact absurd ht (h3 i e)
theorem idx_spec {m : Nat} {tx : Nat → ByteArray} {u : ByteArray} (h : isText m tx u) : idx m tx u < m ∧ tx (idx m tx u) = u ∧ ∀ j, j < idx m tx u → tx j ≠ u := by
  obtain ⟨h1, h2, h3⟩ := idx_all tx u m
  obtain ⟨i, hi, ht⟩ := h
  have hlt : idx m tx u < m := by
    rcases Nat.lt_or_ge i (idx m tx u) with e | e
    · exact absurd ht (h3 i e)
    · omega
  exact ⟨hlt, h2 hlt, h3⟩
theorem idx_none {m : Nat} {tx : Nat → ByteArray} {u : ByteArray} (h : ¬ isText m tx u) : idx m tx u = m := by
  obtain ⟨h1, h2, h3⟩ := idx_all tx u m
  by_cases e : idx m tx u < m
  · exact absurd ⟨_, e, h2 e⟩ h
  · omega
/-- piece j of a text, and the number of its entry -/
noncomputable def piece (m : Nat) (tx : Nat → ByteArray) (s : ByteArray) (j : Nat) : ByteArray := sub s (pos m tx s j) (lenAt m tx s (pos m tx s j))
noncomputable def pidx (m : Nat) (tx : Nat → ByteArray) (s : ByteArray) (j : Nat) : Nat := idx m tx (piece m tx s j)
theorem pidx_spec {m : Nat} {tx : Nat → ByteArray} {s : ByteArray} {q j : Nat} (h : ∀ j, j < q → 0 < lenAt m tx s (pos m tx s j)) (hj : j < q) : pidx m tx s j < m ∧ tx (pidx m tx s j) = piece m tx s j := by
  have := idx_spec (lenAt_text (h j hj))
  exact ⟨this.1, this.2.1⟩

end Go.Proofs.YtpclldccjpncdabGreat

namespace Go.Proofs.YtpclldccjpncdabGreat
open Go.RowKit

def standB (t s : ByteArray) (p : Nat) : Bool := decide (p + t.size ≤ s.size) && ((sub s p t.size).toList == t.toList)
theorem standB_iff {t s : ByteArray} {p : Nat} : standB t s p = true ↔ p + t.size ≤ s.size ∧ sub s p t.size = t := by
  simp [standB, bytes_eq]
theorem standB_no {t s : ByteArray} {p : Nat} (h : s.size < p + t.size) : false = standB t s p := by
  have : ¬ p + t.size ≤ s.size := by omega
  simp [standB, this]
theorem standB_at {t s : ByteArray} {p : Nat} (h : p + t.size ≤ s.size) : ((sub s p t.size).toList == t.toList) = standB t s p := by simp [standB, h]

set_option maxHeartbeats 400000 in
theorem standsAt_any (t s : ByteArray) (p : Nat) (w : World) (hs : s.size ≤ 1000) (ht : t.size ≤ 3) (hp : p ≤ s.size) :
    Calls Tryz.prog 120 #[.string t, .string s, .int .i64 p] w fun e w' => e = .returned (.bool (standB t s p)) ∧ w = w' := by
  by_cases h : p + t.size ≤ s.size
  · have HB := standB_at h
    unfold sub at HB
    have HB2 : Hid (((s.extract p (p + t.size)).toList == t.toList) = standB t s p) := HB
    clear HB
    go_enter Tryz.func120, Tryz.ntmps120
    go_wp2
    go_ret
    exact ⟨ret_bool HB2.out, rfl⟩
  · have HB : Hid (false = standB t s p) := standB_no (by omega)
    go_enter Tryz.func120, Tryz.ntmps120
    go_wp2
    go_ret
    exact ⟨ret_bool HB.out, rfl⟩

/-- the search at entry i -/
def Best (tx : Nat → ByteArray) (s : ByteArray) (p i : Nat) (b len : Int) : Prop :=
  (b = -1 ∧ len = 0 ∧ ∀ j, j < i → standB (tx j) s p = false) ∨
  ∃ c : Nat, b = c ∧ c < i ∧ len = (tx c).size ∧ standB (tx c) s p = true ∧ (∀ j, j < i → standB (tx j) s p = true → (tx j).size ≤ (tx c).size) ∧ ∀ j, j < c → standB (tx j) s p = true → (tx j).size < (tx c).size
theorem best_start (tx : Nat → ByteArray) (s : ByteArray) (p : Nat) : Best tx s p 0 (-1) 0 := .inl ⟨rfl, rfl, fun j hj => by omega⟩
theorem best_bd {tx : Nat → ByteArray} {s : ByteArray} {p i : Nat} {b len : Int} (h : Best tx s p i b len) : -1 ≤ b ∧ b ≤ i ∧ 0 ≤ len := by
  rcases h with ⟨rfl, rfl, _⟩ | ⟨c, rfl, h1, rfl, _⟩ <;> omega
theorem best_take {tx : Nat → ByteArray} {s : ByteArray} {p i : Nat} {b len : Int} (h : Best tx s p i b len) (h1 : len < ((tx i).size : Int)) (h2 : standB (tx i) s p = true) : Best tx s p (i + 1) i (tx i).size := by
  refine .inr ⟨i, rfl, by omega, rfl, h2, fun j hj hs => ?_, fun j hj hs => ?_⟩
  · by_cases e : j = i
    · subst e; omega
    · rcases h with ⟨_, _, h⟩ | ⟨c, _, _, rfl, _, h, _⟩
      · have := h j (by omega); rw [hs] at this; cases this
      · have := h j (by omega) hs; omega
  · rcases h with ⟨_, _, h⟩ | ⟨c, _, _, rfl, _, h, _⟩
    · have := h j (by omega); rw [hs] at this; cases this
    · have := h j (by omega) hs; omega
theorem best_skip {tx : Nat → ByteArray} {s : ByteArray} {p i : Nat} {b len : Int} (h0 : 1 ≤ (tx i).size) (h : Best tx s p i b len) (h1 : ¬ len < ((tx i).size : Int) ∨ standB (tx i) s p = false) : Best tx s p (i + 1) b len := by
  rcases h with ⟨rfl, rfl, h⟩ | ⟨c, rfl, hc, rfl, hs, h2, h3⟩
  · refine .inl ⟨rfl, rfl, fun j hj => ?_⟩
    by_cases e : j = i
    · subst e
      rcases h1 with h1 | h1
      · omega
      · exact h1
    · exact h j (by omega)
  · refine .inr ⟨c, rfl, by omega, rfl, hs, fun j hj hj2 => ?_, h3⟩
    by_cases e : j = i
    · subst e
      rcases h1 with h1 | h1
      · omega
      · rw [hj2] at h1; cases h1
    · exact h2 j (by omega) hj2

noncomputable def bestI (m : Nat) (tx : Nat → ByteArray) (s : ByteArray) (p : Nat) : Int := if lenAt m tx s p = 0 then -1 else (idx m tx (sub s p (lenAt m tx s p)) : Nat)
theorem stand_text {m : Nat} {tx : Nat → ByteArray} {s : ByteArray} {p k : Nat} (hs : p + k ≤ s.size) (h : isText m tx (sub s p k)) : ∃ i, i < m ∧ (tx i).size = k ∧ standB (tx i) s p = true := by
  obtain ⟨i, hi, ht⟩ := h
  have hk : (tx i).size = k := by rw [ht]; exact size_sub _ _ _ hs
  exact ⟨i, hi, hk, standB_iff.2 ⟨by omega, by rw [hk, ht]⟩⟩
theorem best_end {m : Nat} {tx : Nat → ByteArray} {s : ByteArray} {p : Nat} {b len : Int} (hp : p ≤ s.size) (ht : ∀ i, i < m → 1 ≤ (tx i).size ∧ (tx i).size ≤ 3) (h : Best tx s p m b len) : b = bestI m tx s p := by
  rcases h with ⟨rfl, _, h⟩ | ⟨c, rfl, hc, _, hs, h2, h3⟩
  · have : lenAt m tx s p = 0 := lenAt_eq hp (by omega) (by omega) (by omega) fun k _ _ hk hx => by
      obtain ⟨i, hi, _, h4⟩ := stand_text hk hx
      have := h i hi
      rw [h4] at this; cases this
    simp [bestI, this]
  · obtain ⟨h4, h5⟩ := standB_iff.1 hs
    have hl : lenAt m tx s p = (tx c).size := lenAt_eq hp (ht c hc).2 h4 (fun _ => ⟨c, hc, h5.symm⟩) fun k hk _ hk2 hx => by
      obtain ⟨i, hi, hi2, h6⟩ := stand_text hk2 hx
      have := h2 i hi h6
      omega
    have h0 := (ht c hc).1
    have hi : idx m tx (sub s p (lenAt m tx s p)) = c := idx_eq hc (by rw [hl]; exact h5.symm) fun j hj e => by
      rw [hl] at e
      have hsz : (tx j).size = (tx c).size := by rw [e]; exact size_sub _ _ _ h4
      have := h3 j hj (standB_iff.2 ⟨by omega, by rw [hsz, e]⟩)
      omega
    have h1 : ¬ lenAt m tx s p = 0 := by omega
    simp [bestI, h1, hi]

set_option maxHeartbeats 400000 in
theorem longestAt_any (m cap b off : Nat) (ao : Option Addr) (tx : Nat → ByteArray) (la : Nat → Option Addr) (k lc lb lo : Nat → Nat) (z : Nat → Nat → Int) (s : ByteArray) (p : Nat) (w : World) (hm : m ≤ 48) (hs : s.size ≤ 1000) (hp : p ≤ s.size)
    (ht : ∀ i, i < m → 1 ≤ (tx i).size ∧ (tx i).size ≤ 3) (h : EntriesIn w.heap.size w ao m b off tx la k lc lb lo z) :
    Calls Tryz.prog 98 #[.slice ao m cap, .string s, .int .i64 p] w fun e w' => e = .returned (.int .i64 (bestI m tx s p)) ∧ w = w' := by
  have HE : Hid (EntriesIn w.heap.size w ao m b off tx la k lc lb lo z) := h
  have HT : Hid (∀ i, i < m → 1 ≤ (tx i).size ∧ (tx i).size ≤ 3) := ht
  clear h ht
  go_enter Tryz.func98, Tryz.ntmps98
  go_wp2
  go_loop [7, 8, 9] (fun bv lv iv => ∃ (i : Nat) (bst len : Int), i ≤ m ∧ iv = .int .i64 i ∧ bv = .int .i64 bst ∧ lv = .int .i64 len ∧ Best tx s p i bst len) (fun _ _ iv => m - (intOf iv).toNat)
  case atStart => exact ⟨0, -1, 0, Nat.zero_le _, rfl, rfl, rfl, best_start tx s p⟩
  case round =>
    obtain ⟨i, bst, len, hi, rfl, rfl, rfl, hb⟩ := hrel
    obtain ⟨q1, q2, q3⟩ := best_bd hb
    have HB : Hid (Best tx s p i bst len) := hb
    clear hb
    by_cases hlt : i < m
    · have ha := HE.out.addr (by omega)
      subst ha
      have c0 := HE.out.text i hlt
      obtain ⟨t1, t2⟩ := HT.out i hlt
      by_cases hl : len < ((tx i).size : Int)
      · by_cases hst : standB (tx i) s p = true
        · go_wp2_with (go_at_call 120; refine (standsAt_any _ _ _ _ hs t2 hp).mono ?_; rintro e _ ⟨rfl, rfl⟩)
          go_round
          case rel => exact ⟨i + 1, i, (tx i).size, by omega, by go_num, rfl, rfl, best_take HB.out hl hst⟩
          case measure => simp [intOf]; omega
        · have hst' : standB (tx i) s p = false := by simpa using hst
          go_wp2_with (go_at_call 120; refine (standsAt_any _ _ _ _ hs t2 hp).mono ?_; rintro e _ ⟨rfl, rfl⟩)
          go_round
          case rel => exact ⟨i + 1, bst, len, by omega, by go_num, rfl, rfl, best_skip t1 HB.out (.inr hst')⟩
          case measure => simp [intOf]; omega
      · go_wp2
        go_round
        case rel => exact ⟨i + 1, bst, len, by omega, by go_num, rfl, rfl, best_skip t1 HB.out (.inl hl)⟩
        case measure => simp [intOf]; omega
    · go_wp2
      go_ret
      have : i = m := by omega
      subst this
      exact ⟨ret_int (best_end hp HT.out HB.out), rfl⟩

end Go.Proofs.YtpclldccjpncdabGreat

namespace Go.Proofs.YtpclldccjpncdabGreat
open Go.RowKit

theorem info57 : (Tryz.prog.info? 63).map (fun i => (i.zero, i.size, i.bytes)) = some (some (.agg #[.string ByteArray.empty, .slice none 0 0]), 2, 40) := by kernel_rfl
theorem lenAt_end (m : Nat) (tx : Nat → ByteArray) (s : ByteArray) : lenAt m tx s s.size = 0 := by
  have := (lenAt_le m tx s s.size (Nat.le_refl _)).1
  omega
/-- the cells of the entries that were found -/
noncomputable def foundC (m : Nat) (tx : Nat → ByteArray) (la : Nat → Option Addr) (k lc : Nat → Nat) (s : ByteArray) (q : Nat) : List Value :=
  (List.range q).flatMap fun j => [.string (tx (pidx m tx s j)), .slice (la (pidx m tx s j)) (k (pidx m tx s j)) (lc (pidx m tx s j))]
theorem foundC_succ (m : Nat) (tx : Nat → ByteArray) (la : Nat → Option Addr) (k lc : Nat → Nat) (s : ByteArray) (q : Nat) :
    foundC m tx la k lc s (q + 1) = foundC m tx la k lc s q ++ [.string (tx (pidx m tx s q)), .slice (la (pidx m tx s q)) (k (pidx m tx s q)) (lc (pidx m tx s q))] := by
  simp [foundC, List.range_succ]
theorem new_two (w : World) (a b : Value) (t : TypeId) : ∀ (j : Nat) (u : Value), [a, b][j]? = some u → (w.alloc (.cells #[a, b] t)).cell? ((⟨w.heap.size, 0, none⟩ : Addr).add j) = some u := by
  intro j u hj
  have hr : (w.alloc (.cells #[a, b] t)).rowIs w.heap.size t 2 (fun i => #[a, b].getD i undef) := row_new w _ t 2 rfl
  match j, hj with
  | 0, hj => simp at hj; subst hj; exact hr.cell (i := 0) (by omega)
  | 1, hj => simp at hj; subst hj; exact hr.cell (i := 1) (by omega)

set_option maxRecDepth 100000 in
set_option maxHeartbeats 1000000 in
theorem cut_any (m cap b off : Nat) (ao : Option Addr) (tx : Nat → ByteArray) (la : Nat → Option Addr) (k lc lb lo : Nat → Nat) (z : Nat → Nat → Int) (s : ByteArray) (w : World) (hm : m ≤ 48) (hs : s.size ≤ 1000)
    (ht : ∀ i, i < m → 1 ≤ (tx i).size ∧ (tx i).size ≤ 3) (h : EntriesIn w.heap.size w ao m b off tx la k lc lb lo z) :
    Calls Tryz.prog 69 #[.slice ao m cap, .string s] w fun e w' => ∃ q, Cut m tx s q ∧ Below w.heap.size w w' ∧
      ((pos m tx s q = s.size ∧ ∃ v, e = .returned (.tuple #[v, .bool true]) ∧ w'.ownsRow w.heap.size 63 2 v q (foundC m tx la k lc s q)) ∨ (pos m tx s q ≠ s.size ∧ e = .returned (.tuple #[.slice none 0 0, .bool false]))) := by
  have HE : Hid (EntriesIn w.heap.size w ao m b off tx la k lc lb lo z) := h
  have HT : Hid (∀ i, i < m → 1 ≤ (tx i).size ∧ (tx i).size ≤ 3) := ht
  clear h ht
  obtain ⟨i0, hi0, hq0, hq1, hq2⟩ := info_parts info57
  go_enter Tryz.func69, Tryz.ntmps69
  go_wp2
  go_loopw [6, 7] (fun v av wr => ∃ q : Nat, av = .int .i64 (pos m tx s q : Nat) ∧ (∀ j, j < q → 0 < lenAt m tx s (pos m tx s j)) ∧ Below w.heap.size w wr ∧ wr.ownsRow w.heap.size 63 2 v q (foundC m tx la k lc s q)) (fun _ av _ => s.size - (intOf av).toNat)
  case atStart => exact ⟨0, rfl, fun j hj => by omega, Below.refl _ _, World.ownsRow_nil _ _ _ _⟩
  case round =>
    obtain ⟨q, rfl, hgo, hbel, hown⟩ := hrel
    have hpl := pos_le m tx s q
    have hqp := pos_ge q hgo
    have HGO : Hid (∀ j, j < q → 0 < lenAt m tx s (pos m tx s j)) := hgo
    have HOWN : Hid (wr.ownsRow w.heap.size 63 2 _ q (foundC m tx la k lc s q)) := hown
    clear hgo hown
    obtain ⟨pp, hpp⟩ : ∃ pp, pp = pos m tx s q := ⟨_, rfl⟩
    have HPP : Hid (pp = pos m tx s q) := hpp
    rw [← hpp] at hpl hqp ⊢
    clear hpp
    have hsz := hbel.size
    by_cases hlt : pp < s.size
    · by_cases hl : lenAt m tx s pp = 0
      · have HB : Hid (bestI m tx s pp = -1) := by show _ = _; simp [bestI, hl]
        have HL : Hid (lenAt m tx s pp = 0) := hl
        clear hl
        go_wp2_with (go_at_call 98; refine (longestAt_any _ _ _ _ _ _ _ _ _ _ _ _ _ _ _ hm hs hpl HT.out ((HE.out.below hbel).mono hsz)).mono ?_; rintro e w1 ⟨rfl, rfl⟩; rw [HB.out])
        go_ret2
        refine ⟨q, ⟨HGO.out, by rw [← HPP.out]; exact HL.out⟩, hbel, .inr ⟨by rw [← HPP.out]; omega, rfl⟩⟩
      · obtain ⟨c, hc⟩ : ∃ c, c = pidx m tx s q := ⟨_, rfl⟩
        have hl0 : 0 < lenAt m tx s pp := by omega
        have HB : Hid (bestI m tx s pp = (c : Int)) := by
          show _ = _
          rw [hc]
          simp [bestI, hl, pidx, piece, ← HPP.out]
        have hx := idx_spec (lenAt_text hl0)
        have hcm : c < m := by rw [hc, pidx, piece, ← HPP.out]; exact hx.1
        have HCT : Hid (tx c = sub s pp (lenAt m tx s pp)) := by show _ = _; rw [hc, pidx, piece, ← HPP.out]; exact hx.2.1
        have hsl : (tx c).size = lenAt m tx s pp := by rw [HCT.out]; exact size_sub _ _ _ (lenAt_le m tx s pp hpl).1
        have HSL : Hid ((tx c).size = lenAt m tx s pp) := hsl
        have HC : Hid (c = pidx m tx s q) := hc
        obtain ⟨t1, t2⟩ := HT.out c hcm
        have HL0 : Hid (0 < lenAt m tx s pp) := hl0
        clear hc hx hsl hl hl0
        have ha := HE.out.addr (by omega)
        subst ha
        have hbb := HE.out.lt (by omega)
        have c0 := cellTo hbel (HE.out.text c hcm) hbb
        have c1 := cellTo hbel (HE.out.list c hcm) hbb
        go_wp2_with (first
          | (go_at_call 98; refine (longestAt_any _ _ _ _ _ _ _ _ _ _ _ _ _ _ _ hm hs hpl HT.out ((HE.out.below hbel).mono hsz)).mono ?_; rintro e w1 ⟨rfl, rfl⟩; rw [HB.out])
          | (at_builtin; refine wpList_append_lies _ (by rfl) (.tmp 19) (.tmp 24) 26 (by rfl) w.heap.size 63 i0 (.agg #[.string ByteArray.empty, .slice none 0 0]) 2 40 Tryz.underlying26 hi0 hq0 hq1 hq2 rfl (by omega) _ q _ (by rfl) (HOWN.out.alloc _) ⟨wr.heap.size, 0, none⟩ 1 1 [.string (tx c), .slice (la c) (k c) (lc c)] (by rfl) (by rfl) ?c1 ?c2 (by omega) ?c3 ?c5 ?c4 (wr.heap.size + 1) (by simp) ?_))
        case c1 => exact new_two _ _ _ _
        case c2 => intro u hu; simp at hu; rcases hu with rfl | rfl <;> rfl
        case c3 => unfold maxLen; omega
        case c5 => omega
        case c4 => simp; omega
        · intro gv cap2 w2 hown2 hgrow _ hgv
          have HBN : Hid (Below w.heap.size w w2) := (hbel.alloc hsz _).grown hgrow (by simp; omega) (fun r hr => by
            obtain ⟨_, ho⟩ := HOWN.out
            rcases ho with ⟨hv, _⟩ | ⟨b', _, _, hv, hb', _⟩
            · rw [hv] at hr; simp [Value.ownBlock] at hr
            · rw [hv] at hr; simp [Value.ownBlock] at hr; omega)
          have d0 := cellTo HBN.out (HE.out.text c hcm) hbb
          have HO2 : Hid (w2.ownsRow w.heap.size 63 2 (.slice (some ⟨gv, 0, none⟩) (q + 1) cap2) (q + 1) (foundC m tx la k lc s (q + 1))) := by
            show _
            rw [foundC_succ, ← HC.out]
            exact hown2
          clear hown2 hgrow c0 c1
          go_wp2
          go_roundw
          case rel =>
            refine ⟨q + 1, ?_, fun j hj => ?_, HBN.out, HO2.out⟩
            · show _ = Value.int .i64 ((pos m tx s q + lenAt m tx s (pos m tx s q) : Nat) : Int)
              rw [← HPP.out, ← HSL.out]
              go_num
            · by_cases e : j = q
              · rw [e, ← HPP.out]; exact HL0.out
              · exact HGO.out j (by omega)
          case measure => simp [intOf]; omega
    · have hpe : pp = s.size := by omega
      have HPE : Hid (pos m tx s q = s.size) := by show _ = _; rw [← HPP.out]; exact hpe
      go_wp2
      go_ret2
      exact ⟨q, ⟨HGO.out, by rw [HPE.out]; exact lenAt_end m tx s⟩, hbel, .inl ⟨HPE.out, _, rfl, HOWN.out⟩⟩

end Go.Proofs.YtpclldccjpncdabGreat
