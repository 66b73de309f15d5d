import Derived.Test.YtpclldccjpncdaaPieces
namespace Go.Proofs.Ytpclldccjpncdaa
open Go.RowKit

def standB (t s : ByteArray) (p : Nat) : Bool := decide (p + t.size ≤ s.size) && ((sub s p t.size).toList == t.toList)
theorem standB_iff {t s : ByteArray} {p : Nat} : standB t s p = true ↔ p + t.size ≤ s.size ∧ sub s p t.size = t := by
  simp [standB, bytes_eq]
theorem standB_no {t s : ByteArray} {p : Nat} (h : s.size < p + t.size) : false = standB t s p := by
  have : ¬ p + t.size ≤ s.size := by omega
  simp [standB, this]
theorem standB_at {t s : ByteArray} {p : Nat} (h : p + t.size ≤ s.size) : ((sub s p t.size).toList == t.toList) = standB t s p := by simp [standB, h]

set_option maxHeartbeats 400000 in
theorem standsAt_any (t s : ByteArray) (p : Nat) (w : World) (hs : s.size ≤ 1000) (ht : t.size ≤ 3) (hp : p ≤ s.size) :
    Calls Try.prog 70 #[.string t, .string s, .int .i64 p] w fun e w' => e = .returned (.bool (standB t s p)) ∧ w = w' := by
  by_cases h : p + t.size ≤ s.size
  · have HB := standB_at h
    unfold sub at HB
    have HB2 : Hid (((s.extract p (p + t.size)).toList == t.toList) = standB t s p) := HB
    clear HB
    go_enter Try.func70, Try.ntmps70
    go_wp2
    go_ret
    exact ⟨ret_bool HB2.out, rfl⟩
  · have HB : Hid (false = standB t s p) := standB_no (by omega)
    go_enter Try.func70, Try.ntmps70
    go_wp2
    go_ret
    exact ⟨ret_bool HB.out, rfl⟩

/-- the search at entry i -/
def Best (tx : Nat → ByteArray) (s : ByteArray) (p i : Nat) (b len : Int) : Prop :=
  (b = -1 ∧ len = 0 ∧ ∀ j, j < i → standB (tx j) s p = false) ∨
  ∃ c : Nat, b = c ∧ c < i ∧ len = (tx c).size ∧ standB (tx c) s p = true ∧ (∀ j, j < i → standB (tx j) s p = true → (tx j).size ≤ (tx c).size) ∧ ∀ j, j < c → standB (tx j) s p = true → (tx j).size < (tx c).size
theorem best_start (tx : Nat → ByteArray) (s : ByteArray) (p : Nat) : Best tx s p 0 (-1) 0 := .inl ⟨rfl, rfl, fun j hj => by omega⟩
theorem best_bd {tx : Nat → ByteArray} {s : ByteArray} {p i : Nat} {b len : Int} (h : Best tx s p i b len) : -1 ≤ b ∧ b ≤ i ∧ 0 ≤ len := by
  rcases h with ⟨rfl, rfl, _⟩ | ⟨c, rfl, h1, rfl, _⟩ <;> omega
theorem best_take {tx : Nat → ByteArray} {s : ByteArray} {p i : Nat} {b len : Int} (h : Best tx s p i b len) (h1 : len < ((tx i).size : Int)) (h2 : standB (tx i) s p = true) : Best tx s p (i + 1) i (tx i).size := by
  refine .inr ⟨i, rfl, by omega, rfl, h2, fun j hj hs => ?_, fun j hj hs => ?_⟩
  · by_cases e : j = i
    · subst e; omega
    · rcases h with ⟨_, _, h⟩ | ⟨c, _, _, rfl, _, h, _⟩
      · have := h j (by omega); rw [hs] at this; cases this
      · have := h j (by omega) hs; omega
  · rcases h with ⟨_, _, h⟩ | ⟨c, _, _, rfl, _, h, _⟩
    · have := h j (by omega); rw [hs] at this; cases this
    · have := h j (by omega) hs; omega
theorem best_skip {tx : Nat → ByteArray} {s : ByteArray} {p i : Nat} {b len : Int} (h0 : 1 ≤ (tx i).size) (h : Best tx s p i b len) (h1 : ¬ len < ((tx i).size : Int) ∨ standB (tx i) s p = false) : Best tx s p (i + 1) b len := by
  rcases h with ⟨rfl, rfl, h⟩ | ⟨c, rfl, hc, rfl, hs, h2, h3⟩
  · refine .inl ⟨rfl, rfl, fun j hj => ?_⟩
    by_cases e : j = i
    · subst e
      rcases h1 with h1 | h1
      · omega
      · exact h1
    · exact h j (by omega)
  · refine .inr ⟨c, rfl, by omega, rfl, hs, fun j hj hj2 => ?_, h3⟩
    by_cases e : j = i
    · subst e
      rcases h1 with h1 | h1
      · omega
      · rw [hj2] at h1; cases h1
    · exact h2 j (by omega) hj2

noncomputable def bestI (m : Nat) (tx : Nat → ByteArray) (s : ByteArray) (p : Nat) : Int := if lenAt m tx s p = 0 then -1 else (idx m tx (sub s p (lenAt m tx s p)) : Nat)
theorem stand_text {m : Nat} {tx : Nat → ByteArray} {s : ByteArray} {p k : Nat} (hs : p + k ≤ s.size) (h : isText m tx (sub s p k)) : ∃ i, i < m ∧ (tx i).size = k ∧ standB (tx i) s p = true := by
  obtain ⟨i, hi, ht⟩ := h
  have hk : (tx i).size = k := by rw [ht]; exact size_sub _ _ _ hs
  exact ⟨i, hi, hk, standB_iff.2 ⟨by omega, by rw [hk, ht]⟩⟩
theorem best_end {m : Nat} {tx : Nat → ByteArray} {s : ByteArray} {p : Nat} {b len : Int} (hp : p ≤ s.size) (ht : ∀ i, i < m → 1 ≤ (tx i).size ∧ (tx i).size ≤ 3) (h : Best tx s p m b len) : b = bestI m tx s p := by
  rcases h with ⟨rfl, _, h⟩ | ⟨c, rfl, hc, _, hs, h2, h3⟩
  · have : lenAt m tx s p = 0 := lenAt_eq hp (by omega) (by omega) (by omega) fun k _ _ hk hx => by
      obtain ⟨i, hi, _, h4⟩ := stand_text hk hx
      have := h i hi
      rw [h4] at this; cases this
    simp [bestI, this]
  · obtain ⟨h4, h5⟩ := standB_iff.1 hs
    have hl : lenAt m tx s p = (tx c).size := lenAt_eq hp (ht c hc).2 h4 (fun _ => ⟨c, hc, h5.symm⟩) fun k hk _ hk2 hx => by
      obtain ⟨i, hi, hi2, h6⟩ := stand_text hk2 hx
      have := h2 i hi h6
      omega
    have h0 := (ht c hc).1
    have hi : idx m tx (sub s p (lenAt m tx s p)) = c := idx_eq hc (by rw [hl]; exact h5.symm) fun j hj e => by
      rw [hl] at e
      have hsz : (tx j).size = (tx c).size := by rw [e]; exact size_sub _ _ _ h4
      have := h3 j hj (standB_iff.2 ⟨by omega, by rw [hsz, e]⟩)
      omega
    have h1 : ¬ lenAt m tx s p = 0 := by omega
    simp [bestI, h1, hi]

set_option maxHeartbeats 400000 in
theorem longestAt_any (m cap b off : Nat) (ao : Option Addr) (tx : Nat → ByteArray) (la : Nat → Option Addr) (k lc lb lo : Nat → Nat) (z : Nat → Nat → Int) (s : ByteArray) (p : Nat) (w : World) (hm : m ≤ 48) (hs : s.size ≤ 1000) (hp : p ≤ s.size)
    (ht : ∀ i, i < m → 1 ≤ (tx i).size ∧ (tx i).size ≤ 3) (h : EntriesIn w.heap.size w ao m b off tx la k lc lb lo z) :
    Calls Try.prog 54 #[.slice ao m cap, .string s, .int .i64 p] w fun e w' => e = .returned (.int .i64 (bestI m tx s p)) ∧ w = w' := by
  have HE : Hid (EntriesIn w.heap.size w ao m b off tx la k lc lb lo z) := h
  have HT : Hid (∀ i, i < m → 1 ≤ (tx i).size ∧ (tx i).size ≤ 3) := ht
  clear h ht
  go_enter Try.func54, Try.ntmps54
  go_wp2
  go_loop [7, 8, 9] (fun bv lv iv => ∃ (i : Nat) (bst len : Int), i ≤ m ∧ iv = .int .i64 i ∧ bv = .int .i64 bst ∧ lv = .int .i64 len ∧ Best tx s p i bst len) (fun _ _ iv => m - (intOf iv).toNat)
  case atStart => exact ⟨0, -1, 0, Nat.zero_le _, rfl, rfl, rfl, best_start tx s p⟩
  case round =>
    obtain ⟨i, bst, len, hi, rfl, rfl, rfl, hb⟩ := hrel
    obtain ⟨q1, q2, q3⟩ := best_bd hb
    have HB : Hid (Best tx s p i bst len) := hb
    clear hb
    by_cases hlt : i < m
    · have ha := HE.out.addr (by omega)
      subst ha
      have c0 := HE.out.text i hlt
      obtain ⟨t1, t2⟩ := HT.out i hlt
      by_cases hl : len < ((tx i).size : Int)
      · by_cases hst : standB (tx i) s p = true
        · go_wp2_with (go_at_call 70; refine (standsAt_any _ _ _ _ hs t2 hp).mono ?_; rintro e _ ⟨rfl, rfl⟩)
          go_round
          case rel => exact ⟨i + 1, i, (tx i).size, by omega, by go_num, rfl, rfl, best_take HB.out hl hst⟩
          case measure => simp [intOf]; omega
        · have hst' : standB (tx i) s p = false := by simpa using hst
          go_wp2_with (go_at_call 70; refine (standsAt_any _ _ _ _ hs t2 hp).mono ?_; rintro e _ ⟨rfl, rfl⟩)
          go_round
          case rel => exact ⟨i + 1, bst, len, by omega, by go_num, rfl, rfl, best_skip t1 HB.out (.inr hst')⟩
          case measure => simp [intOf]; omega
      · go_wp2
        go_round
        case rel => exact ⟨i + 1, bst, len, by omega, by go_num, rfl, rfl, best_skip t1 HB.out (.inl hl)⟩
        case measure => simp [intOf]; omega
    · go_wp2
      go_ret
      have : i = m := by omega
      subst this
      exact ⟨ret_int (best_end hp HT.out HB.out), rfl⟩

end Go.Proofs.Ytpclldccjpncdaa
