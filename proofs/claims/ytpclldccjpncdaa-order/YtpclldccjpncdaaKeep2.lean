import Derived.Test.YtpclldccjpncdaaKeep1
import Derived.Deep.Cut
import Derived.Deep.CutRange
import Derived.Deep.DeepCutAuto
namespace Go.Proofs.Ytpclldccjpncdaa
open Go.RowKit

/-- every byte of the text is a text of the table -/
def Spelt (L : Lay) (s : ByteArray) : Prop := ∀ p, p < s.size → isText L.m L.tx (sub s p 1)
theorem sub_old (s u : ByteArray) (p : Nat) (h : p < s.size) : sub (s ++ u) p 1 = sub s p 1 := by
  apply ByteArray.ext
  have h' : p < s.data.size := h
  simp [sub, ByteArray.data_extract, ByteArray.data_append, Array.extract_append]
  omega
theorem sub_new (s : ByteArray) (i : Nat) : sub (s ++ ltr i) s.size 1 = ltr i := by
  unfold sub
  exact ByteArray.extract_append_eq_right rfl (by rw [ltr_size])
theorem letter_0 (w : World) : Calls Try.prog 27 #[.int .i64 0] w fun e w' => e = .returned (.string (ltr 0)) ∧ w' = w := letter_any 0 w (by omega)
theorem spelt_nil (L : Lay) : Spelt L ByteArray.empty := fun p hp => by simp at hp
theorem spelt_add {L : Lay} {s : ByteArray} {i : Nat} (h : Spelt L s) (hi : isText L.m L.tx (ltr i)) : Spelt L (s ++ ltr i) := by
  intro p hp
  rw [ByteArray.size_append, ltr_size] at hp
  by_cases e : p = s.size
  · rw [e, sub_new]; exact hi
  · rw [sub_old s _ p (by omega)]; exact h p (by omega)

set_option maxRecDepth 100000 in
set_option maxHeartbeats 1000000 in
theorem spelled_any (L : Lay) (rk rc rb ro : Nat) (ra : Option Addr) (rz : Nat → Int) (most k : Nat) (w : World) (h : L.In w.heap.size w) (hm : L.m ≤ 48) (hk : 1 ≤ k ∧ k ≤ 12) (ho : ones L L.m = k) (hl : ∀ j, j < k → isText L.m L.tx (ltr j))
    (hr : IntsIn w.heap.size w ra rk rb ro rz) (hrz : ∀ i, i < rk → -9223372036854775808 ≤ rz i ∧ rz i ≤ 9223372036854775807) (hmost : 1 ≤ most ∧ most ≤ 24) :
    Calls Try.prog 9 #[.agg #[.slice L.na L.n L.nc, .slice L.ea L.m L.ec], .slice ra rk rc, .int .i64 (most : Nat)] w fun e w' => (∃ s, e = .returned (.string s) ∧ 1 ≤ s.size ∧ s.size ≤ most ∧ Spelt L s) ∧ Below w.heap.size w w' := by
  have HL : Hid (∀ w', Below w.heap.size w w' → L.In w'.heap.size w') := fun w' hb => h.later hb
  have HO : Hid (ones L L.m = k) := ho
  have HT : Hid (∀ j, j < k → isText L.m L.tx (ltr j)) := hl
  have HR : Hid (IntsIn w.heap.size w ra rk rb ro rz) := hr
  have HRZ : Hid (∀ i, i < rk → -9223372036854775808 ≤ rz i ∧ rz i ≤ 9223372036854775807) := hrz
  obtain ⟨hk1, hk12⟩ := hk
  obtain ⟨hm1, hm24⟩ := hmost
  clear h ho hl hr hrz
  go_enter Try.func9, Try.ntmps9
  go_wp2_with (go_at_call 29; refine (singles_any L _ (HL.out _ (below_one _)) hm).mono ?_; rintro e w1 ⟨rfl, hb1⟩; rw [HO.out])
  have HB1 : Hid (Below w.heap.size w w1) := below_then (below_one _) hb1
  clear hb1
  go_loopw [8, 9] (fun sv iv wr => ∃ (i : Nat) (s : ByteArray), i ≤ most ∧ iv = .int .i64 (i : Nat) ∧ sv = .string s ∧ s.size = i ∧ Spelt L s ∧ Below w.heap.size w wr) (fun _ iv _ => most - (intOf iv).toNat)
  case atStart => exact ⟨0, ByteArray.empty, Nat.zero_le _, rfl, rfl, rfl, spelt_nil L, HB1.out⟩
  case round =>
    clear HB1
    rename World => ws
    obtain ⟨i, s, hi, rfl, rfl, hsi, hsp, hbel⟩ := hrel
    have HSI : Hid (s.size = i) := hsi
    have HSP : Hid (Spelt L s) := hsp
    have hss : s.size ≤ 24 := by omega
    clear hsi hsp
    by_cases hlt : i < rk ∧ i < most
    · obtain ⟨hlt1, hlt2⟩ := hlt
      have ha := HR.out.addr (by omega)
      subst ha
      have c0 := cellTo hbel (HR.out.cell i hlt1) (HR.out.lt (by omega))
      have hz := HRZ.out i hlt1
      go_wp2_with (first
        | (go_at_call 21; refine (pick_any _ _ _ (by omega) (by omega)).mono ?_; rintro e w1 ⟨r, rfl, hr, hw⟩; obtain rfl := hw.symm)
        | (go_at_call 27; refine (letter_any _ _ (by omega)).mono ?_; rintro e w1 ⟨rfl, hw⟩; obtain rfl := hw.symm; have hls := ltr_size r))
      go_roundw
      case rel => exact ⟨i + 1, s ++ ltr r, by omega, by go_num, rfl, by rw [ByteArray.size_append, ltr_size, HSI.out], spelt_add HSP.out (HT.out r (by omega)), hbel⟩
      case measure => simp [intOf]; omega
    · have HLT : Hid (¬ (i < rk ∧ i < most)) := hlt
      clear hlt
      go_upto_region 4 with (fail)
      go_cut [20] from 12 to 31 (fun b wc => b = .bool false ∧ wc = ws)
      case first =>
        by_cases hk : i < rk
        · have hk2 : ¬ i < most := fun h => HLT.out ⟨hk, h⟩
          go_wp2
          go_meet
          exact ⟨by simp <;> omega, rfl⟩
        · go_wp2
          go_meet
          exact ⟨rfl, rfl⟩
      case rest =>
        obtain ⟨rfl, hwc⟩ := hcut
        rename World => wy
        subst hwc
        by_cases h0 : s = ByteArray.empty
        · subst h0
          go_wp2_with (go_at_call 27; refine (letter_0 _).mono ?_; rintro e w1 ⟨rfl, hw⟩; obtain rfl := hw.symm)
          all_goals first | (exfalso; simp_all; done) | skip
          go_ret
          exact ⟨⟨_, rfl, by rw [ltr_size]; omega, by rw [ltr_size]; omega, by have := spelt_add (spelt_nil L) (HT.out 0 (by omega)); simpa using this⟩, hbel⟩
        · have h1 : s.toList.isEmpty = false := by
            cases hq : s.toList with
            | nil => exact absurd (bytes_eq.1 (hq.trans (by simp))) h0
            | cons a b => rfl
          have hs1 : 1 ≤ s.size := by
            rcases Nat.eq_zero_or_pos s.size with e | e
            · exact absurd (ByteArray.ext (Array.ext' (by simpa using Array.size_eq_zero_iff.1 e))) h0
            · exact e
          go_wp2
          go_ret
          exact ⟨⟨s, rfl, hs1, by have := HSI.out; omega, HSP.out⟩, hbel⟩

end Go.Proofs.Ytpclldccjpncdaa
