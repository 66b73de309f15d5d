import Derived.Test.YtpclldccjpncdaaGreatRefMay
namespace Go.Proofs.YtpclldccjpncdaaGreat
open Go.RowKit

/-- two texts -/
def two (a b : ByteArray) (i : Nat) : ByteArray := if i = 0 then a else b
theorem strs_two (w : World) (a b : ByteArray) (t : TypeId) : StrsIn (w.alloc (.cells #[.string a, .string b] t)).heap.size (w.alloc (.cells #[.string a, .string b] t)) (some ⟨w.heap.size, 0, none⟩) 2 w.heap.size 0 (two a b) := by
  have hr : (w.alloc (.cells #[.string a, .string b] t)).rowIs w.heap.size t 2 (fun i => #[Value.string a, .string b].getD i undef) := row_new w _ t 2 rfl
  refine ⟨fun _ => rfl, fun _ => hr.lt, fun i hi => ?_, by omega⟩
  match i, hi with
  | 0, _ => exact hr.cell (i := 0) (by omega)
  | 1, _ => exact hr.cell (i := 1) (by omega)
theorem mayE_two {L : Lay} {a b : ByteArray} {lev : Int} : mayE L 2 (two a b) lev = cmpE L a b lev := by
  by_cases he : L.err = 0
  · by_cases hs : 24 < a.size ∨ 24 < b.size
    · rw [cmpE_long he hs]
      refine (mayE_long he ?_).symm
      rcases hs with h | h
      · exact ⟨0, by omega, by simpa [two] using h⟩
      · exact ⟨1, by omega, by simpa [two] using h⟩
    · have h24 : ∀ i, i < 2 → (two a b i).size ≤ 24 := fun i hi => by
        match i, hi with
        | 0, _ => simp [two]; omega
        | 1, _ => simp [two]; omega
      by_cases hl : lev < 1 ∨ 3 < lev
      · rw [cmpE_level he (by omega) (by omega) hl, ← mayE_level he h24 hl]
      · by_cases hp : ¬ hasP L a ∨ ¬ hasP L b
        · rw [cmpE_text he (by omega) (by omega) (by omega) (by omega) hp]
          refine (mayE_text he h24 (by omega) (by omega) ?_).symm
          rcases hp with h | h
          · exact ⟨0, by omega, by simpa [two] using h⟩
          · exact ⟨1, by omega, by simpa [two] using h⟩
        · have ha : hasP L a := Classical.byContradiction fun h => hp (.inl h)
          have hb : hasP L b := Classical.byContradiction fun h => hp (.inr h)
          rw [cmpE_ok he (by omega) (by omega) (by omega) (by omega) ha hb]
          refine (mayE_ok he h24 (by omega) (by omega) fun i hi => ?_).symm
          match i, hi with
          | 0, _ => simpa [two] using ha
          | 1, _ => simpa [two] using hb
  · rw [cmpE_err he, ← mayE_err he]
theorem cmpE_zero {L : Lay} {a b : ByteArray} {lev : Int} (h : cmpE L a b lev = 0) : L.err = 0 ∧ a.size ≤ 24 ∧ b.size ≤ 24 ∧ 1 ≤ lev ∧ lev ≤ 3 ∧ hasP L a ∧ hasP L b := by
  by_cases he : L.err = 0
  · by_cases hs : 24 < a.size ∨ 24 < b.size
    · rw [cmpE_long he hs] at h; omega
    · by_cases hl : lev < 1 ∨ 3 < lev
      · rw [cmpE_level he (by omega) (by omega) hl] at h; omega
      · by_cases hp : ¬ hasP L a ∨ ¬ hasP L b
        · rw [cmpE_text he (by omega) (by omega) (by omega) (by omega) hp] at h; omega
        · exact ⟨he, by omega, by omega, by omega, by omega, Classical.byContradiction fun h => hp (.inl h), Classical.byContradiction fun h => hp (.inr h)⟩
  · rw [cmpE_err he] at h; exact absurd h he

set_option maxRecDepth 100000 in
set_option maxHeartbeats 2000000 in
theorem refCompare_any (L : Lay) (a b : ByteArray) (lev : Int) (w : World) (h : L.In w.heap.size w) :
    Calls Tryz.prog 24 #[.agg #[.slice L.na L.n L.nc, .slice L.ea L.m L.ec], .string a, .string b, .int .i64 lev] w fun e w' => e = .returned (.tuple #[.int .i64 (cmpV L a b lev), .int .i64 (cmpE L a b lev)]) ∧ Below w.heap.size w w' := by
  have HL : Hid (∀ w', Below w.heap.size w w' → L.In w'.heap.size w') := fun w' hb => h.later hb
  clear h
  by_cases hE : cmpE L a b lev = 0
  · obtain ⟨he, ha, hb, l1, l3, hpa, hpb⟩ := cmpE_zero hE
    have HOK : Hid L.Ok := err_zero he
    have HE : Hid (cmpE L a b lev = 0) := hE
    have HPA : Hid (hasP L a) := hpa
    have HPB : Hid (hasP L b) := hpb
    have HM : Hid (mayE L 2 (two a b) lev = 0) := by show _ = _; rw [mayE_two]; exact hE
    clear hE hpa hpb he
    obtain ⟨t, ht⟩ : ∃ t : Nat, lev = t := ⟨lev.toNat, by omega⟩
    subst ht
    go_enter Tryz.func24, Tryz.ntmps24
    go_wp2_with (first
      | (go_at_call 47; refine (refMay_any L 2 (two a b) _ _ _ _ _ (HL.out _ (below_then (below_one _) (below_one _))) (by simpa using strs_two (w.alloc (.cells #[.slice L.na L.n L.nc, .slice L.ea L.m L.ec] 28)) a b 9)).mono ?_; rintro e w1 ⟨rfl, hb1⟩; rw [HM.out]; obtain ⟨hc, hf⟩ := bcell hb1; have hz1 : w.heap.size + 1 < w1.heap.size := by have := hb1.size; simp at this; omega))
    have HBW : Hid (Below w.heap.size w w1) := below_then (below_then (below_one _) (below_one _)) hb1
    have c0' : w1.cell? ⟨w.heap.size, 0, none⟩ = some (.slice L.na L.n L.nc) := by rw [hc w.heap.size 0 (by simp; omega)]; go_simp
    have c1' : w1.cell? ⟨w.heap.size, 1, none⟩ = some (.slice L.ea L.m L.ec) := by rw [hc w.heap.size 1 (by simp; omega)]; go_simp
    clear hc hf
    go_loopw [11] (fun kv wr => ∃ k : Nat, 1 ≤ k ∧ k ≤ t + 1 ∧ kv = .int .i64 k ∧ Below w1.heap.size w1 wr ∧ cmpFrom L a b t 1 = cmpFrom L a b (t + 1 - k) k) (fun kv _ => t + 1 - (intOf kv).toNat)
    case atStart => exact ⟨1, by omega, by omega, rfl, Below.refl _ _, by simp⟩
    case round =>
      obtain ⟨k, hk1, hk2, rfl, hbel, hcf⟩ := hrel
      have HCF : Hid (cmpFrom L a b t 1 = cmpFrom L a b (t + 1 - k) k) := hcf
      clear hcf
      by_cases hkt : k ≤ t
      · have HST : Hid (cmpFrom L a b (t + 1 - k) k = if cmpL (wl L a k) (wl L b k) ≠ 0 then cmpL (wl L a k) (wl L b k) else cmpFrom L a b (t + 1 - (k + 1)) (k + 1)) := by
          show _ = _
          rw [show t + 1 - k = (t + 1 - (k + 1)) + 1 by omega]
          rfl
        have d0 := cellTo hbel c0' (by show w.heap.size < _; omega)
        have d1 := cellTo hbel c1' (by show w.heap.size < _; omega)
        go_wp2_with fail
        refine (refLevel_any L a k _ (HL.out _ (below_then HBW.out hbel)) HOK.out ha HPA.out hk1 (by omega)).mono ?_
        rintro e w4 ⟨pa, pcap, pb, rfl, hia, hb4⟩
        have HIA : Hid (IntsL w4.heap.size w4 pa (wl L a k) pb 0) := hia
        have d0' := cellTo hb4 d0 (by show w.heap.size < _; have := hbel.size; omega)
        have d1' := cellTo hb4 d1 (by show w.heap.size < _; have := hbel.size; omega)
        clear hia
        go_wp2_with fail
        refine (refLevel_any L b k _ (HL.out _ (below_then (below_then HBW.out hbel) hb4)) HOK.out hb HPB.out hk1 (by omega)).mono ?_
        rintro e w5 ⟨qa, qcap, qb, rfl, hib, hb5⟩
        have HIB : Hid (IntsL w5.heap.size w5 qa (wl L b k) qb 0) := hib
        clear hib
        go_wp2_with fail
        refine (refSign_any _ _ _ _ _ _ _ _ _ _ _ ((HIA.out.below hb5).mono hb5.size) HIB.out).mono ?_
        rintro e w6 ⟨rfl, hb6⟩
        obtain ⟨x, hx⟩ : ∃ x, x = cmpL (wl L a k) (wl L b k) := ⟨_, rfl⟩
        rw [← hx]
        have HX : Hid (x = cmpL (wl L a k) (wl L b k)) := hx
        clear hx d0 d1 d0' d1'
        have HBL : Hid (Below w1.heap.size w1 w6) := below_then (below_then (below_then hbel hb4) hb5) hb6
        by_cases hx0 : x = 0
        · go_wp2
          go_roundw
          case rel => exact ⟨k + 1, by omega, by omega, by go_num, HBL.out, by rw [HCF.out, HST.out, if_neg (by rw [← HX.out]; simpa using hx0)]⟩
          case measure => simp [intOf]; omega
        · go_wp2
          go_ret2
          refine ⟨ret_two ?_ HE.out.symm, below_then HBW.out HBL.out⟩
          rw [cmpV_ok HE.out, show (t : Int).toNat = t by omega, HCF.out, HST.out, if_pos (by rw [← HX.out]; exact hx0)]
          exact HX.out
      · go_wp2
        go_ret2
        refine ⟨ret_two ?_ HE.out.symm, below_then HBW.out hbel⟩
        have hke : t + 1 - k = 0 := by omega
        rw [cmpV_ok HE.out, show (t : Int).toNat = t by omega, HCF.out, hke]
        rfl
  · have HV : Hid (cmpV L a b lev = 0) := cmpV_no hE
    have HM : Hid (mayE L 2 (two a b) lev = cmpE L a b lev) := mayE_two
    go_enter Tryz.func24, Tryz.ntmps24
    go_wp2_with (first
      | (go_at_call 47; refine (refMay_any L 2 (two a b) _ _ _ _ _ (HL.out _ (below_then (below_one _) (below_one _))) (by simpa using strs_two (w.alloc (.cells #[.slice L.na L.n L.nc, .slice L.ea L.m L.ec] 28)) a b 9)).mono ?_; rintro e w1 ⟨rfl, hb1⟩; rw [HM.out]))
    go_ret2
    exact ⟨ret_two HV.out.symm rfl, below_then (below_then (below_one _) (below_one _)) hb1⟩

end Go.Proofs.YtpclldccjpncdaaGreat
