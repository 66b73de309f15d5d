import Derived.Test.YtpclldccjpncdaaGreatRefLevel
namespace Go.Proofs.YtpclldccjpncdaaGreat
open Go.RowKit

open Classical in
noncomputable def mayE (L : Lay) (k : Nat) (u : Nat → ByteArray) (lev : Int) : Int :=
  if L.err ≠ 0 then L.err else if ∃ i, i < k ∧ 24 < (u i).size then 4 else if lev < 1 ∨ 3 < lev then 5 else if ∃ i, i < k ∧ ¬ hasP L (u i) then 6 else 0
theorem mayE_err {L : Lay} {k : Nat} {u : Nat → ByteArray} {lev : Int} (h : L.err ≠ 0) : L.err = mayE L k u lev := by simp [mayE, h]
theorem mayE_long {L : Lay} {k : Nat} {u : Nat → ByteArray} {lev : Int} (h : L.err = 0) (h2 : ∃ i, i < k ∧ 24 < (u i).size) : 4 = mayE L k u lev := by
  unfold mayE
  rw [if_neg (by simpa using h), if_pos h2]
theorem mayE_level {L : Lay} {k : Nat} {u : Nat → ByteArray} {lev : Int} (h : L.err = 0) (h2 : ∀ i, i < k → (u i).size ≤ 24) (h3 : lev < 1 ∨ 3 < lev) : 5 = mayE L k u lev := by
  unfold mayE
  rw [if_neg (by simpa using h), if_neg (by rintro ⟨i, hi, hx⟩; have := h2 i hi; omega), if_pos h3]
theorem mayE_text {L : Lay} {k : Nat} {u : Nat → ByteArray} {lev : Int} (h : L.err = 0) (h2 : ∀ i, i < k → (u i).size ≤ 24) (h3 : 1 ≤ lev) (h4 : lev ≤ 3) (h5 : ∃ i, i < k ∧ ¬ hasP L (u i)) : 6 = mayE L k u lev := by
  unfold mayE
  rw [if_neg (by simpa using h), if_neg (by rintro ⟨i, hi, hx⟩; have := h2 i hi; omega), if_neg (by omega), if_pos h5]
theorem mayE_ok {L : Lay} {k : Nat} {u : Nat → ByteArray} {lev : Int} (h : L.err = 0) (h2 : ∀ i, i < k → (u i).size ≤ 24) (h3 : 1 ≤ lev) (h4 : lev ≤ 3) (h5 : ∀ i, i < k → hasP L (u i)) : 0 = mayE L k u lev := by
  unfold mayE
  rw [if_neg (by simpa using h), if_neg (by rintro ⟨i, hi, hx⟩; have := h2 i hi; omega), if_neg (by omega), if_neg (by rintro ⟨i, hi, hx⟩; exact hx (h5 i hi))]

set_option maxRecDepth 100000 in
set_option maxHeartbeats 2000000 in
theorem refMay_any (L : Lay) (k : Nat) (u : Nat → ByteArray) (lev : Int) (ao : Option Addr) (cap b : Nat) (w : World) (h : L.In w.heap.size w) (hst : StrsIn w.heap.size w ao k b 0 u) :
    Calls Tryz.prog 47 #[.agg #[.slice L.na L.n L.nc, .slice L.ea L.m L.ec], .slice ao k cap, .int .i64 lev] w fun e w' => e = .returned (.int .i64 (mayE L k u lev)) ∧ Below w.heap.size w w' := by
  have HL : Hid (∀ w', Below w.heap.size w w' → L.In w'.heap.size w') := fun w' hb => h.later hb
  have HST : Hid (StrsIn w.heap.size w ao k b 0 u) := hst
  have hk := hst.le
  clear h hst
  by_cases he : L.err = 0
  · have HOK : Hid L.Ok := err_zero he
    have hm := HOK.out.m
    go_enter Tryz.func47, Tryz.ntmps47
    go_wp2_with (first
      | (go_at_call 19; refine (refValid_any L _ (HL.out _ (below_one _))).mono ?_; rintro e w1 ⟨rfl, hb1⟩; obtain ⟨hc, hf⟩ := bcell hb1; have hz1 : w.heap.size < w1.heap.size := by have := hb1.size; simp at this; omega))
    have HBW : Hid (Below w.heap.size w w1) := below_then (below_one _) hb1
    have c1' : w1.cell? ⟨w.heap.size, 1, none⟩ = some (.slice L.ea L.m L.ec) := by rw [hc w.heap.size 1 (by simp)]; go_simp
    clear hc hf
    go_loop [8] (fun iv => ∃ i : Nat, i ≤ k ∧ iv = .int .i64 i ∧ ∀ j, j < i → (u j).size ≤ 24) (fun iv => k - (intOf iv).toNat)
    case atStart => exact ⟨0, Nat.zero_le _, rfl, fun j hj => by omega⟩
    case round =>
      obtain ⟨i, hi, rfl, hall⟩ := hrel
      have HALL : Hid (∀ j, j < i → (u j).size ≤ 24) := hall
      clear hall
      by_cases hlt : i < k
      · have ha := HST.out.addr (by omega)
        subst ha
        have s0 := cellTo HBW.out (HST.out.cell i hlt) (HST.out.lt (by omega))
        simp only [Nat.zero_add] at s0
        by_cases hsz : (u i).size ≤ 24
        · go_wp2
          go_round
          case rel => exact ⟨i + 1, by omega, by go_num, fun j hj => by
              by_cases e : j = i
              · rw [e]; exact hsz
              · exact HALL.out j (by omega)⟩
          case measure => simp [intOf]; omega
        · go_wp2
          go_ret
          exact ⟨ret_int (mayE_long he ⟨i, hlt, by omega⟩), HBW.out⟩
      · have hik : i = k := by omega
        have HA24 : Hid (∀ j, j < k → (u j).size ≤ 24) := by show _; rw [← hik]; exact HALL.out
        by_cases hl : 1 ≤ lev ∧ lev ≤ 3
        · obtain ⟨l1, l3⟩ := hl
          go_wp2
          go_loopw [9] (fun iv wr => ∃ i : Nat, i ≤ k ∧ iv = .int .i64 i ∧ Below w1.heap.size w1 wr ∧ ∀ j, j < i → hasP L (u j)) (fun iv _ => k - (intOf iv).toNat)
          case atStart => exact ⟨0, Nat.zero_le _, rfl, Below.refl _ _, fun j hj => by omega⟩
          case round =>
            clear HALL hik hlt hi
            rename World => wr
            obtain ⟨i, hi, rfl, hbel, hall⟩ := hrel
            have HPS : Hid (∀ j, j < i → hasP L (u j)) := hall
            clear hall
            have hsz := hbel.size
            by_cases hlt : i < k
            · have ha := HST.out.addr (by omega)
              subst ha
              have hbb := HST.out.lt (by omega)
              have hbw := below_then HBW.out hbel
              have s0 := cellTo hbw (HST.out.cell i hlt) hbb
              simp only [Nat.zero_add] at s0
              have c1 := cellTo hbel c1' (by show w.heap.size < _; omega)
              have y0 : b < wr.heap.size := by omega
              have y1 : w.heap.size < wr.heap.size := by omega
              have HCUT : Hid (∀ wx, Below wr.heap.size wr wx → Calls Tryz.prog 45 #[.slice L.ea L.m L.ec, .string (u i)] wx fun e w' => ∃ v bo, e = .returned (.tuple #[v, .bool bo]) ∧ (bo = true ↔ hasP L (u i)) ∧ Below wr.heap.size wr w') := fun wx hb =>
                (refCut_any L.m _ _ _ _ L.tx L.la L.k L.lc L.lb L.lo L.z (u i) wx (by omega) (by have := HA24.out i hlt; omega) (HL.out wx (below_then hbw hb)).entries).mono (by
                  rintro e w' ⟨q, hq, hb', hor⟩
                  have hN := cutN_eq hq
                  rcases hor with ⟨hp, v, rfl, _⟩ | ⟨hp, rfl⟩
                  · exact ⟨v, true, rfl, ⟨fun _ => by unfold hasP; rw [hN]; exact hp, fun _ => rfl⟩, below_then hb hb'⟩
                  · exact ⟨_, false, rfl, ⟨fun h => absurd h (by simp), fun h => (by unfold hasP at h; rw [hN] at h; exact absurd h hp)⟩, below_then hb hb'⟩)
              go_wp2
              go_cut [11] from 35 to 52 (fun x wx => ∃ bo : Bool, x = .bool bo ∧ (bo = true ↔ hasP L (u i)) ∧ Below wr.heap.size wr wx)
              case first =>
                go_region_with ((go_at_call 45; refine (HCUT.out _ (Below.refl _ _).drew).mono ?_; rintro e w5 ⟨v5, bo, rfl, hbo, hb5⟩))
                all_goals
                  have HBO : Hid (bo = true ↔ hasP L (u i)) := hbo
                  clear hbo
                  go_wp2
                  go_meet
                  exact ⟨bo, rfl, HBO.out, hb5⟩
              case rest =>
                rename World => wx
                obtain ⟨bo, rfl, hbo, hbx⟩ := hcut
                have HBO : Hid (bo = true ↔ hasP L (u i)) := hbo
                clear hbo HCUT
                cases bo with
                | true =>
                  go_wp2
                  go_roundw
                  case rel => first | exact ⟨i + 1, by omega, by go_num, below_then hbel hbx, fun j hj => by
                      by_cases e : j = i
                      · rw [e]; exact HBO.out.1 (by simp)
                      · exact HPS.out j (by omega)⟩ | ((repeat apply Exists.intro); exact ⟨⟨i + 1, by omega, by go_num, below_then hbel hbx, fun j hj => by
                      by_cases e : j = i
                      · rw [e]; exact HBO.out.1 (by simp)
                      · exact HPS.out j (by omega)⟩, rfl⟩)
                  case measure => simp [intOf]; omega
                | false =>
                  go_wp2
                  go_ret
                  exact ⟨ret_int (mayE_text he HA24.out l1 l3 ⟨i, hlt, fun h => by have := HBO.out.2 h; simp at this⟩), below_then (below_then HBW.out hbel) hbx⟩
            · have hik : i = k := by omega
              subst hik
              go_wp2
              go_ret
              exact ⟨ret_int (mayE_ok he HA24.out l1 l3 HPS.out), below_then HBW.out hbel⟩
        · by_cases l1 : 1 ≤ lev
          · go_wp2
            go_ret
            exact ⟨ret_int (mayE_level he HA24.out (by omega)), HBW.out⟩
          · go_wp2
            go_ret
            exact ⟨ret_int (mayE_level he HA24.out (by omega)), HBW.out⟩
  · have HE : Hid (L.err = mayE L k u lev) := mayE_err he
    go_enter Tryz.func47, Tryz.ntmps47
    go_wp2_with (first
      | (go_at_call 19; refine (refValid_any L _ (HL.out _ (below_one _))).mono ?_; rintro e w1 ⟨rfl, hb1⟩))
    go_ret
    exact ⟨ret_int HE.out, below_then (below_one _) hb1⟩

end Go.Proofs.YtpclldccjpncdaaGreat
