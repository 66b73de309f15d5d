import Derived.Test.YtpclldccjpncdabGreatM02
import Derived.Deep.RegionHeld3
import Derived.Deep.OwnRows
import Derived.Laws.IdiomCopy
namespace Go.Proofs.YtpclldccjpncdabGreat
open Go.RowKit

theorem refParts_at (p s t p' s' t' i : Int) (w : World) (hi : partsI p s t p' s' t' = i) :
    Calls Tryz.prog 68 #[.agg #[.int .i64 p, .int .i64 s, .int .i64 t], .agg #[.int .i64 p', .int .i64 s', .int .i64 t']] w fun e w' => e = .returned (.int .i64 i) ∧ Below w.heap.size w w' := hi ▸ refParts_any p s t p' s' t' w

theorem refWeights_b (p s t : Int) (w : World) :
    Calls Tryz.prog 67 #[.agg #[.int .i64 p, .int .i64 s, .int .i64 t]] w fun e w' => e = .returned (.agg #[.int .i64 p, .int .i64 s, .int .i64 t]) ∧ Below w.heap.size w w' :=
  (refWeights_any p s t w).mono fun _ _ ⟨he, hw⟩ => ⟨he, by rw [← hw]; exact below_then (below_one _) (below_one _)⟩

set_option maxHeartbeats 800000 in
theorem refAbove_at (p s t p' s' t' : Int) (w : World) (i : Nat) (hi3 : i ≤ 3) (hi : partsI p s t p' s' t' = i) (v : Bool) (hv0 : i = 0 → v = false) (hv1 : i = 1 → v = decide (p < p')) (hv2 : i = 2 → v = decide (s < s')) (hv3 : i = 3 → v = decide (t < t')) :
    Calls Tryz.prog 38 #[.agg #[.int .i64 p, .int .i64 s, .int .i64 t], .agg #[.int .i64 p', .int .i64 s', .int .i64 t']] w fun e w' => e = .returned (.bool v) ∧ Below w.heap.size w w' := by
  have HI : Hid (partsI p s t p' s' t' = i) := hi
  have HV : Hid ((i = 0 → v = false) ∧ (i = 1 → v = decide (p < p')) ∧ (i = 2 → v = decide (s < s')) ∧ (i = 3 → v = decide (t < t'))) := ⟨hv0, hv1, hv2, hv3⟩
  clear hi hv0 hv1 hv2 hv3
  have : i = 0 ∨ i = 1 ∨ i = 2 ∨ i = 3 := by omega
  rcases this with rfl | rfl | rfl | rfl
  all_goals
    go_enter Tryz.func38, Tryz.ntmps38
    go_wp2_with (first
      | (go_at_call 68; refine (refParts_at _ _ _ _ _ _ _ _ HI.out).mono ?_; rintro e w1 ⟨rfl, hb1⟩; obtain ⟨hc, hf⟩ := bcell hb1; have hz : w.heap.size + 1 < w1.heap.size := by have := hb1.size; simp at this; omega)
      | (go_at_call 67; have hz' := hz2; refine (refWeights_b _ _ _ _).mono ?_; rintro e w3 ⟨rfl, hb3⟩; obtain ⟨hc3, hf3⟩ := bcell hb3; have hz3 : w2.heap.size < w3.heap.size := by have := hb3.size; simp at this; omega)
      | (go_at_call 67; refine (refWeights_b _ _ _ _).mono ?_; rintro e w2 ⟨rfl, hb2⟩; obtain ⟨hc2, hf2⟩ := bcell hb2; have hz2 : w.heap.size + 1 < w2.heap.size := by have := hb2.size; omega))
    go_quiet (fail)
    go_wp2
    go_ret
    refine ⟨ret_bool ?_, below_drewN (below_then (below_then (below_then (below_then (below_then (below_then (below_one _) (below_one _)) hb1) hb2) (below_one _)) hb3) (below_one _)) _⟩
    have := HV.out
    simp_all

theorem refAbove_any (p s t p' s' t' : Int) (w : World) :
    Calls Tryz.prog 38 #[.agg #[.int .i64 p, .int .i64 s, .int .i64 t], .agg #[.int .i64 p', .int .i64 s', .int .i64 t']] w fun e w' => e = .returned (.bool (aboveB p' s' t' p s t)) ∧ Below w.heap.size w w' := by
  by_cases h1 : p = p'
  · by_cases h2 : s = s'
    · by_cases h3 : t = t'
      · exact refAbove_at p s t p' s' t' w 0 (by omega) (by simp [partsI, h1, h2, h3]) _ (fun _ => by simp [aboveB, h1, h2, h3]) (by omega) (by omega) (by omega)
      · exact refAbove_at p s t p' s' t' w 3 (by omega) (by simp [partsI, h1, h2, h3]) _ (by omega) (by omega) (by omega) (fun _ => by simp [aboveB, h1, h2])
    · exact refAbove_at p s t p' s' t' w 2 (by omega) (by simp [partsI, h1, h2]) _ (by omega) (by omega) (fun _ => by simp [aboveB, h1, Ne.symm h2]) (by omega)
  · exact refAbove_at p s t p' s' t' w 1 (by omega) (by simp [partsI, h1]) _ (by omega) (fun _ => by simp [aboveB, Ne.symm h1]) (by omega) (by omega)

end Go.Proofs.YtpclldccjpncdabGreat

namespace Go.Proofs.YtpclldccjpncdabGreat
open Go.RowKit

set_option maxRecDepth 100000 in
set_option maxHeartbeats 1000000 in
theorem refValid_any (L : Lay) (w : World) (h : L.In w.heap.size w) :
    Calls Tryz.prog 14 #[.agg #[.slice L.na L.n L.nc, .slice L.ea L.m L.ec]] w fun e w' => e = .returned (.int .i64 L.err) ∧ Below w.heap.size w w' := by
  by_cases hs : 48 < L.n ∨ 48 < L.m
  · have HS : Hid (1 = L.err) := err_size hs
    clear h
    rcases hs with hs | hs
    · go_enter Tryz.func14, Tryz.ntmps14
      go_wp2
      go_ret
      exact ⟨ret_int HS.out, below_one _⟩
    · by_cases hs' : 48 < L.n
      all_goals
        go_enter Tryz.func14, Tryz.ntmps14
        go_wp2
        go_ret
        exact ⟨ret_int HS.out, below_one _⟩
  · have h1 : L.n ≤ 48 := by omega
    have h2 : L.m ≤ 48 := by omega
    clear hs
    obtain ⟨⟨nA, nB, nP, nS, nT, _⟩, eI⟩ := h
    have HE : Hid (EntriesIn w.heap.size w L.ea L.m L.eb L.eo L.tx L.la L.k L.lc L.lb L.lo L.z) := eI
    have HN : Hid ((0 < L.n → L.na = some ⟨L.nb, L.no, none⟩) ∧ (0 < L.n → L.nb < w.heap.size) ∧ (∀ i, i < L.n → w.cell? ⟨L.nb, L.no + i * 3, none⟩ = some (.int .i64 (L.p i))) ∧
      (∀ i, i < L.n → w.cell? ⟨L.nb, L.no + i * 3 + 1, none⟩ = some (.int .i64 (L.s i))) ∧ (∀ i, i < L.n → w.cell? ⟨L.nb, L.no + i * 3 + 2, none⟩ = some (.int .i64 (L.t i)))) := ⟨nA, nB, nP, nS, nT⟩
    clear nA nB nP nS nT eI
    go_enter Tryz.func14, Tryz.ntmps14
    go_wp2
    go_loopw [3] (fun i wr => ∃ k : Nat, k ≤ L.n ∧ i = .int .i64 k ∧ Below w.heap.size w wr ∧ w.heap.size < wr.heap.size ∧ wr.cell? ⟨w.heap.size, 0, none⟩ = some (.slice L.na L.n L.nc) ∧ wr.cell? ⟨w.heap.size, 1, none⟩ = some (.slice L.ea L.m L.ec) ∧ nodesOk k L.p L.s L.t) (fun i _ => L.n - (intOf i).toNat)
    case atStart =>
      refine ⟨0, Nat.zero_le _, rfl, below_one _, by simp, ?_, ?_, by intro j hj; omega⟩
      all_goals go_simp
    case round =>
      obtain ⟨k, hk, rfl, hbel, hsz, b0, b1, hok⟩ := hrel
      have HOK : Hid (nodesOk k L.p L.s L.t) := hok
      clear hok
      by_cases hlt : k < L.n
      · obtain ⟨nA, nB, nP, nS, nT⟩ := HN.out
        have HB0 : Hid (wr.cell? ⟨w.heap.size, 0, none⟩ = some (.slice L.na L.n L.nc)) := b0
        rw [nA (by omega)] at b0
        have hbb := nB (by omega)
        have c0 := cellTo hbel (nP k hlt) hbb
        have c1 := cellTo hbel (nS k hlt) hbb
        have c2 := cellTo hbel (nT k hlt) hbb
        have HG : Hid (∀ i, i < L.n → w.cell? ⟨L.nb, L.no + i * 3, none⟩ = some (.int .i64 (L.p i)) ∧ w.cell? ⟨L.nb, L.no + i * 3 + 1, none⟩ = some (.int .i64 (L.s i)) ∧ w.cell? ⟨L.nb, L.no + i * 3 + 2, none⟩ = some (.int .i64 (L.t i))) := fun i hi => ⟨nP i hi, nS i hi, nT i hi⟩
        clear nA nB nP nS nT
        by_cases hnode : nodeB (L.p k) (L.s k) (L.t k) = true
        · by_cases h0 : 0 < k
          · go_wp2_with (go_at_call 37; refine (refIsNode_any _ _ _ _).mono ?_; rintro e w1 ⟨rfl, hb1⟩)
            have hz1 := hb1.size
            obtain ⟨g0, g1, g2⟩ := HG.out (k - 1) (by omega)
            have hbw := below_then hbel hb1
            have d0 := Wb.cell (w := w1) (B := wr.heap.size) (by show L.nb < _; omega) (cellTo hb1 c0 (by show L.nb < _; omega))
            have d1 := Wb.cell (w := w1) (B := wr.heap.size) (by show L.nb < _; omega) (cellTo hb1 c1 (by show L.nb < _; omega))
            have d2 := Wb.cell (w := w1) (B := wr.heap.size) (by show L.nb < _; omega) (cellTo hb1 c2 (by show L.nb < _; omega))
            have q0 := Wb.cell (w := w1) (B := wr.heap.size) (by show L.nb < _; omega) (cellTo hbw g0 (by show L.nb < _; omega))
            have q1 := Wb.cell (w := w1) (B := wr.heap.size) (by show L.nb < _; omega) (cellTo hbw g1 (by show L.nb < _; omega))
            have q2 := Wb.cell (w := w1) (B := wr.heap.size) (by show L.nb < _; omega) (cellTo hbw g2 (by show L.nb < _; omega))
            have e0 := Wb.cell (w := w1) (B := wr.heap.size) (by show w.heap.size < _; omega) (cellTo hb1 b0 (by show w.heap.size < _; omega))
            refine wp_region_below wr.heap.size (by kernel_rfl) (by kernel_rfl) ?_
            repeat (go_big_quiet_step ((go_at_call 38; exact Wb.ofCall _ hz1 (refAbove_any _ _ _ _ _ _ _))))
            refine wpQuiet_nil ?_
            rintro _ ⟨x, rfl⟩
            have hx := x.below
            generalize x.val = w2 at hx
            have f0 := cellTo (hb1.trans hx) b0 hsz
            have F0 : Hid (w2.cell? ⟨w.heap.size, 0, none⟩ = some (.slice L.na L.n L.nc)) := cellTo (hb1.trans hx) HB0.out hsz
            have f1 := cellTo (hb1.trans hx) b1 hsz
            have hzz := (hb1.trans hx).size
            clear d0 d1 d2 q0 q1 q2 e0 c0 c1 c2
            go_wp2
            · go_ret
              exact ⟨ret_int (err_node h1 h2 (nodesB_no2 hlt h0 (by simp_all)).symm), below_then hbel (hb1.trans hx)⟩
            · go_roundw
              case rel => exact ⟨k + 1, by omega, by go_num, below_then hbel (hb1.trans hx), by omega, F0.out, f1, nodesOk_step HOK.out (by simp_all) (fun _ => by simp_all)⟩
              case measure => simp [intOf]; omega
          · have hd : decide (0 < k) = false := by simpa using h0
            go_wp2_with (go_at_call 37; refine (refIsNode_any _ _ _ _).mono ?_; rintro e w1 ⟨rfl, hb1⟩)
            go_roundw
            case rel => exact ⟨k + 1, by omega, by go_num, below_then hbel hb1, by have := hb1.size; omega, cellTo hb1 HB0.out hsz, cellTo hb1 b1 hsz, nodesOk_step HOK.out (by simp_all) (fun h => absurd h h0)⟩
            case measure => simp [intOf]; omega
        · have hnf : nodeB (L.p k) (L.s k) (L.t k) = false := by simpa using hnode
          go_wp2_with (go_at_call 37; refine (refIsNode_any _ _ _ _).mono ?_; rintro e w1 ⟨rfl, hb1⟩)
          go_ret
          exact ⟨ret_int (err_node h1 h2 (nodesB_no1 hlt hnf).symm), below_then hbel hb1⟩
      · have hkn : k = L.n := by omega
        subst hkn
        have HNB : Hid (nodesB L.n L.p L.s L.t = true) := (nodesB_true HOK.out).symm
        have b0' := b0
        have b1' := b1
        have hbel' := hbel
        have hsz' := hsz
        go_wp2
        clear HOK HN
        go_loopw [5] (fun i wr => ∃ j : Nat, j ≤ L.m ∧ i = .int .i64 j ∧ Below w.heap.size w wr ∧ w.heap.size < wr.heap.size ∧ wr.cell? ⟨w.heap.size, 0, none⟩ = some (.slice L.na L.n L.nc) ∧ wr.cell? ⟨w.heap.size, 1, none⟩ = some (.slice L.ea L.m L.ec) ∧ entriesOk j L.tx L.k L.z L.n) (fun i _ => L.m - (intOf i).toNat)
        case atStart => exact ⟨0, Nat.zero_le _, rfl, hbel', hsz', b0', b1', by intro j hj; omega⟩
        case round =>
          clear b0 b1 hbel hsz b0' b1' hbel' hsz' hk hlt
          rename World => wo
          obtain ⟨j, hj, rfl, hbel, hsz, b0, b1, hok⟩ := hrel
          have HOK : Hid (entriesOk j L.tx L.k L.z L.n) := hok
          clear hok
          by_cases hlt : j < L.m
          · have HB1 : Hid (wo.cell? ⟨w.heap.size, 1, none⟩ = some (.slice L.ea L.m L.ec)) := b1
            have hbb := HE.out.lt (by omega)
            rw [HE.out.addr (by omega)] at b1
            have c0 := cellTo hbel (HE.out.text j hlt) hbb
            have c1 := cellTo hbel (HE.out.list j hlt) hbb
            have hcase : (((L.tx j).size = 0 ∨ (0 < (L.tx j).size ∧ 3 < (L.tx j).size) ∨ (0 < (L.tx j).size ∧ (L.tx j).size ≤ 3 ∧ 0 < L.k j ∧ 4 < L.k j)) ∨ (0 < (L.tx j).size ∧ (L.tx j).size ≤ 3 ∧ L.k j = 0)) ∨ (0 < (L.tx j).size ∧ (L.tx j).size ≤ 3 ∧ 0 < L.k j ∧ L.k j ≤ 4) := by omega
            rcases hcase with hbad | hgood
            · have HBAD : Hid (¬ entryOk (L.tx j).size (L.k j) (L.z j) L.n) := fun H => by have := H.1; have := H.2.1; omega
              have hk := (HE.out.ints j hlt).le
              rcases hbad with (hs | ⟨hs1, hs2⟩ | ⟨hs1, hs2, hs3, hs4⟩) | ⟨hs1, hs2, hs3⟩
              rotate_right
              · go_wp2
                go_loopw [7, 8] (fun o i ws => ∃ q : Nat, q ≤ L.k j ∧ i = .int .i64 q ∧ (∃ b : Bool, o = .bool b ∧ b = false) ∧ Below wo.heap.size wo ws ∧ wo.heap.size < ws.heap.size ∧ ws.cell? ⟨wo.heap.size, 0, none⟩ = some (.string (L.tx j)) ∧ ws.cell? ⟨wo.heap.size, 1, none⟩ = some (.slice (L.la j) (L.k j) (L.lc j))) (fun _ i _ => L.k j - (intOf i).toNat)
                case atStart =>
                  refine ⟨0, Nat.zero_le _, rfl, ⟨_, rfl, by first | rfl | (simp; omega)⟩, below_one _, by simp, ?_, ?_⟩
                  all_goals go_simp
                case round =>
                  rename World => ws
                  obtain ⟨q, hq, rfl, ⟨_, rfl, rfl⟩, hbs, hzs, x0, x1⟩ := hrel
                  by_cases hqk : q < L.k j
                  · exfalso; omega
                  · go_wp2
                    refine wp_region_below wo.heap.size (by kernel_rfl) (by kernel_rfl) ?_
                    repeat (go_big_quiet_step (fail))
                    refine wpQuiet_nil ?_
                    rintro _ ⟨x, rfl⟩
                    have hx := x.below
                    generalize x.val = w2 at hx
                    go_wp2
                    go_ret
                    exact ⟨ret_int (err_entry h1 h2 HNB.out (entriesB_no1 hlt (entryB_no HBAD.out).symm).symm), below_then hbel (hbs.trans hx)⟩
              all_goals
                go_wp2
                go_loopw [7, 8] (fun o i ws => ∃ q : Nat, q ≤ L.k j ∧ i = .int .i64 q ∧ (∃ b : Bool, o = .bool b ∧ b = false) ∧ Below wo.heap.size wo ws ∧ wo.heap.size < ws.heap.size ∧ ws.cell? ⟨wo.heap.size, 0, none⟩ = some (.string (L.tx j)) ∧ ws.cell? ⟨wo.heap.size, 1, none⟩ = some (.slice (L.la j) (L.k j) (L.lc j))) (fun _ i _ => L.k j - (intOf i).toNat)
                case atStart =>
                  refine ⟨0, Nat.zero_le _, rfl, ⟨_, rfl, by first | rfl | (simp; omega)⟩, below_one _, by simp, ?_, ?_⟩
                  all_goals go_simp
                case round =>
                  rename World => ws
                  obtain ⟨q, hq, rfl, ⟨_, rfl, rfl⟩, hbs, hzs, x0, x1⟩ := hrel
                  by_cases hqk : q < L.k j
                  · go_wp2
                    refine wp_region_below (wo.heap.size + 1) (by kernel_rfl) (by kernel_rfl) ?_
                    repeat (go_big_quiet_step (fail))
                    refine wpQuiet_nil ?_
                    rintro _ ⟨x, rfl⟩
                    have hx := x.below
                    generalize x.val = w2 at hx
                    have hz2 := hx.size
                    go_wp2
                    go_roundw
                    case rel => exact ⟨q + 1, by omega, by go_num, ⟨_, rfl, rfl⟩, hbs.trans (hx.mono (by omega)), by omega, cellTo hx x0 (by show wo.heap.size < _; omega), cellTo hx x1 (by show wo.heap.size < _; omega)⟩
                    case measure => simp [intOf]; omega
                  · go_wp2
                    refine wp_region_below wo.heap.size (by kernel_rfl) (by kernel_rfl) ?_
                    repeat (go_big_quiet_step (fail))
                    refine wpQuiet_nil ?_
                    rintro _ ⟨x, rfl⟩
                    have hx := x.below
                    generalize x.val = w2 at hx
                    go_wp2
                    go_ret
                    exact ⟨ret_int (err_entry h1 h2 HNB.out (entriesB_no1 hlt (entryB_no HBAD.out).symm).symm), below_then hbel (hbs.trans hx)⟩
            · obtain ⟨hs1, hs2, hs3, hs4⟩ := hgood
              have HI : Hid (IntsIn w.heap.size w (L.la j) (L.k j) (L.lb j) (L.lo j) (L.z j)) := HE.out.ints j hlt
              go_wp2
              go_loopw [7, 8] (fun o i ws => ∃ q : Nat, q ≤ L.k j ∧ i = .int .i64 q ∧ (∃ b : Bool, o = .bool b ∧ (b = true ↔ numsOk q (L.z j) L.n)) ∧ Below wo.heap.size wo ws ∧ wo.heap.size < ws.heap.size ∧ ws.cell? ⟨wo.heap.size, 0, none⟩ = some (.string (L.tx j)) ∧ ws.cell? ⟨wo.heap.size, 1, none⟩ = some (.slice (L.la j) (L.k j) (L.lc j))) (fun _ i _ => L.k j - (intOf i).toNat)
              case atStart =>
                refine ⟨0, Nat.zero_le _, rfl, ⟨_, rfl, ?_⟩, below_one _, by simp, ?_, ?_⟩
                · constructor
                  · intro _ q hq; omega
                  · intro _; simp; omega
                all_goals go_simp
              case round =>
                rename World => ws
                obtain ⟨q, hq, rfl, ⟨ok, rfl, hnum⟩, hbs, hzs, x0, x1⟩ := hrel
                have HNUM : Hid (ok = true ↔ numsOk q (L.z j) L.n) := hnum
                clear hnum
                by_cases hqk : q < L.k j
                · cases ok with
                  | false =>
                    go_wp2
                    refine wp_region_below (wo.heap.size + 1) (by kernel_rfl) (by kernel_rfl) ?_
                    repeat (go_big_quiet_step (fail))
                    refine wpQuiet_nil ?_
                    rintro _ ⟨x, rfl⟩
                    have hx := x.below
                    generalize x.val = w2 at hx
                    have hz2 := hx.size
                    go_wp2
                    go_roundw
                    case rel => exact ⟨q + 1, by omega, by go_num, ⟨_, rfl, ⟨fun h => absurd h (by simp), fun H => HNUM.out.2 (fun i hi => H i (by omega))⟩⟩, hbs.trans (hx.mono (by omega)), by omega, cellTo hx x0 (by show wo.heap.size < _; omega), cellTo hx x1 (by show wo.heap.size < _; omega)⟩
                    case measure => simp [intOf]; omega
                  | true =>
                    have hlb := HI.out.lt (by omega)
                    have zc : ws.cell? ⟨L.lb j, L.lo j + q, none⟩ = some (.int .i64 (L.z j q)) := cellTo (below_then hbel (hbs.mono (Nat.le_refl _))) (HI.out.cell q hqk) hlb
                    have X1 : Hid (ws.cell? ⟨wo.heap.size, 1, none⟩ = some (.slice (L.la j) (L.k j) (L.lc j))) := x1
                    rw [HI.out.addr (by omega)] at x1
                    have y0 := Wb.cell (w := ws) (B := wo.heap.size + 1) (by show L.lb j < _; omega) zc
                    have y1 := Wb.cell (w := ws) (B := wo.heap.size + 1) (by show wo.heap.size < _; omega) x1
                    have y2 := Wb.cell (w := ws) (B := wo.heap.size + 1) (by show w.heap.size < _; omega) (cellTo hbs b0 hsz)
                    by_cases hz0 : 0 ≤ L.z j q
                    · go_wp2
                      refine wp_region_below (wo.heap.size + 1) (by kernel_rfl) (by kernel_rfl) ?_
                      repeat (go_big_quiet_step (fail))
                      refine wpQuiet_nil ?_
                      rintro _ ⟨x, rfl⟩
                      have hx := x.below
                      generalize x.val = w2 at hx
                      have hz2 := hx.size
                      clear y0 y1 y2 zc
                      go_wp2
                      go_roundw
                      case rel =>
                        refine ⟨q + 1, by omega, by go_num, ⟨_, rfl, ?_⟩, hbs.trans (hx.mono (by omega)), by omega, cellTo hx x0 (by show wo.heap.size < _; omega), cellTo hx X1.out (by show wo.heap.size < _; omega)⟩
                        have hq1 := HNUM.out.1 (by simp)
                        constructor
                        · intro h; exact numsOk_step hq1 hz0 (by simpa using h)
                        · intro H; have := H q (by omega); simp; omega
                      case measure => simp [intOf]; omega
                    · have hd : decide (0 ≤ L.z j q) = false := by simpa using hz0
                      go_wp2
                      refine wp_region_below (wo.heap.size + 1) (by kernel_rfl) (by kernel_rfl) ?_
                      repeat (go_big_quiet_step (fail))
                      refine wpQuiet_nil ?_
                      rintro _ ⟨x, rfl⟩
                      have hx := x.below
                      generalize x.val = w2 at hx
                      have hz2 := hx.size
                      clear y0 y1 y2 zc
                      go_wp2
                      go_roundw
                      case rel =>
                        refine ⟨q + 1, by omega, by go_num, ⟨_, rfl, ?_⟩, hbs.trans (hx.mono (by omega)), by omega, cellTo hx x0 (by show wo.heap.size < _; omega), cellTo hx X1.out (by show wo.heap.size < _; omega)⟩
                        constructor
                        · intro h; cases h
                        · intro H; have := H q (by omega); omega
                      case measure => simp [intOf]; omega
                · have hqe : q = L.k j := by omega
                  subst hqe
                  cases ok with
                  | false =>
                    have HBAD : Hid (¬ entryOk (L.tx j).size (L.k j) (L.z j) L.n) := fun H => by have := HNUM.out.2 H.2.2; cases this
                    go_wp2
                    refine wp_region_below wo.heap.size (by kernel_rfl) (by kernel_rfl) ?_
                    repeat (go_big_quiet_step (fail))
                    refine wpQuiet_nil ?_
                    rintro _ ⟨x, rfl⟩
                    have hx := x.below
                    generalize x.val = w2 at hx
                    go_wp2
                    go_ret
                    exact ⟨ret_int (err_entry h1 h2 HNB.out (entriesB_no1 hlt (entryB_no HBAD.out).symm).symm), below_then hbel (hbs.trans hx)⟩
                  | true =>
                    have HGOOD : Hid (entryB (L.tx j).size (L.k j) (L.z j) L.n = true) := (entryB_yes ⟨⟨by omega, by omega⟩, ⟨by omega, by omega⟩, HNUM.out.1 (by simp)⟩).symm
                    by_cases hj0 : 0 < j
                    · have pt := cellTo (below_then hbel (hbs.mono (Nat.le_refl _))) (HE.out.text (j - 1) (by omega)) hbb
                      have y0 := Wb.cell (w := ws) (B := wo.heap.size + 1) (by show L.eb < _; omega) pt
                      have y1 := Wb.cell (w := ws) (B := wo.heap.size + 1) (by show wo.heap.size < _; omega) x0
                      have y2 := Wb.cell (w := ws) (B := wo.heap.size + 1) (by show w.heap.size < _; omega) (cellTo hbs b1 hsz)
                      go_wp2
                      refine wp_region_below (wo.heap.size + 1) (by kernel_rfl) (by kernel_rfl) ?_
                      repeat (go_big_quiet_step (fail))
                      refine wpQuiet_nil ?_
                      rintro _ ⟨x, rfl⟩
                      have hx := x.below
                      generalize x.val = w2 at hx
                      have hz2 := hx.size
                      clear y0 y1 y2 pt
                      go_wp2
                      · go_ret
                        exact ⟨ret_int (err_entry h1 h2 HNB.out (entriesB_no2 hlt hj0 (by simp_all [lessB])).symm), below_then hbel (hbs.trans (hx.mono (by omega)))⟩
                      · go_roundw
                        case rel => exact ⟨j + 1, by omega, by go_num, below_then hbel (hbs.trans (hx.mono (by omega))), by omega, cellTo (hbs.trans (hx.mono (by omega))) b0 hsz, cellTo (hbs.trans (hx.mono (by omega))) HB1.out hsz, entriesOk_step HOK.out HGOOD.out (fun _ => by simp_all [lessB])⟩
                        case measure => simp [intOf]; omega
                    · have hd : decide (0 < j) = false := by simpa using hj0
                      go_wp2
                      refine wp_region_below (wo.heap.size + 1) (by kernel_rfl) (by kernel_rfl) ?_
                      repeat (go_big_quiet_step (fail))
                      refine wpQuiet_nil ?_
                      rintro _ ⟨x, rfl⟩
                      have hx := x.below
                      generalize x.val = w2 at hx
                      have hz2 := hx.size
                      go_wp2
                      go_roundw
                      case rel => exact ⟨j + 1, by omega, by go_num, below_then hbel (hbs.trans (hx.mono (by omega))), by omega, cellTo (hbs.trans (hx.mono (by omega))) b0 hsz, cellTo (hbs.trans (hx.mono (by omega))) HB1.out hsz, entriesOk_step HOK.out HGOOD.out (fun h => absurd h hj0)⟩
                      case measure => simp [intOf]; omega
          · go_wp2
            go_ret
            have : j = L.m := by omega
            subst this
            exact ⟨ret_int (err_ok h1 h2 HNB.out (entriesB_yes HOK.out).symm), hbel⟩

end Go.Proofs.YtpclldccjpncdabGreat

namespace Go.Proofs.YtpclldccjpncdabGreat
open Go.RowKit

/-- Block g alone may have been written; no block is new. -/
structure OnlyRow (g : Nat) (w w' : World) : Prop where
  os : w'.os = w.os
  tape : w'.tape = w.tape
  output : w'.output = w.output
  size : w'.heap.size = w.heap.size
  block : ∀ b, b ≠ g → w'.heap[b]? = w.heap[b]?
theorem OnlyRow.refl (g : Nat) (w : World) : OnlyRow g w w := ⟨rfl, rfl, rfl, rfl, fun _ _ => rfl⟩
theorem OnlyRow.trans {g : Nat} {a b c : World} (h : OnlyRow g a b) (k : OnlyRow g b c) : OnlyRow g a c :=
  ⟨k.os.trans h.os, k.tape.trans h.tape, k.output.trans h.output, k.size.trans h.size, fun i hi => (k.block i hi).trans (h.block i hi)⟩
theorem OnlyRow.below {g B : Nat} {a w w' : World} (h : OnlyRow g w w') (hb : Below B a w) (hB : B ≤ g) : Below B a w' :=
  hb.trans ⟨h.os, h.tape, h.output, by rw [h.size]; exact Nat.le_refl _, fun k hk => h.block k (by omega)⟩
theorem OnlyRow.setCell (w : World) (g o : Nat) (v : Value) : OnlyRow g w (w.setCell ⟨g, o, none⟩ v) :=
  ⟨rfl, rfl, rfl, by simp [World.setCell], fun b hb => Below.heap_setCell _ _ _ _ hb⟩
theorem OnlyRow.setCells (g : Nat) : ∀ (vs : List Value) (o : Nat) (w : World), OnlyRow g w (w.setCells g o vs)
  | [], _, w => OnlyRow.refl g w
  | v :: r, o, w => (OnlyRow.setCell w g o v).trans (OnlyRow.setCells g r (o + 1) _)
theorem OnlyRow.row {g : Nat} {w w' : World} (h : OnlyRow g w w') {b : Nat} {t : TypeId} {n : Nat} {f : Nat → Value} (hr : w.rowIs b t n f) (hb : b ≠ g) : w'.rowIs b t n f := hr.of_block (h.block b hb)
theorem OnlyRow.cell {g : Nat} {w w' : World} (h : OnlyRow g w w') {a : Addr} {v : Value} (hc : w.cell? a = some v) (hb : a.block ≠ g) : w'.cell? a = some v := (World.cell?_of_block (w := w) (h.block a.block hb)).trans hc

/-- rows of two types lie in two blocks -/
theorem row_ne {w : World} {b b' : Nat} {t t' : TypeId} {n n' : Nat} {f f' : Nat → Value} (h : w.rowIs b t n f) (h' : w.rowIs b' t' n' f') (ht : t ≠ t') : b ≠ b' := by
  rintro rfl
  obtain ⟨c, hc, _⟩ := h
  obtain ⟨c', hc', _⟩ := h'
  rw [hc] at hc'
  cases hc'
  exact ht rfl

theorem row_setCells {b : Nat} {t : TypeId} {n : Nat} (F : Nat → Value) : ∀ (k o : Nat) (w : World) (f : Nat → Value), w.rowIs b t n f → o + k ≤ n →
    (w.setCells b o ((List.range' o k).map F)).rowIs b t n (fun j => if o ≤ j ∧ j < o + k then F j else f j)
  | 0, o, w, f, h, _ => h.congr fun i _ => by rw [if_neg (by omega)]
  | k + 1, o, w, f, h, hk => by
    have ih := row_setCells F k (o + 1) (w.setCell ⟨b, o, none⟩ (F o)) _ (h.set o (F o)) (by omega)
    rw [List.range'_succ, List.map_cons, World.setCells]
    refine ih.congr fun i _ => ?_
    by_cases e : i = o
    · subst e
      rw [if_neg (by omega), if_pos rfl, if_pos (by omega)]
    · by_cases hr : o + 1 ≤ i ∧ i < o + 1 + k
      · rw [if_pos hr, if_pos (by omega)]
      · rw [if_neg hr, if_neg e, if_neg (by omega)]

/-- 'copy' into a row of the call's own, elements of 'size' cells. -/
theorem run_copy_rows {P : Program} (w : World) (dT sT ty elem : TypeId) (size : Nat) (g dLen dCap : Nat) (sp : Option Addr) (sLen sCap : Nat) (t : TypeId) (N : Nat) (f F : Nat → Value)
    (hu : P.underlying dT = some (.slice elem)) (hs : (P.info? elem).map (·.size) = some size) (hle : sLen ≤ dLen) (hrow : w.rowIs g t N f) (hN : sLen * size ≤ N)
    (hsrc : 0 < sLen → ∃ sb so, sp = some ⟨sb, so, none⟩ ∧ ∀ j, j < sLen * size → w.cell? ⟨sb, so + j, none⟩ = some (F j)) (h1 : ∀ j, j < sLen * size → (F j).oneCell' = true) :
    ∃ w', (Builtin.copy_ #[dT, sT] ty #[.slice (some ⟨g, 0, none⟩) dLen dCap, .slice sp sLen sCap]).run P w = .ok (goInt sLen) w' ∧ OnlyRow g w w' ∧ w'.rowIs g t N (fun j => if j < sLen * size then F j else f j) := by
  cases hq : P.info? elem with
  | none => simp [hq] at hs
  | some i =>
    have hi : i.size = size := by simpa [hq] using hs
    have hmin : Nat.min sLen dLen = sLen := Nat.min_eq_left hle
    by_cases h0 : sLen = 0
    · subst h0
      refine ⟨w, ?_, OnlyRow.refl _ _, hrow.congr fun j _ => by rw [if_neg (by omega)]⟩
      have hl : ∀ (x : Addr), (loadCells x 0).run P w = .ok #[] w := fun x => by simpa using run_loadCells_list (P := P) w x [] (by simp)
      cases sp <;> simp [Builtin.copy_, run_underlying hu, Builtin.lenOf, Builtin.firstCells, sizeOf, typeInfo, hq, storeCells, hl]
    · obtain ⟨sb, so, rfl, hc⟩ := hsrc (by omega)
      have hlen : ((List.range' 0 (sLen * size)).map F).length = sLen * size := by simp
      have hcs : ∀ j v, ((List.range' 0 (sLen * size)).map F)[j]? = some v → w.cell? ((⟨sb, so, none⟩ : Addr).add j) = some v := by
        intro j v hj
        have hj' : j < sLen * size := by
          by_cases e : j < sLen * size
          · exact e
          · rw [List.getElem?_eq_none (by rw [hlen]; omega)] at hj; cases hj
        rw [List.getElem?_map, List.getElem?_range' hj'] at hj
        simp at hj
        subst hj
        rw [Addr.add_mid]
        exact hc j hj'
      have hl := run_loadCells_list (P := P) w ⟨sb, so, none⟩ _ hcs
      rw [hlen] at hl
      have hst := run_storeCells_cells (P := P) g 0 ((List.range' 0 (sLen * size)).map F) 0 w (fun j hj => by rw [hlen] at hj; simp [hrow.cell (i := j) (by omega)]) (fun j _ => hrow.frozen _)
        (fun v hv => by
          simp only [List.mem_map, List.mem_range'_1] at hv
          obtain ⟨j, hj, rfl⟩ := hv
          exact h1 j (by omega))
      refine ⟨_, ?_, OnlyRow.setCells g _ _ w, (row_setCells F (sLen * size) 0 w f hrow (by omega)).congr fun j _ => by simp⟩
      simp [Builtin.copy_, run_underlying hu, Builtin.lenOf, Builtin.firstCells, sizeOf, typeInfo, hq, hi, hmin, hl, hst]

theorem step_copy_rows {P : Program} {ops : Array Oper} {o : Oper} {a : Act} {w : World} {K : Act → World → Prop} {Q : Exit → Act → World → Prop} {E : Prop} (hgd : o.guard = none) (d s : Operand) (dT sT : TypeId)
    (ho : o.op = .call { callee := .builtin .copy, args := #[d, s], argTypes := #[dT, sT] }) (elem : TypeId) (size : Nat) (g dLen dCap : Nat) (sp : Option Addr) (sLen sCap : Nat) (hd : a.eval d = .slice (some ⟨g, 0, none⟩) dLen dCap) (hsv : a.eval s = .slice sp sLen sCap)
    (t : TypeId) (N : Nat) (f F : Nat → Value)
    (hu : P.underlying dT = some (.slice elem)) (hs : (P.info? elem).map (·.size) = some size) (hle : sLen ≤ dLen) (hrow : w.rowIs g t N f) (hN : sLen * size ≤ N)
    (hsrc : 0 < sLen → ∃ sb so, sp = some ⟨sb, so, none⟩ ∧ ∀ j, j < sLen * size → w.cell? ⟨sb, so + j, none⟩ = some (F j)) (h1 : ∀ j, j < sLen * size → (F j).oneCell' = true)
    (h : ∀ w', OnlyRow g w w' → w'.rowIs g t N (fun j => if j < sLen * size then F j else f j) → K (a.put o.dst (goInt sLen)) w') :
    if Region.wanted o (yielded ops a.tmps) = true then Oper.wp P o a w K Q else E := by
  have hw : Region.wanted o (yielded ops a.tmps) = true := by simp [Region.wanted, hgd]
  rw [if_pos hw]
  obtain ⟨w', hrun, ho', hr'⟩ := run_copy_rows (P := P) w dT sT o.type elem size g dLen dCap sp sLen sCap t N f F hu hs hle hrow hN hsrc h1
  unfold Oper.wp
  simp [execOp, ho, resolve, invoke, builtin, hd, hsv, hrun, Result.andThen]
  exact h w' ho' hr'

theorem wpList_copy_rows {P : Program} {ops : Array Oper} {rest : List Oper} {o : Oper} {a : Act} {w : World} {Q : Exit → Act → World → Prop} (hgd : o.guard = none) (d s : Operand) (dT sT : TypeId)
    (ho : o.op = .call { callee := .builtin .copy, args := #[d, s], argTypes := #[dT, sT] }) (elem : TypeId) (size : Nat) (g dLen dCap : Nat) (sp : Option Addr) (sLen sCap : Nat) (hd : a.eval d = .slice (some ⟨g, 0, none⟩) dLen dCap) (hsv : a.eval s = .slice sp sLen sCap)
    (t : TypeId) (N : Nat) (f F : Nat → Value)
    (hu : P.underlying dT = some (.slice elem)) (hs : (P.info? elem).map (·.size) = some size) (hle : sLen ≤ dLen) (hrow : w.rowIs g t N f) (hN : sLen * size ≤ N)
    (hsrc : 0 < sLen → ∃ sb so, sp = some ⟨sb, so, none⟩ ∧ ∀ j, j < sLen * size → w.cell? ⟨sb, so + j, none⟩ = some (F j)) (h1 : ∀ j, j < sLen * size → (F j).oneCell' = true)
    (h : ∀ w', OnlyRow g w w' → w'.rowIs g t N (fun j => if j < sLen * size then F j else f j) → wpList P ops Q rest (a.put o.dst (goInt sLen)) w') :
    wpList P ops Q (o :: rest) a w := by
  refine wpList_plain hgd fun K hK => ?_
  obtain ⟨w', hrun, ho', hr'⟩ := run_copy_rows (P := P) w dT sT o.type elem size g dLen dCap sp sLen sCap t N f F hu hs hle hrow hN hsrc h1
  unfold Oper.wp
  simp [execOp, ho, resolve, invoke, builtin, hd, hsv, hrun, Result.andThen]
  exact hK _ _ (h w' ho' hr')

end Go.Proofs.YtpclldccjpncdabGreat
