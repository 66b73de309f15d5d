import Derived.Test.YtpclldccjpncdaaGreatAppK
namespace Go.Proofs.YtpclldccjpncdaaGreat
open Go.RowKit

theorem ints_const {w : World} {B : Nat} {a : Option Addr} {K C : Nat} {x : Int} (h : w.ownsRow B 3 1 (.slice a K C) K (List.replicate K (.int .i64 x))) (hK : K ≤ 2000) : ∃ b, IntsIn w.heap.size w a K b 0 (fun _ => x) := by
  obtain ⟨vo, vc, gv, hv, ha, hc⟩ := ownC_cells h
  cases hv
  exact ⟨gv, fun h0 => (ha h0).1, fun h0 => (ha h0).2.1, fun i hi => by rw [Nat.zero_add]; exact hc i _ (by omega) (by simp [hi]), by omega⟩
theorem marks_done (z : Nat → Nat → Int) (i j K : Nat) (h : j < i) : ((List.range K).map fun c => Value.int .i64 (mkZ z i 0 j c)) = List.replicate K (.int .i64 (-(j : Int) - 1)) := by
  apply List.ext_getElem?
  intro c
  by_cases hc : c < K
  · simp [hc, mkZ, h]
  · simp [hc]

set_option maxRecDepth 100000 in
set_option maxHeartbeats 2000000 in
theorem asunder_any (B m : Nat) (no : Option Addr) (n nc : Nat) (eo : Option Addr) (ec : Nat) (tx : Nat → ByteArray) (k : Nat → Nat) (z : Nat → Nat → Int) (vs : Nat → Option Addr) (cs : Nat → Nat) (w : World)
    (hB : B ≤ w.heap.size) (hm : m ≤ 1000) (hk : ∀ i, i < m → 1 ≤ k i ∧ k i ≤ 1000)
    (hrow : w.ownsRow B 63 2 (.slice eo m ec) m (entC tx k vs cs m)) (hent : EntsO B k z m vs cs w) :
    Calls Tryz.prog 33 #[.agg #[.slice no n nc, .slice eo m ec]] w fun e w' => e = .returned (.bool true) ∧ Below B w w' := by
  obtain ⟨i0, hi0, hq0, hq1, hq2⟩ := info_parts infoIntC
  obtain ⟨j0, hj0, hp0, hp1, hp2⟩ := info_parts infoListC
  have HK : Hid (∀ i, i < m → 1 ≤ k i ∧ k i ≤ 1000) := hk
  have HST : Hid (AsuS B w.heap.size m no n nc eo ec tx k z vs cs w 0 0 (fun _ => none) (fun _ => 0) (.slice none 0 0) 0 (w.alloc (.cells #[.slice no n nc, .slice eo m ec] 28))) :=
    ⟨(below_one _).mono hB, by simp; omega, row_new _ _ _ 2 rfl, ownC_below hrow (below_one _), asu_start (hent.below (below_one _)) _ _, World.ownsRow_nil _ _ _ _⟩
  clear hk hrow hent
  go_enter Tryz.func33, Tryz.ntmps33
  go_wp2
  go_loopw [3, 4] (fun v iv wr => ∃ (i : Nat) (gs : Nat → Option Addr) (gc : Nat → Nat), i ≤ m ∧ iv = .int .i64 (i : Nat) ∧ AsuS B w.heap.size m no n nc eo ec tx k z vs cs w i 0 gs gc v i wr) (fun _ iv _ => m - (intOf iv).toNat)
  case atStart => exact ⟨0, _, _, Nat.zero_le _, rfl, HST.out⟩
  case round =>
    obtain ⟨i, gs, gc, hi, rfl, hst⟩ := hrel
    clear HST
    have HS : Hid (AsuS B w.heap.size m no n nc eo ec tx k z vs cs w i 0 gs gc _ i wr) := hst
    have b0 := hst.box.cell (i := 0) (by omega)
    have b1 := hst.box.cell (i := 1) (by omega)
    simp at b0 b1
    clear hst
    by_cases hlt : i < m
    · obtain ⟨vo, vc, gv, hv, ha, hc⟩ := ownC_cells HS.out.row
      cases hv
      obtain ⟨ha1, ha2, ha3⟩ := ha (by omega)
      have hki := HK.out i hlt
      have hci := hc (i * 2 + 1) _ (by omega) (entC_at tx k vs cs m i hlt).2
      have HHC : Hid (∀ j, j < m → wr.cell? ⟨gv, j * 2 + 1, none⟩ = some (.slice (vs j) (k j) (cs j))) := fun j hj => hc (j * 2 + 1) _ (by omega) (entC_at tx k vs cs m j hj).2
      obtain ⟨v2, vc2, g0, hv2, ha4, hc2⟩ := ownC_cells (HS.out.asu.lists.own i hlt)
      injection hv2 with hv2a hv2b hv2c
      obtain ⟨hg0, hg0l, hg0b⟩ := ha4 (by omega)
      have HG0 : Hid (vs i = some ⟨g0, 0, none⟩) := by show _ = _; rw [hv2a, hg0]
      rw [hv2a, hg0] at hci
      rw [ha1] at b1
      obtain ⟨K, hK⟩ : ∃ K, K = k i := ⟨_, rfl⟩
      obtain ⟨C, hC⟩ : ∃ C, C = cs i := ⟨_, rfl⟩
      rw [← hK, ← hC] at hci
      rw [← hK] at hki
      have HKK : Hid (K = k i) := hK
      have HCC : Hid (C = cs i) := hC
      clear hc hc2 ha ha4 hv2a hv2b hv2c hg0 hK hC
      have HVO : Hid (eo = some ⟨gv, 0, none⟩) := ha1
      clear ha1
      go_wp2
      have HS0 : Hid (AsuS B w.heap.size m no n nc eo ec tx k z vs cs w i 0 gs gc _ i wr) := HS
      go_loopw [7] (fun jv wi => ∃ q : Nat, q ≤ K ∧ jv = .int .i64 (q : Nat) ∧ AsuS B w.heap.size m no n nc eo ec tx k z vs cs w i q gs gc _ i wi) (fun jv _ => K - (intOf jv).toNat)
      case atStart => exact ⟨0, Nat.zero_le _, rfl, HS0.out⟩
      case round =>
        rename World => wi
        obtain ⟨q, hq, rfl, hsi⟩ := hrel
        clear HS HS0 b0 b1 hci HHC ha2 hg0l
        have HSI : Hid (AsuS B w.heap.size m no n nc eo ec tx k z vs cs w i q gs gc _ i wi) := hsi
        have hl := hsi.asu.lists.own i hlt
        rw [HG0.out, ← HKK.out, ← HCC.out] at hl
        have HLI : Hid (wi.ownsRow B 3 1 (.slice (some ⟨g0, 0, none⟩) K C) K ((List.range K).map fun c => Value.int .i64 (mkZ z i q i c))) := hl
        clear hsi hl
        by_cases hqK : q < K
        · obtain ⟨_, _, _, he, hx1, hx2⟩ := ownC_cells HLI.out
          cases he
          obtain ⟨hx3, _, _⟩ := hx1 (by omega)
          cases hx3
          have c0 := hx2 q (.int .i64 (mkZ z i q i q)) (by omega) (by simp [hqK])
          have f0 := own_frozen HLI.out q
          clear hx1 hx2
          go_wp2
          go_roundw
          case rel => exact ⟨q + 1, by omega, by go_num, HSI.out.set hlt HG0.out⟩
          case measure => simp [intOf]; omega
        · have hqe : q = K := by omega
          subst hqe
          have hsi := HSI.out
          rw [HKK.out] at hsi
          have HSK : Hid (AsuS B w.heap.size m no n nc eo ec tx k z vs cs w i (k i) gs gc _ i wi) := hsi
          clear hsi
          have hBw := HSK.out.base
          have HBW : Hid (B ≤ wi.heap.size) := hBw
          clear hBw
          go_wp2_with (first
            | (at_builtin; refine wpList_append_keep _ (by rfl) (.tmp 38) (.tmp 43) 61 (by rfl) B 3 i0 (.int .i64 0) 1 8 Tryz.underlying61 hi0 hq0 hq1 hq2 rfl g0 C q _ (by rfl) (HLI.out.alloc _) ⟨wi.heap.size, 0, none⟩ 4 4 (List.replicate 4 (.int .i64 (-(i : Int) - 1))) (by rfl) (by rfl) ?c1 ?c2 ?c3 ?c5 ?c4 ?_))
          case c1 => exact newC4 _ rfl _ _ _ _ _
          case c2 => intro u hu; rw [List.eq_of_mem_replicate hu]; rfl
          case c3 => unfold maxLen; omega
          case c5 => omega
          case c4 => simp; have := HBW.out; omega
          · intro g cap2 w2 hnew hkeep hgrow hor
            have hsz1 : (wi.alloc (Obj.cells #[Value.int IntKind.i64 (-(i : Int) - 1), Value.int IntKind.i64 (-(i : Int) - 1), Value.int IntKind.i64 (-(i : Int) - 1), Value.int IntKind.i64 (-(i : Int) - 1)] 3)).heap.size = wi.heap.size + 1 := size_one _ _
            rw [HKK.out] at hnew hkeep
            rw [← HG0.out, HCC.out] at hkeep
            have hap := (HSK.out.later (below_one _)).append hlt HG0.out hnew hkeep hgrow (by rw [hsz1]; exact hor)
            rw [← HKK.out] at hnew
            have HAP : Hid (AsuS B w.heap.size m no n nc eo ec tx k z vs cs w (i + 1) 0 (upd gs i (some ⟨g, 0, none⟩)) (upd gc i cap2) _ i w2) := hap
            have HBW2 : Hid (B ≤ w2.heap.size) := hap.base
            clear hap hnew hkeep hgrow hor hsz1 HSK HSI HLI HBW
            go_wp2_with (first
              | (at_builtin; refine wpList_append_lies _ (by rfl) (.tmp 45) (.tmp 47) 37 (by rfl) B 61 j0 (.slice none 0 0) 1 24 Tryz.underlying37 hj0 hp0 hp1 hp2 rfl (by omega) _ i _ (by rfl) ((HAP.out.later (below_one _)).lng) ⟨w2.heap.size, 0, none⟩ 1 1 [.slice (some ⟨g, 0, none⟩) (q + 4) cap2] (by rfl) (by rfl) ?d1 ?d2 (by omega) ?d3 ?d5 ?d4 (w2.heap.size + 1) (by simp) ?_))
            case d1 => exact cell_one_new _ _ _
            case d2 => intro u hu; simp at hu; subst hu; rfl
            case d3 => unfold maxLen; omega
            case d5 => omega
            case d4 => simp; have := HBW2.out; omega
            · intro g3 cap3 w3 hown3 hgrow3 _ _
              have HL3 : Hid (AsuS B w.heap.size m no n nc eo ec tx k z vs cs w (i + 1) 0 (upd gs i (some ⟨g, 0, none⟩)) (upd gc i cap2) (.slice (some ⟨g3, 0, none⟩) (i + 1) cap3) (i + 1) w3) := by
                refine AsuS.longer (HAP.out.later (below_one _)) hgrow3 ?_
                rw [upd_at, upd_at, ← HKK.out]
                exact hown3
              clear hown3 hgrow3 HAP
              go_wp2
              go_roundw
              case rel => exact ⟨i + 1, _, _, by omega, by go_num, HL3.out⟩
              case measure => simp [intOf]; omega
    · have hie : i = m := by omega
      subst hie
      obtain ⟨lo, lc, hvl⟩ := ownC_shape HS.out.lng
      subst hvl
      obtain ⟨vo, vc, gv, hv, ha, hc⟩ := ownC_cells HS.out.row
      cases hv
      obtain ⟨vo2, vc2, gl, hv2, ha2, hc2⟩ := ownC_cells HS.out.lng
      cases hv2
      have HA : Hid (0 < i → eo = some ⟨gv, 0, none⟩ ∧ gv < wr.heap.size) := fun h0 => ⟨(ha h0).1, (ha h0).2.1⟩
      have HA2 : Hid (0 < i → lo = some ⟨gl, 0, none⟩ ∧ gl < wr.heap.size) := fun h0 => ⟨(ha2 h0).1, (ha2 h0).2.1⟩
      have HC1 : Hid (∀ j, j < i → wr.cell? ⟨gv, j * 2 + 1, none⟩ = some (.slice (vs j) (k j) (cs j))) := fun j hj => hc (j * 2 + 1) _ (by omega) (entC_at tx k vs cs i j hj).2
      have HC2 : Hid (∀ j, j < i → wr.cell? ⟨gl, j, none⟩ = some (.slice (gs j) (k j + 4) (gc j))) := fun j hj => hc2 j _ (by omega) (by simp [lngC, hj])
      have HBX : Hid (w.heap.size < wr.heap.size) := HS.out.box.lt
      have HB1 : Hid (wr.cell? ⟨w.heap.size, 1, none⟩ = some (.slice eo i ec)) := b1
      have HLB : Hid (∀ wx, Below wr.heap.size wr wx → AsuS B w.heap.size i no n nc eo ec tx k z vs cs w i 0 gs gc (.slice lo i lc) i wx) := fun wx hb => HS.out.later hb
      clear hc hc2 ha ha2 HS
      go_wp2
      clear b0 b1
      go_loopw [9] (fun jv wx => ∃ j : Nat, j ≤ i ∧ jv = .int .i64 (j : Nat) ∧ Below wr.heap.size wr wx) (fun jv _ => i - (intOf jv).toNat)
      case atStart => exact ⟨0, Nat.zero_le _, rfl, Below.refl _ _⟩
      case round =>
        rename World => wx
        obtain ⟨j, hj, rfl, hbx⟩ := hrel
        have hbz := HBX.out
        have b1 := cellTo hbx HB1.out (by show w.heap.size < _; omega)
        by_cases hjl : j < i
        · have a1 := (HA.out (by omega)).1
          have a2 := (HA2.out (by omega)).1
          have c1 := cellTo hbx (HC1.out j hjl) (by show gv < _; exact (HA.out (by omega)).2)
          have HC2X : Hid (∀ wy, Below wx.heap.size wx wy → wy.cell? ⟨gl, j, none⟩ = some (.slice (gs j) (k j + 4) (gc j))) := fun wy hy => cellTo (below_then hbx hy) (HC2.out j hjl) (HA2.out (by omega)).2
          have hkj := HK.out j hjl
          have HI1 : Hid (∃ b, IntsIn wx.heap.size wx (vs j) (k j) b 0 (fun _ => -(j : Int) - 1)) := by
            have := (HLB.out wx hbx).asu.lists.own j hjl
            rw [marks_done z i j _ hjl] at this
            exact ints_const this (by omega)
          have HI2 : Hid (∀ wy, Below wx.heap.size wx wy → ∃ b, IntsIn wy.heap.size wy (gs j) (k j + 4) b 0 (fun _ => -(j : Int) - 1)) := fun wy hy => ints_const ((HLB.out wy (below_then hbx hy)).asu.grown j hjl) (by omega)
          obtain ⟨g1, hI1⟩ := HI1.out
          have HJ1 : Hid (IntsIn wx.heap.size wx (vs j) (k j) g1 0 (fun _ => -(j : Int) - 1)) := hI1
          obtain ⟨K, hK⟩ : ∃ K, K = k j := ⟨_, rfl⟩
          obtain ⟨C, hC⟩ : ∃ C, C = cs j := ⟨_, rfl⟩
          obtain ⟨V, hV⟩ : ∃ V, V = vs j := ⟨_, rfl⟩
          obtain ⟨V2, hV2⟩ : ∃ V, V = gs j := ⟨_, rfl⟩
          obtain ⟨C2, hC2⟩ : ∃ C, C = gc j := ⟨_, rfl⟩
          rw [← hK, ← hC, ← hV] at c1
          rw [← hK, ← hV] at HJ1
          rw [← hV2, ← hK] at HI2
          rw [← hV2, ← hK, ← hC2] at HC2X
          rw [a1] at b1
          rw [← hK] at hkj
          subst a2
          clear hK hC hV hV2 hC2 hI1 HI1 a1
          go_wp2_with fail
          refine (allN_any _ _ _ _ _ _ HJ1.out).mono ?_
          rintro e w4 ⟨rfl, hb4⟩
          have c2 := HC2X.out w4 hb4
          obtain ⟨g2, hI2⟩ := HI2.out w4 hb4
          have HJ2 : Hid (IntsIn w4.heap.size w4 V2 (K + 4) g2 0 (fun _ => -(j : Int) - 1)) := hI2
          clear hI2
          go_wp2_with fail
          refine (allN_any _ _ _ _ _ _ HJ2.out).mono ?_
          rintro e w5 ⟨rfl, hb5⟩
          clear c2 b1 c1
          go_wp2
          go_roundw
          case rel => exact ⟨j + 1, by omega, by go_num, below_then (below_then hbx hb4) hb5⟩
          case measure => simp [intOf]; omega
        · have hje : j = i := by omega
          subst hje
          go_wp2
          go_ret
          exact ⟨rfl, (HLB.out wx hbx).below⟩

end Go.Proofs.YtpclldccjpncdaaGreat
