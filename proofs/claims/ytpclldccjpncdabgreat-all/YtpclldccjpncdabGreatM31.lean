import Derived.Test.YtpclldccjpncdabGreatM30
import Derived.Deep.RegionLaw
import Derived.Deep.RegionHeld3
namespace Go.Proofs.YtpclldccjpncdabGreat
open Go.RowKit

set_option maxRecDepth 100000 in
set_option maxHeartbeats 4000000 in
theorem begun_any (L : Lay) (w : World) (h : L.In w.heap.size w) (hn : L.n ≤ 48) (hm : L.m ≤ 48) (hk : ∀ i, i < L.m → L.k i ≤ 4) :
    Calls Tryz.prog 61 #[.agg #[.slice L.na L.n L.nc, .slice L.ea L.m L.ec]] w fun e w' => ∃ (g : Nat) (la ea sa : Option Addr) (lc ec sc : Nat) (vs : Nat → Option Addr) (cs : Nat → Nat), e = .returned (.pointer (some ⟨g, 0, none⟩)) ∧ Hid (WkA w.heap.size g (begS L) la ea sa lc ec sc vs cs w') ∧ Below w.heap.size w w' := by
  obtain ⟨i0, hi0, hq0, hq1, hq2⟩ := info_parts infoSpC
  have HIN : Hid (L.In w.heap.size w) := h
  clear h
  obtain ⟨W, hW⟩ : ∃ W, W = ((w.alloc (.cells #[.slice L.na L.n L.nc, .slice L.ea L.m L.ec] 28)).alloc (.cells #[.slice none 0 0, .slice none 0 0, .slice none 0 0, .int .i64 0, .int .i64 (L.n : Nat)] 127)).alloc (.cells #[.int .i64 0, .int .i64 0, .int .i64 0] 65) := ⟨_, rfl⟩
  have HW : Hid (W = ((w.alloc (.cells #[.slice L.na L.n L.nc, .slice L.ea L.m L.ec] 28)).alloc (.cells #[.slice none 0 0, .slice none 0 0, .slice none 0 0, .int .i64 0, .int .i64 (L.n : Nat)] 127)).alloc (.cells #[.int .i64 0, .int .i64 0, .int .i64 0] 65)) := hW
  have HWS : Hid (W.heap.size = w.heap.size + 3) := by show _ = _; rw [hW]; simp
  clear hW
  go_enter Tryz.func61, Tryz.ntmps61
  have HT0 : Hid (W.rowIs w.heap.size 28 2 (fun j => #[Value.slice L.na L.n L.nc, .slice L.ea L.m L.ec].getD j undef)) := by
    show World.rowIs _ _ _ _ _
    rw [HW.out]
    exact ((row_new _ _ _ 2 rfl).alloc _).alloc _
  have HR0 : Hid (W.rowIs (w.heap.size + 1) 127 5 (wkF none 0 0 none 0 0 none 0 0 0 (L.n : Nat))) := by
    show World.rowIs _ _ _ _ _
    rw [HW.out]
    exact (row_at (row_new _ _ _ 5 rfl) (size_one _ _) (fun _ _ => rfl)).alloc _
  have HN0 : Hid (W.rowIs (w.heap.size + 1 + 1) 65 3 (ndF (prv L.p 0) (prv L.s 0) (prv L.t 0))) := by
    show World.rowIs _ _ _ _ _
    rw [HW.out]
    exact row_at (row_new _ _ _ 3 rfl) (by simp) (fun _ _ => rfl)
  have HB0 : Hid (Below w.heap.size w W) := by show Below _ _ _; rw [HW.out]; exact below_then (below_then (below_one _) (below_one _)) (below_one _)
  go_wp2
  go_loopw [5] (fun iv wr => ∃ (i : Nat) (la : Option Addr) (lc : Nat), i ≤ L.n ∧ iv = .int .i64 (i : Nat) ∧ Below w.heap.size w wr ∧ Hid (wr.rowIs w.heap.size 28 2 (fun j => #[Value.slice L.na L.n L.nc, .slice L.ea L.m L.ec].getD j undef)) ∧ Hid (wr.rowIs (w.heap.size + 1) 127 5 (wkF la i lc none 0 0 none 0 0 0 (L.n : Nat))) ∧ Hid (wr.rowIs (w.heap.size + 1 + 1) 65 3 (ndF (prv L.p i) (prv L.s i) (prv L.t i))) ∧ Hid (wr.ownsRow (w.heap.size + 3) 129 6 (.slice la i lc) i (spsC (lsB L i)))) (fun iv _ => L.n - (intOf iv).toNat)
  case atStart => exact ⟨0, none, 0, Nat.zero_le _, rfl, by have h := HB0.out; rw [HW.out] at h; exact h, by have h := HT0.out; rw [HW.out] at h; exact h, by have h := HR0.out; rw [HW.out] at h; exact h, by have h := HN0.out; rw [HW.out] at h; exact h, World.ownsRow_nil _ _ _ _⟩
  case round =>
    obtain ⟨i, la, lc, hi, rfl, hbel, HT, HR, HNd, HO⟩ := hrel
    have hzt := HT.out.lt
    have hzr := HR.out.lt
    have hzn := HNd.out.lt
    by_cases hlt : i < L.n
    · have hlt' : (i : Int) < (L.n : Int) := by omega
      have hna := HIN.out.nodes.addr (by omega)
      have hnb := HIN.out.nodes.lt (by omega)
      have tb : wr.cell? ⟨w.heap.size, 0, none⟩ = some (.slice (some ⟨L.nb, L.no, none⟩) L.n L.nc) := by have := HT.out.cell (i := 0) (by omega); rw [← hna]; exact this
      clear hna
      have n0 := cellTo hbel (HIN.out.nodes.p i hlt) hnb
      have n1 := cellTo hbel (HIN.out.nodes.s i hlt) hnb
      have n2 := cellTo hbel (HIN.out.nodes.t i hlt) hnb
      obtain ⟨xp, hxp⟩ : ∃ x, x = L.p i := ⟨_, rfl⟩
      obtain ⟨xs, hxs⟩ : ∃ x, x = L.s i := ⟨_, rfl⟩
      obtain ⟨xt, hxt⟩ : ∃ x, x = L.t i := ⟨_, rfl⟩
      obtain ⟨pp, hpp⟩ : ∃ x, x = prv L.p i := ⟨_, rfl⟩
      obtain ⟨ps, hps⟩ : ∃ x, x = prv L.s i := ⟨_, rfl⟩
      obtain ⟨pt, hpt⟩ : ∃ x, x = prv L.t i := ⟨_, rfl⟩
      obtain ⟨sg, hsg⟩ : ∃ x, x = stI pp ps pt xp xs xt := ⟨_, rfl⟩
      have HSP : Hid (spB L i = ⟨(i : Nat), sg, true, xp, xs, xt⟩) := by show _ = _; unfold spB; rw [hsg, hxp, hxs, hxt, hpp, hps, hpt]
      have HPV : Hid (prv L.p (i + 1) = xp ∧ prv L.s (i + 1) = xs ∧ prv L.t (i + 1) = xt) := by show _ ∧ _; rw [hxp, hxs, hxt]; exact ⟨rfl, rfl, rfl⟩
      have HCS : Hid (∀ wz, Calls Tryz.prog 89 #[.agg #[.int .i64 pp, .int .i64 ps, .int .i64 pt], .agg #[.int .i64 xp, .int .i64 xs, .int .i64 xt]] wz fun e w' => e = .returned (.int .i64 sg) ∧ Below wz.heap.size wz w') := fun wz => by rw [hsg]; exact strength_any pp ps pt xp xs xt wz
      rw [← hxp] at n0
      rw [← hxs] at n1
      rw [← hxt] at n2
      rw [← hpp, ← hps, ← hpt] at HNd
      have k0 : wr.cell? ⟨w.heap.size + 1 + 1, 0, none⟩ = some (.int .i64 pp) := HNd.out.cell (i := 0) (by omega)
      have k1 : wr.cell? ⟨w.heap.size + 1 + 1, 1, none⟩ = some (.int .i64 ps) := HNd.out.cell (i := 1) (by omega)
      have k2 : wr.cell? ⟨w.heap.size + 1 + 1, 2, none⟩ = some (.int .i64 pt) := HNd.out.cell (i := 2) (by omega)
      clear hxp hxs hxt hpp hps hpt hsg
      have b0 := Wb.cell (w := wr) (B := wr.heap.size) (by show w.heap.size + 1 + 1 < _; omega) k0
      have b1 := Wb.cell (w := wr) (B := wr.heap.size) (by show w.heap.size + 1 + 1 < _; omega) k1
      have b2 := Wb.cell (w := wr) (B := wr.heap.size) (by show w.heap.size + 1 + 1 < _; omega) k2
      have bt0 := Wb.cell (w := wr) (B := wr.heap.size) (by show w.heap.size < _; omega) tb
      have bn0 := Wb.cell (w := wr) (B := wr.heap.size) (by show L.nb < _; omega) n0
      have bn1 := Wb.cell (w := wr) (B := wr.heap.size) (by show L.nb < _; omega) n1
      have bn2 := Wb.cell (w := wr) (B := wr.heap.size) (by show L.nb < _; omega) n2
      go_wp2
      refine wp_region_below wr.heap.size (by kernel_rfl) (by kernel_rfl) ?_
      repeat (go_big_quiet_step ((go_at_call 89; exact Wb.ofCall _ (Nat.le_refl _) (HCS.out _))))
      refine wpQuiet_nil ?_
      rintro _ ⟨y, rfl⟩
      have hy := y.below
      generalize y.val = w1 at hy
      have hz1 := hy.size
      clear b0 b1 b2 bt0 bn0 bn1 bn2
      have HB1 : Hid (Below wr.heap.size wr w1) := hy
      have HN1 : Hid (w1.rowIs (w.heap.size + 1 + 1) 65 3 (ndF pp ps pt)) := HNd.out.of_block (hy.block _ hzn)
      have HT1 : Hid (w1.rowIs w.heap.size 28 2 (fun j => #[Value.slice L.na L.n L.nc, .slice L.ea L.m L.ec].getD j undef)) := HT.out.of_block (hy.block _ hzt)
      have HR1 : Hid (w1.rowIs (w.heap.size + 1) 127 5 (wkF la i lc none 0 0 none 0 0 0 (L.n : Nat))) := HR.out.of_block (hy.block _ hzr)
      have HO1 : Hid (w1.ownsRow (w.heap.size + 3) 129 6 (.slice la i lc) i (spsC (lsB L i))) := ownC_below HO.out hy
      have s0 : w1.cell? ⟨w.heap.size + 1, 0, none⟩ = some (.slice la i lc) := HR1.out.cell (i := 0) (by omega)
      have s1 := cellTo hy tb hzt
      have s2 := cellTo hy n0 (by show L.nb < _; omega)
      have s3 := cellTo hy n1 (by show L.nb < _; omega)
      have s4 := cellTo hy n2 (by show L.nb < _; omega)
      have HF : Hid (∀ (u : World) (w3 : World), u.rowIs (w.heap.size + 1) 127 5 (wkF la i lc none 0 0 none 0 0 0 (L.n : Nat)) → u.ownsRow (w.heap.size + 3) 129 6 (.slice la i lc) i (spsC (lsB L i)) → u.grownBy w3 (Value.slice la i lc).ownBlock → w3.rowIs (w.heap.size + 1) 127 5 (wkF la i lc none 0 0 none 0 0 0 (L.n : Nat))) := fun u w3 hr ho hg => hr.of_block (hg.block _ hr.lt (fun e => own_far hr ho (by decide) e.symm))
      have HQ : Hid (∀ (X : Obj) (w3 : World), (w1.drew.alloc X).grownBy w3 (Value.slice la i lc).ownBlock → ∀ (b o : Nat) (v : Value), w1.cell? ⟨b, o, none⟩ = some v → b < w.heap.size + 3 → b < w1.heap.size → w3.cell? ⟨b, o, none⟩ = some v) := fun X w3 hg b o v hc hb3 hb1 => by
        have hu : (w1.drew.alloc X).cell? ⟨b, o, none⟩ = some v := cellTo ((Below.refl w1.heap.size w1).drew.alloc (Nat.le_refl _) X) hc hb1
        have hne : some b ≠ (Value.slice la i lc).ownBlock := fun e => by have := (ownC_lt HO1.out e.symm).2; omega
        exact (World.cell?_of_block (w := w1.drew.alloc X) (hg.block b (by simp; omega) hne)).trans hu
      have HGR : Hid (∀ (X : Obj) (w3 : World), (w1.drew.alloc X).grownBy w3 (Value.slice la i lc).ownBlock → ∀ (b : Nat) (t : TypeId) (m : Nat) (ff : Nat → Value), w1.rowIs b t m ff → b < w.heap.size + 3 → w3.rowIs b t m ff) := fun X w3 hg b t m ff hr hb3 => by
        have hne : some b ≠ (Value.slice la i lc).ownBlock := fun e => by have := (ownC_lt HO1.out e.symm).2; omega
        exact (hr.drew.alloc X).of_block (hg.block b (by have := hr.lt; simp; omega) hne)
      have HBG : Hid (∀ (X : Obj) (w3 : World), (w1.drew.alloc X).grownBy w3 (Value.slice la i lc).ownBlock → Below w.heap.size w w3) := fun X w3 hg => by
        have hw1 : Below w.heap.size w w1 := below_then hbel HB1.out
        refine ownC_grown_below (hw1.drew.alloc (by have := hw1.size; simpa using this) X) (by have := hw1.size; simp; omega) (HO1.out.drew.alloc X) (by omega) hg
      have s0a : (w1.alloc (.cells #[.int .i64 (i : Nat), .int .i64 sg, .bool true, .int .i64 xp, .int .i64 xs, .int .i64 xt] 129)).cell? ⟨w.heap.size + 1, 0, none⟩ = some (.slice la i lc) := cellTo (below_one _) s0 (by show w.heap.size + 1 < _; omega)
      clear tb n0 n1 n2 k0 k1 k2 hy
      go_wp2
      go_region_law (first
        | ((refine step_append_lies _ (by rfl) (.tmp 32) (.tmp 41) 125 (by rfl) (w.heap.size + 3) 129 i0 (.agg #[.int .i64 0, .int .i64 0, .bool false, .int .i64 0, .int .i64 0, .int .i64 0]) 6 48 Tryz.underlying125 hi0 hq0 hq1 hq2 rfl (by omega) (.slice la i lc) i (spsC (lsB L i)) (by rfl) (HO1.out.drew.alloc _) ⟨w1.heap.size, 0, none⟩ 1 1 [.int .i64 (i : Nat), .int .i64 sg, .bool true, .int .i64 xp, .int .i64 xs, .int .i64 xt] (by rfl) (by rfl) (hB6 _ rfl _ _ _ _ _ _ _) (by intro u hu; simp at hu; rcases hu with rfl | rfl | rfl | rfl | rfl | rfl <;> rfl) (by omega) (by unfold maxLen; omega) (by omega) (by simp; omega) (w1.heap.size + 1) (by simp) ?_; intro g3 cap3 w3 hown2 hgrow _ _; have r0 := HQ.out _ _ hgrow _ _ _ s0 (by omega) (by omega); have r1 := HQ.out _ _ hgrow _ _ _ s1 (by omega) (by omega); have r2 := HQ.out _ _ hgrow _ _ _ s2 (by omega) (by omega); have r3 := HQ.out _ _ hgrow _ _ _ s3 (by omega) (by omega); have r4 := HQ.out _ _ hgrow _ _ _ s4 (by omega) (by omega); have rw3 := HF.out _ _ (HR1.out.drew.alloc _) (HO1.out.drew.alloc _) hgrow; have rf := rw3.frozen 0)))
      all_goals
        have HO2 : Hid (w3.ownsRow (w.heap.size + 3) 129 6 (.slice (some ⟨g3, 0, none⟩) (i + 1) cap3) (i + 1) (spsC (lsB L (i + 1)))) := by
          show World.ownsRow _ _ _ _ _ _ _
          rw [lsB_snoc, spsC_app, HSP.out]
          exact hown2
        have HN3 : Hid (w3.rowIs (w.heap.size + 1 + 1) 65 3 (ndF pp ps pt)) := HGR.out _ _ hgrow _ _ _ _ HN1.out (by omega)
        have HT3 : Hid (w3.rowIs w.heap.size 28 2 (fun j => #[Value.slice L.na L.n L.nc, .slice L.ea L.m L.ec].getD j undef)) := HGR.out _ _ hgrow _ _ _ _ HT1.out (by omega)
        have HR3 : Hid (w3.rowIs (w.heap.size + 1) 127 5 (wkF la i lc none 0 0 none 0 0 0 (L.n : Nat))) := rw3
        have HB3 : Hid (Below w.heap.size w w3) := HBG.out _ _ hgrow
        obtain ⟨S, hS⟩ : ∃ S, S = w3.setCell ⟨w.heap.size + 1, 0, none⟩ (Value.slice (some ⟨g3, 0, none⟩) (i + 1) cap3) := ⟨_, rfl⟩
        have HOn : Hid (OnlyRow (w.heap.size + 1) w3 S) := by show OnlyRow _ _ _; rw [hS]; exact OnlyRow.setCell _ _ _ _
        have HRS : Hid (S.rowIs (w.heap.size + 1) 127 5 (wkF (some ⟨g3, 0, none⟩) (i + 1) cap3 none 0 0 none 0 0 0 (L.n : Nat))) := by
          show World.rowIs _ _ _ _ _
          rw [hS]
          exact (HR3.out.set 0 _).congr fun j hj => by
            have : j = 0 ∨ j = 1 ∨ j = 2 ∨ j = 3 ∨ j = 4 := by omega
            rcases this with rfl | rfl | rfl | rfl | rfl <;> rfl
        have HNS : Hid (S.rowIs (w.heap.size + 1 + 1) 65 3 (ndF pp ps pt)) := HOn.out.row HN3.out (by omega)
        have HTS : Hid (S.rowIs w.heap.size 28 2 (fun j => #[Value.slice L.na L.n L.nc, .slice L.ea L.m L.ec].getD j undef)) := HOn.out.row HT3.out (by omega)
        have HOS : Hid (S.ownsRow (w.heap.size + 3) 129 6 (.slice (some ⟨g3, 0, none⟩) (i + 1) cap3) (i + 1) (spsC (lsB L (i + 1)))) := own_only HOn.out HO2.out (own_far HR3.out HO2.out (by decide))
        have HBS : Hid (Below w.heap.size w S) := HOn.out.below HB3.out (by omega)
        have u1 := HOn.out.cell r1 (by show w.heap.size ≠ _; omega)
        have u2 := HOn.out.cell r2 (by show L.nb ≠ _; omega)
        have u3 := HOn.out.cell r3 (by show L.nb ≠ _; omega)
        have u4 := HOn.out.cell r4 (by show L.nb ≠ _; omega)
        have q0 : S.cell? ⟨w.heap.size + 1 + 1, 0, none⟩ = some (.int .i64 pp) := HNS.out.cell (i := 0) (by omega)
        have q1 : S.cell? ⟨w.heap.size + 1 + 1, 1, none⟩ = some (.int .i64 ps) := HNS.out.cell (i := 1) (by omega)
        have q2 : S.cell? ⟨w.heap.size + 1 + 1, 2, none⟩ = some (.int .i64 pt) := HNS.out.cell (i := 2) (by omega)
        have z0 := HNS.out.frozen 0
        have z1 := HNS.out.frozen 1
        have z2 := HNS.out.frozen 2
        rw [← hS]
        clear hS r0 r1 r2 r3 r4 rw3 rf hown2 hgrow s0 s1 s2 s3 s4 s0a
        have HO3 : Hid (OnlyRow (w.heap.size + 1 + 1) S (((S.setCell ⟨w.heap.size + 1 + 1, 0, none⟩ (.int .i64 xp)).setCell ⟨w.heap.size + 1 + 1, 1, none⟩ (.int .i64 xs)).setCell ⟨w.heap.size + 1 + 1, 2, none⟩ (.int .i64 xt))) := ((OnlyRow.setCell _ _ _ _).trans (OnlyRow.setCell _ _ _ _)).trans (OnlyRow.setCell _ _ _ _)
        have HNX : Hid ((((S.setCell ⟨w.heap.size + 1 + 1, 0, none⟩ (.int .i64 xp)).setCell ⟨w.heap.size + 1 + 1, 1, none⟩ (.int .i64 xs)).setCell ⟨w.heap.size + 1 + 1, 2, none⟩ (.int .i64 xt)).rowIs (w.heap.size + 1 + 1) 65 3 (ndF (prv L.p (i + 1)) (prv L.s (i + 1)) (prv L.t (i + 1)))) := by
          show World.rowIs _ _ _ _ _
          rw [HPV.out.1, HPV.out.2.1, HPV.out.2.2]
          exact (((HNS.out.set 0 _).set 1 _).set 2 _).congr fun j hj => by
            have : j = 0 ∨ j = 1 ∨ j = 2 := by omega
            rcases this with rfl | rfl | rfl <;> rfl
        go_wp2
        go_roundw
        case rel => exact ⟨i + 1, some ⟨g3, 0, none⟩, cap3, by omega, by go_num, HO3.out.below HBS.out (by omega), HO3.out.row HTS.out (by omega), HO3.out.row HRS.out (by omega), HNX, own_only HO3.out HOS.out (own_far HNS.out HOS.out (by decide))⟩
        case measure => simp [intOf]; omega
    · have hie : i = L.n := by omega
      subst hie
      obtain ⟨j0, hj0, hp0, hp1, hp2⟩ := info_parts infoEntC
      have tb0 : wr.cell? ⟨w.heap.size, 0, none⟩ = some (.slice L.na L.n L.nc) := HT.out.cell (i := 0) (by omega)
      clear hlt hi
      go_wp2
      clear tb0
      go_loopw [7] (fun iv wr2 => ∃ (i : Nat) (ea : Option Addr) (ec : Nat) (vs : Nat → Option Addr) (cs : Nat → Nat), i ≤ L.m ∧ iv = .int .i64 (i : Nat) ∧ Below w.heap.size w wr2 ∧ Hid (wr2.rowIs w.heap.size 28 2 (fun j => #[Value.slice L.na L.n L.nc, .slice L.ea L.m L.ec].getD j undef)) ∧ Hid (wr2.rowIs (w.heap.size + 1) 127 5 (wkF la L.n lc ea i ec none 0 0 0 (L.n : Nat))) ∧ Hid (wr2.ownsRow (w.heap.size + 3) 129 6 (.slice la L.n lc) L.n (spsC (lsB L L.n))) ∧ Hid (wr2.ownsRow (w.heap.size + 3) 63 2 (.slice ea i ec) i (entC L.tx L.k vs cs i)) ∧ Hid (EntsO (w.heap.size + 3) L.k L.z i vs cs wr2) ∧ Hid (w.heap.size + 3 ≤ wr2.heap.size)) (fun iv _ => L.m - (intOf iv).toNat)
      case atStart => exact ⟨0, none, 0, fun _ => none, fun _ => 0, Nat.zero_le _, rfl, hbel, HT, HR, HO, World.ownsRow_nil _ _ _ _, EntsO.nil _ _ _ _ _ _, by show _ ≤ _; omega⟩
      case round =>
        obtain ⟨i, ea, ec, vs, cs, hi, rfl, hbel2, HT2, HR2, HO2, HE2, HI2, HZ3⟩ := hrel
        rename World => wr2
        have hzt2 := HT2.out.lt
        have hzr2 := HR2.out.lt
        have hsz2 := hbel2.size
        by_cases hlt : i < L.m
        · have hlt' : (i : Int) < (L.m : Int) := by omega
          have hea := HIN.out.entries.addr (by omega)
          have heb := HIN.out.entries.lt (by omega)
          have tb : wr2.cell? ⟨w.heap.size, 1, none⟩ = some (.slice (some ⟨L.eb, L.eo, none⟩) L.m L.ec) := by have := HT2.out.cell (i := 1) (by omega); rw [← hea]; exact this
          clear hea
          have n0 := cellTo hbel2 (HIN.out.entries.text i hlt) heb
          have n1 := cellTo hbel2 (HIN.out.entries.list i hlt) heb
          have s0 : wr2.cell? ⟨w.heap.size + 1, 1, none⟩ = some (.slice ea i ec) := HR2.out.cell (i := 1) (by omega)
          have HII : Hid (IntsIn wr2.heap.size wr2 (L.la i) (L.k i) (L.lb i) (L.lo i) (L.z i)) := ((HIN.out.entries.ints i hlt).below hbel2).mono hsz2
          have hk4 := hk i hlt
          obtain ⟨tx, htx⟩ : ∃ x, x = L.tx i := ⟨_, rfl⟩
          obtain ⟨ki, hki⟩ : ∃ x, x = L.k i := ⟨_, rfl⟩
          obtain ⟨zi, hzi⟩ : ∃ x, x = L.z i := ⟨_, rfl⟩
          obtain ⟨lai, hlai⟩ : ∃ x, x = L.la i := ⟨_, rfl⟩
          obtain ⟨lci, hlci⟩ : ∃ x, x = L.lc i := ⟨_, rfl⟩
          rw [← htx] at n0
          rw [← hki, ← hlai, ← hlci] at n1
          have HQQ : Hid (tx = L.tx i ∧ ki = L.k i ∧ zi = L.z i) := ⟨htx, hki, hzi⟩
          have HAG : Hid (Calls Tryz.prog 90 #[.slice lai ki lci] wr2.drew fun e w' => ∃ v, e = .returned v ∧ Hid (w'.ownsRow wr2.heap.size 3 1 v ki ((List.range ki).map fun q => Value.int .i64 (zi q))) ∧ Below wr2.heap.size wr2.drew w') := by
            show Calls _ _ _ _ _
            rw [hlai, hki, hzi, hlci]
            exact again_any (L.la i) (L.k i) (L.lc i) (L.lb i) (L.lo i) (L.z i) wr2.drew (by omega) (HII.out.below (Below.refl wr2.heap.size wr2).drew)
          clear htx hki hzi hlai hlci hk4
          obtain ⟨eb, heb'⟩ : ∃ x, x = L.eb := ⟨_, rfl⟩
          obtain ⟨eo, heo'⟩ : ∃ x, x = L.eo := ⟨_, rfl⟩
          rw [← heb', ← heo'] at tb n0 n1
          rw [← heb'] at heb
          clear heb' heo'
          have hq1 : w.heap.size + 1 ≠ w.heap.size := by omega
          have hq2 : w.heap.size + 1 ≠ eb := by omega
          have hq3 : w.heap.size ≠ w.heap.size + 1 := by omega
          have hq4 : eb ≠ w.heap.size + 1 := by omega
          have HHQ : Hid (∀ wq, Below wr2.heap.size wr2.drew wq → (wq.ownsRow (w.heap.size + 3) 63 2 (.slice ea i ec) i (entC L.tx L.k vs cs i) ∧ wq.rowIs (w.heap.size + 1) 127 5 (wkF la L.n lc ea i ec none 0 0 0 (L.n : Nat)) ∧ (w.heap.size + 1 < wq.heap.size ∧ w.heap.size < wq.heap.size ∧ eb < wq.heap.size ∧ wr2.heap.size ≤ wq.heap.size)) ∧ wq.cell? ⟨w.heap.size + 1, 1, none⟩ = some (.slice ea i ec) ∧ wq.cell? ⟨w.heap.size, 1, none⟩ = some (.slice (some ⟨eb, eo, none⟩) L.m L.ec) ∧ wq.cell? ⟨eb, eo + i * 2, none⟩ = some (.string tx) ∧ wq.cell? ⟨eb, eo + i * 2 + 1, none⟩ = some (.slice lai ki lci)) := fun wq hbq => by
            have hz : wr2.heap.size ≤ wq.heap.size := hbq.size
            have hb2 : Below wr2.heap.size wr2 wq := (Below.refl wr2.heap.size wr2).drew.trans hbq
            exact ⟨⟨ownC_below HE2.out.drew hbq, HR2.out.drew.of_block (hbq.block _ hzr2), by omega, by omega, by omega, hz⟩, cellTo hb2 s0 hzr2, cellTo hb2 tb hzt2, cellTo hb2 n0 (by show eb < _; omega), cellTo hb2 n1 (by show eb < _; omega)⟩
          have HGR : Hid (∀ (wq w3 : World) (X : Obj), Below wr2.heap.size wr2.drew wq → (wq.alloc X).grownBy w3 (Value.slice ea i ec).ownBlock → w3.rowIs (w.heap.size + 1) 127 5 (wkF la L.n lc ea i ec none 0 0 0 (L.n : Nat)) ∧ w3.cell? ⟨w.heap.size, 1, none⟩ = some (.slice (some ⟨eb, eo, none⟩) L.m L.ec) ∧ w3.cell? ⟨eb, eo + i * 2, none⟩ = some (.string tx) ∧ w3.cell? ⟨eb, eo + i * 2 + 1, none⟩ = some (.slice lai ki lci)) := fun wq w3 X hbq hg => by
            obtain ⟨⟨ho, hr, z1, z2, z3, _⟩, _, d1, d2, d3⟩ := HHQ.out wq hbq
            have ne : ∀ b, b < w.heap.size + 3 → some b ≠ (Value.slice ea i ec).ownBlock := fun b hb e => by have := (ownC_lt ho e.symm).2; omega
            have cc : ∀ (b o : Nat) (v : Value), b < wq.heap.size → b < w.heap.size + 3 → wq.cell? ⟨b, o, none⟩ = some v → w3.cell? ⟨b, o, none⟩ = some v := fun b o v hb hb3 hc => (World.cell?_of_block (w := wq.alloc X) (hg.block b (by simp; omega) (ne b hb3))).trans (cellTo (below_one X) hc hb)
            exact ⟨(hr.alloc X).of_block (hg.block _ (by simp; omega) (ne _ (by omega))), cc _ _ _ z2 (by omega) d1, cc _ _ _ z3 (by omega) d2, cc _ _ _ z3 (by omega) d3⟩
          go_wp2
          have hS0 : (fun w' : World => w'.cell? ⟨w.heap.size, 1, none⟩ = some (.slice (some ⟨eb, eo, none⟩) L.m L.ec) ∧ w'.cell? ⟨eb, eo + i * 2, none⟩ = some (.string tx) ∧ w'.cell? ⟨eb, eo + i * 2 + 1, none⟩ = some (.slice lai ki lci) ∧ w'.cell? ⟨w.heap.size + 1, 1, none⟩ = some (.slice ea i ec)) wr2.drew := ⟨tb, n0, n1, s0⟩
          refine region_till (fun w' : World => w'.cell? ⟨w.heap.size, 1, none⟩ = some (.slice (some ⟨eb, eo, none⟩) L.m L.ec) ∧ w'.cell? ⟨eb, eo + i * 2, none⟩ = some (.string tx) ∧ w'.cell? ⟨eb, eo + i * 2 + 1, none⟩ = some (.slice lai ki lci) ∧ w'.cell? ⟨w.heap.size + 1, 1, none⟩ = some (.slice ea i ec)) 23 (by kernel_rfl) ?_
          show wpTill _ _ _ _ _ _ 24 (Array.replicate 24 false) _ wr2.drew
          refine till_step (i := 0) (z := 23) (d := some 57) (v := ?v0) rfl rfl (by kernel_rfl) (by kernel_rfl) (by kernel_rfl) (by kernel_rfl) (fun _ _ _ h => h) (Or.inl ⟨by rfl, ?hy0⟩) hS0 rfl ?rest0
          case hy0 =>
            rintro wz ⟨s1, s2, s3, s4⟩
            go_simp
            try with_reducible rfl
          simp only [Act.put, List.setIfInBounds_toArray, List.set_cons_zero, List.set_cons_succ]
          refine till_step (i := 1) (z := 23) (d := some 58) (v := ?v1) rfl rfl (by kernel_rfl) (by kernel_rfl) (by kernel_rfl) (by kernel_rfl) (fun _ _ _ h => h) (Or.inl ⟨by rfl, ?hy1⟩) hS0 rfl ?rest1
          case hy1 =>
            rintro wz ⟨s1, s2, s3, s4⟩
            go_simp
            try with_reducible rfl
          simp only [Act.put, List.setIfInBounds_toArray, List.set_cons_zero, List.set_cons_succ]
          refine till_step (i := 2) (z := 23) (d := some 59) (v := ?v2) rfl rfl (by kernel_rfl) (by kernel_rfl) (by kernel_rfl) (by kernel_rfl) (fun _ _ _ h => h) (Or.inl ⟨by rfl, ?hy2⟩) hS0 rfl ?rest2
          case hy2 =>
            rintro wz ⟨s1, s2, s3, s4⟩
            go_simp
            try with_reducible rfl
          simp only [Act.put, List.setIfInBounds_toArray, List.set_cons_zero, List.set_cons_succ]
          refine till_step (i := 3) (z := 23) (d := some 60) (v := ?v3) rfl rfl (by kernel_rfl) (by kernel_rfl) (by kernel_rfl) (by kernel_rfl) (fun _ _ _ h => h) (Or.inl ⟨by rfl, ?hy3⟩) hS0 rfl ?rest3
          case hy3 =>
            rintro wz ⟨s1, s2, s3, s4⟩
            go_simp
            try with_reducible rfl
          simp only [Act.put, List.setIfInBounds_toArray, List.set_cons_zero, List.set_cons_succ]
          refine till_step (i := 4) (z := 23) (d := some 61) (v := ?v4) rfl rfl (by kernel_rfl) (by kernel_rfl) (by kernel_rfl) (by kernel_rfl) (fun _ _ _ h => h) (Or.inl ⟨by rfl, ?hy4⟩) hS0 rfl ?rest4
          case hy4 =>
            rintro wz ⟨s1, s2, s3, s4⟩
            go_simp
            try with_reducible rfl
          simp only [Act.put, List.setIfInBounds_toArray, List.set_cons_zero, List.set_cons_succ]
          refine till_step (i := 5) (z := 23) (d := some 62) (v := ?v5) rfl rfl (by kernel_rfl) (by kernel_rfl) (by kernel_rfl) (by kernel_rfl) (fun _ _ _ h => h) (Or.inl ⟨by rfl, ?hy5⟩) hS0 rfl ?rest5
          case hy5 =>
            rintro wz ⟨s1, s2, s3, s4⟩
            go_simp
            try with_reducible rfl
          simp only [Act.put, List.setIfInBounds_toArray, List.set_cons_zero, List.set_cons_succ]
          refine till_step (i := 6) (z := 23) (d := some 63) (v := ?v6) rfl rfl (by kernel_rfl) (by kernel_rfl) (by kernel_rfl) (by kernel_rfl) (fun _ _ _ h => h) (Or.inl ⟨by rfl, ?hy6⟩) hS0 rfl ?rest6
          case hy6 =>
            rintro wz ⟨s1, s2, s3, s4⟩
            go_simp
            try with_reducible rfl
          simp only [Act.put, List.setIfInBounds_toArray, List.set_cons_zero, List.set_cons_succ]
          refine till_step (i := 7) (z := 23) (d := some 64) (v := ?v7) rfl rfl (by kernel_rfl) (by kernel_rfl) (by kernel_rfl) (by kernel_rfl) (fun _ _ _ h => h) (Or.inl ⟨by rfl, ?hy7⟩) hS0 rfl ?rest7
          case hy7 =>
            rintro wz ⟨s1, s2, s3, s4⟩
            go_simp
            try with_reducible rfl
          simp only [Act.put, List.setIfInBounds_toArray, List.set_cons_zero, List.set_cons_succ]
          refine till_step (i := 8) (z := 23) (d := some 65) (v := ?v8) rfl rfl (by kernel_rfl) (by kernel_rfl) (by kernel_rfl) (by kernel_rfl) (fun _ _ _ h => h) (Or.inl ⟨by rfl, ?hy8⟩) hS0 rfl ?rest8
          case hy8 =>
            rintro wz ⟨s1, s2, s3, s4⟩
            go_simp
            try with_reducible rfl
          simp only [Act.put, List.setIfInBounds_toArray, List.set_cons_zero, List.set_cons_succ]
          refine till_step (i := 9) (z := 23) (d := some 66) (v := ?v9) rfl rfl (by kernel_rfl) (by kernel_rfl) (by kernel_rfl) (by kernel_rfl) (fun _ _ _ h => h) (Or.inl ⟨by rfl, ?hy9⟩) hS0 rfl ?rest9
          case hy9 =>
            rintro wz ⟨s1, s2, s3, s4⟩
            go_simp
            try with_reducible rfl
          simp only [Act.put, List.setIfInBounds_toArray, List.set_cons_zero, List.set_cons_succ]
          refine till_step (i := 10) (z := 23) (d := some 67) (v := ?v10) rfl rfl (by kernel_rfl) (by kernel_rfl) (by kernel_rfl) (by kernel_rfl) (fun _ _ _ h => h) (Or.inl ⟨by rfl, ?hy10⟩) hS0 rfl ?rest10
          case hy10 =>
            rintro wz ⟨s1, s2, s3, s4⟩
            go_simp
            try with_reducible rfl
          simp only [Act.put, List.setIfInBounds_toArray, List.set_cons_zero, List.set_cons_succ]
          refine till_step (i := 11) (z := 23) (d := some 68) (v := ?v11) rfl rfl (by kernel_rfl) (by kernel_rfl) (by kernel_rfl) (by kernel_rfl) (fun _ _ _ h => h) (Or.inl ⟨by rfl, ?hy11⟩) hS0 rfl ?rest11
          case hy11 =>
            rintro wz ⟨s1, s2, s3, s4⟩
            go_simp
            try with_reducible rfl
          simp only [Act.put, List.setIfInBounds_toArray, List.set_cons_zero, List.set_cons_succ]
          refine till_step (i := 12) (z := 23) (d := some 69) (v := ?v12) rfl rfl (by kernel_rfl) (by kernel_rfl) (by kernel_rfl) (by kernel_rfl) (fun _ _ _ h => h) (Or.inl ⟨by rfl, ?hy12⟩) hS0 rfl ?rest12
          case hy12 =>
            rintro wz ⟨s1, s2, s3, s4⟩
            go_simp
            try with_reducible rfl
          simp only [Act.put, List.setIfInBounds_toArray, List.set_cons_zero, List.set_cons_succ]
          refine till_step (i := 13) (z := 23) (d := some 70) (v := ?v13) rfl rfl (by kernel_rfl) (by kernel_rfl) (by kernel_rfl) (by kernel_rfl) (fun _ _ _ h => h) (Or.inl ⟨by rfl, ?hy13⟩) hS0 rfl ?rest13
          case hy13 =>
            rintro wz ⟨s1, s2, s3, s4⟩
            go_simp
            try with_reducible rfl
          simp only [Act.put, List.setIfInBounds_toArray, List.set_cons_zero, List.set_cons_succ]
          refine till_step (i := 14) (z := 23) (d := some 71) (v := ?v14) rfl rfl (by kernel_rfl) (by kernel_rfl) (by kernel_rfl) (by kernel_rfl) (fun _ _ _ h => h) (Or.inl ⟨by rfl, ?hy14⟩) hS0 rfl ?rest14
          case hy14 =>
            rintro wz ⟨s1, s2, s3, s4⟩
            go_simp
            try with_reducible rfl
          simp only [Act.put, List.setIfInBounds_toArray, List.set_cons_zero, List.set_cons_succ]
          refine till_step (i := 15) (z := 23) (d := some 72) (v := ?v15) rfl rfl (by kernel_rfl) (by kernel_rfl) (by kernel_rfl) (by kernel_rfl) (fun _ _ _ h => h) (Or.inl ⟨by rfl, ?hy15⟩) hS0 rfl ?rest15
          case hy15 =>
            rintro wz ⟨s1, s2, s3, s4⟩
            go_simp
            try with_reducible rfl
          simp only [Act.put, List.setIfInBounds_toArray, List.set_cons_zero, List.set_cons_succ]
          refine till_step (i := 16) (z := 23) (d := some 73) (v := ?v16) rfl rfl (by kernel_rfl) (by kernel_rfl) (by kernel_rfl) (by kernel_rfl) (fun _ _ _ h => h) (Or.inl ⟨by rfl, ?hy16⟩) hS0 rfl ?rest16
          case hy16 =>
            rintro wz ⟨s1, s2, s3, s4⟩
            go_simp
            try with_reducible rfl
          simp only [Act.put, List.setIfInBounds_toArray, List.set_cons_zero, List.set_cons_succ]
          refine till_one (i := 17) (z := 23) rfl (by kernel_rfl) ?c17
          go_simp
          go_at_call 90
          refine Calls.mono HAG.out ?_
          rintro e wq ⟨v, rfl, HV, hbq⟩
          obtain ⟨vo, vc, hv⟩ := ownC_shape HV.out
          subst hv
          obtain ⟨HXQ, u0, u1, u2, u3⟩ := HHQ.out _ hbq
          have hu1 := HXQ.2.2.2.1
          have hu2 := HXQ.2.2.2.2.1
          have hu3 := HXQ.2.2.1
          have hu4 := HXQ.2.2.2.2.2
          have hS1 : (fun w' : World => w'.cell? ⟨w.heap.size, 1, none⟩ = some (.slice (some ⟨eb, eo, none⟩) L.m L.ec) ∧ w'.cell? ⟨eb, eo + i * 2, none⟩ = some (.string tx) ∧ w'.cell? ⟨eb, eo + i * 2 + 1, none⟩ = some (.slice lai ki lci) ∧ w'.cell? ⟨w.heap.size + 1, 1, none⟩ = some (.slice ea i ec)) wq := ⟨u1, u2, u3, u0⟩
          dsimp only
          refine ⟨hS1, ?_⟩
          try simp only [Act.put, List.setIfInBounds_toArray, List.set_cons_zero, List.set_cons_succ]
          refine till_step (i := 18) (z := 23) (d := some 75) (v := ?v18) rfl rfl (by kernel_rfl) (by kernel_rfl) (by kernel_rfl) (by kernel_rfl) (fun _ _ _ h => h) (Or.inl ⟨by rfl, ?hy18⟩) hS1 rfl ?rest18
          case hy18 =>
            rintro wz ⟨s1, s2, s3, s4⟩
            go_simp
            try with_reducible rfl
          simp only [Act.put, List.setIfInBounds_toArray, List.set_cons_zero, List.set_cons_succ]
          refine till_one (i := 19) (z := 23) rfl (by kernel_rfl) ?c19
          go_simp
          refine till_one (i := 20) (z := 23) rfl (by kernel_rfl) ?c20
          refine step_append_lies _ (by rfl) (.tmp 61) (.tmp 76) 26 (by rfl) (w.heap.size + 3) 63 j0 (.agg #[.string ByteArray.empty, .slice none 0 0]) 2 40 Tryz.underlying26 hj0 hp0 hp1 hp2 rfl (by omega) (.slice ea i ec) i (entC L.tx L.k vs cs i) (by rfl) (HXQ.1.alloc _) ⟨wq.heap.size, 0, none⟩ 1 1 [.string tx, .slice vo ki vc] (by rfl) (by rfl) (newC2 _ rfl _ _ _) (by intro u hu; simp at hu; rcases hu with rfl | rfl <;> rfl) (by omega) (by unfold maxLen; omega) (by omega) (by simp; omega) (wq.heap.size + 1) (by simp) ?_
          intro g3 cap3 w3 hown2 hgrow _ _
          obtain ⟨rw3, x1, x2, x3⟩ := HGR.out _ _ _ hbq hgrow
          have rf := rw3.frozen 1
          have rc : w3.cell? ⟨w.heap.size + 1, 1, none⟩ = some (.slice ea i ec) := rw3.cell (i := 1) (by omega)
          have hS3 : (fun w' : World => w'.cell? ⟨w.heap.size, 1, none⟩ = some (.slice (some ⟨eb, eo, none⟩) L.m L.ec) ∧ w'.cell? ⟨eb, eo + i * 2, none⟩ = some (.string tx) ∧ w'.cell? ⟨eb, eo + i * 2 + 1, none⟩ = some (.slice lai ki lci) ∧ w'.cell? ⟨w.heap.size + 1, 1, none⟩ = some (.slice ea i ec)) w3 := ⟨x1, x2, x3, rc⟩
          refine ⟨fun _ => hS3, ?_⟩
          simp only [Act.put, List.setIfInBounds_toArray]
          refine till_one (i := 21) (z := 23) rfl (by kernel_rfl) ?c21
          go_simp
          refine till_one (i := 22) (z := 23) rfl (by kernel_rfl) ?c22
          go_simp
          refine till_one (i := 23) (z := 23) rfl (by kernel_rfl) ?c23
          go_simp
          refine till_done (by kernel_rfl) ?_ _
          have hba : Below wq.heap.size wq (wq.alloc (.cells #[.string tx, .slice vo ki vc] 63)) := below_one _
          have hb2 : Below w.heap.size w wq := hbel2.trans (((Below.refl wr2.heap.size wr2).drew.trans hbq).mono (by omega))
          have HB3 : Hid (Below w.heap.size w w3) := ownC_grown_below (below_then hb2 hba) (by simp; omega) (HXQ.1.alloc _) (by omega) hgrow
          have ho1 := HV.out
          rw [HQQ.out.2.1, HQQ.out.2.2] at ho1
          have hent1 := (HI2.out.below (Below.refl _ _).drew).add hbq HZ3.out ho1
          have HE3 : Hid (EntsO (w.heap.size + 3) L.k L.z (i + 1) (upd vs i vo) (upd cs i vc) w3) := (hent1.below hba).grown (HXQ.1.alloc _) (by decide) hgrow
          have HRW3 : Hid (w3.ownsRow (w.heap.size + 3) 63 2 (.slice (some ⟨g3, 0, none⟩) (i + 1) cap3) (i + 1) (entC L.tx L.k (upd vs i vo) (upd cs i vc) (i + 1))) := by
            show _
            rw [entC_snoc, upd_at, upd_at, entC_congr L.tx L.k (upd vs i vo) vs (upd cs i vc) cs i fun j hj => ⟨upd_ne _ _ _ (by omega), upd_ne _ _ _ (by omega)⟩, ← HQQ.out.1, ← HQQ.out.2.1]
            exact hown2
          have HL3 : Hid (w3.ownsRow (w.heap.size + 3) 129 6 (.slice la L.n lc) L.n (spsC (lsB L L.n))) := ownC_grown ((ownC_below HO2.out.drew hbq).alloc _) (HXQ.1.alloc _) (by decide) hgrow
          have hneT : some w.heap.size ≠ (Value.slice ea i ec).ownBlock := fun e => by have := (ownC_lt HE2.out e.symm).2; omega
          have HT3 : Hid (w3.rowIs w.heap.size 28 2 (fun j => #[Value.slice L.na L.n L.nc, .slice L.ea L.m L.ec].getD j undef)) := ((HT2.out.drew.of_block (hbq.block _ hzt2)).alloc _).of_block (hgrow.block _ (by simp; omega) hneT)
          have HZ4 : Hid (w.heap.size + 3 ≤ (w3.setCell ⟨w.heap.size + 1, 1, none⟩ (.slice (some ⟨g3, 0, none⟩) (i + 1) cap3)).heap.size) := by
            have h1 := hgrow.size
            have h2 := hbq.size
            have h3 := (OnlyRow.setCell w3 (w.heap.size + 1) 1 (.slice (some ⟨g3, 0, none⟩) (i + 1) cap3)).size
            have h4 := HZ3.out
            simp at h1
            have h5 : wr2.heap.size ≤ wq.heap.size := h2
            show _ ≤ _
            omega
          have hOS : OnlyRow (w.heap.size + 1) w3 (w3.setCell ⟨w.heap.size + 1, 1, none⟩ (.slice (some ⟨g3, 0, none⟩) (i + 1) cap3)) := OnlyRow.setCell _ _ _ _
          have HNX : Hid (Below w.heap.size w (w3.setCell ⟨w.heap.size + 1, 1, none⟩ (.slice (some ⟨g3, 0, none⟩) (i + 1) cap3)) ∧ (w3.setCell ⟨w.heap.size + 1, 1, none⟩ (.slice (some ⟨g3, 0, none⟩) (i + 1) cap3)).rowIs w.heap.size 28 2 (fun j => #[Value.slice L.na L.n L.nc, .slice L.ea L.m L.ec].getD j undef) ∧ (w3.setCell ⟨w.heap.size + 1, 1, none⟩ (.slice (some ⟨g3, 0, none⟩) (i + 1) cap3)).rowIs (w.heap.size + 1) 127 5 (wkF la L.n lc (some ⟨g3, 0, none⟩) (i + 1) cap3 none 0 0 0 (L.n : Nat)) ∧ (w3.setCell ⟨w.heap.size + 1, 1, none⟩ (.slice (some ⟨g3, 0, none⟩) (i + 1) cap3)).ownsRow (w.heap.size + 3) 129 6 (.slice la L.n lc) L.n (spsC (lsB L L.n)) ∧ (w3.setCell ⟨w.heap.size + 1, 1, none⟩ (.slice (some ⟨g3, 0, none⟩) (i + 1) cap3)).ownsRow (w.heap.size + 3) 63 2 (.slice (some ⟨g3, 0, none⟩) (i + 1) cap3) (i + 1) (entC L.tx L.k (upd vs i vo) (upd cs i vc) (i + 1)) ∧ EntsO (w.heap.size + 3) L.k L.z (i + 1) (upd vs i vo) (upd cs i vc) (w3.setCell ⟨w.heap.size + 1, 1, none⟩ (.slice (some ⟨g3, 0, none⟩) (i + 1) cap3))) := by
            refine ⟨hOS.below HB3.out (by omega), hOS.row HT3.out (by omega), (rw3.set 1 _).congr fun j hj => ?_, own_only hOS HL3.out (own_far rw3 HL3.out (by decide)), own_only hOS HRW3.out (own_far rw3 HRW3.out (by decide)), fun j hj => own_only hOS (HE3.out.own j hj) (own_far rw3 (HE3.out.own j hj) (by decide)), HE3.out.apart⟩
            have : j = 0 ∨ j = 1 ∨ j = 2 ∨ j = 3 ∨ j = 4 := by omega
            rcases this with rfl | rfl | rfl | rfl | rfl <;> rfl
          clear hba hb2 ho1 hent1 hOS hneT hown2 hgrow hbq u0 u1 u2 u3 x1 x2 x3 rw3 rf rc hS0 hS1 hS3 HXQ tb n0 n1 s0 HAG HGR HHQ
          go_wp2
          go_roundw
          case rel => exact ⟨i + 1, some ⟨g3, 0, none⟩, cap3, upd vs i vo, upd cs i vc, by omega, by go_num, HNX.out.1, HNX.out.2.1, HNX.out.2.2.1, HNX.out.2.2.2.1, HNX.out.2.2.2.2.1, HNX.out.2.2.2.2.2, HZ4⟩
          case measure => simp [intOf]; omega
        · have hie : i = L.m := by omega
          have HFIN : Hid (WkA w.heap.size (w.heap.size + 1) (begS L) la ea none lc ec 0 vs cs wr2) := by
            have hls : (begS L).ls.length = L.n := lsB_len L L.n
            have hes : (begS L).es.length = L.m := esB_len L L.m
            have hat : ∀ j, j < L.m → (begS L).es.getD j default = enB L j := fun j hj => esB_at L hj
            have hkl : ∀ j, (enB L j).zs.length = L.k j := fun j => by simp [enB]
            refine ⟨?_, by omega, ?_, ?_, fun j hj => ?_, World.ownsRow_nil _ _ _ _⟩
            · rw [hls, hes, ← hie]
              exact HR2.out
            · rw [hls]
              exact ownC_base HO2.out (by omega)
            · rw [hes]
              have hec : entC (fun j => ((begS L).es.getD j default).tx) (fun j => ((begS L).es.getD j default).zs.length) vs cs L.m = entC L.tx L.k vs cs L.m := by
                unfold entC
                rw [List.flatMap_def, List.flatMap_def]
                congr 1
                refine List.map_congr_left fun j hj => ?_
                rw [List.mem_range] at hj
                simp only
                rw [hat j hj, hkl]
                rfl
              rw [hec, ← hie]
              exact ownC_base HE2.out (by omega)
            · rw [hes] at hj
              rw [hat j hj, hkl]
              have ho := HI2.out.own j (by omega)
              have hz : intsC (enB L j).zs = (List.range (L.k j)).map fun q => Value.int .i64 (L.z j q) := by
                unfold intsC enB
                rw [List.map_map]
                rfl
              rw [hz]
              exact ownC_base ho (by omega)
          have tb1 : wr2.cell? ⟨w.heap.size, 1, none⟩ = some (.slice L.ea L.m L.ec) := HT2.out.cell (i := 1) (by omega)
          have hge : (L.m : Int) ≤ (i : Int) := by omega
          clear hie
          go_wp2
          go_ret
          exact ⟨w.heap.size + 1, la, ea, none, lc, ec, 0, vs, cs, rfl, HFIN, hbel2⟩

end Go.Proofs.YtpclldccjpncdabGreat

namespace Go.Proofs.YtpclldccjpncdabGreat
open Go.RowKit

/-! the program's own draft, as it lies in memory: read, never written into -/
def Sp.cm (x : Sp) : List Value := [.int .i64 x.name, .int .i64 x.str, .bool (!x.old), .int .i64 x.p, .int .i64 x.s, .int .i64 x.t]
def memC (l : List Sp) : List Value := l.flatMap Sp.cm
theorem memC_app (l l' : List Sp) : memC (l ++ l') = memC l ++ memC l' := by simp [memC]
theorem memC_len : ∀ l : List Sp, (memC l).length = l.length * 6
  | [] => rfl
  | x :: l => by
    have := memC_len l
    show (x.cm ++ memC l).length = _
    rw [List.length_append, this, List.length_cons]
    show 6 + _ = _
    omega
theorem memC_at : ∀ (l : List Sp) (i : Nat), i < l.length → ∀ k, k < 6 → (memC l)[i * 6 + k]? = (l.getD i default).cm[k]?
  | [], i, h, _, _ => by simp at h
  | x :: l, 0, _, k, hk => by
    show (x.cm ++ memC l)[0 * 6 + k]? = _
    rw [List.getElem?_append_left (by show _ < 6; omega), Nat.zero_mul, Nat.zero_add]
    rfl
  | x :: l, i + 1, h, k, hk => by
    have h' : i < l.length := by simpa using h
    show (x.cm ++ memC l)[(i + 1) * 6 + k]? = _
    rw [List.getElem?_append_right (by show 6 ≤ _; omega)]
    rw [show (i + 1) * 6 + k - x.cm.length = i * 6 + k by show _ - 6 = _; omega, memC_at l i h' k hk]
    rfl
structure MemIn (B : Nat) (w : World) (la : Option Addr) (gv : Nat) (l : List Sp) : Prop where
  addr : 0 < l.length → la = some ⟨gv, 0, none⟩
  lt : 0 < l.length → gv < B
  name : ∀ i, i < l.length → w.cell? ⟨gv, i * 6, none⟩ = some (.int .i64 (l.getD i default).name)
  str : ∀ i, i < l.length → w.cell? ⟨gv, i * 6 + 1, none⟩ = some (.int .i64 (l.getD i default).str)
  new : ∀ i, i < l.length → w.cell? ⟨gv, i * 6 + 2, none⟩ = some (.bool (!(l.getD i default).old))
  p : ∀ i, i < l.length → w.cell? ⟨gv, i * 6 + 3, none⟩ = some (.int .i64 (l.getD i default).p)
  s : ∀ i, i < l.length → w.cell? ⟨gv, i * 6 + 4, none⟩ = some (.int .i64 (l.getD i default).s)
  t : ∀ i, i < l.length → w.cell? ⟨gv, i * 6 + 5, none⟩ = some (.int .i64 (l.getD i default).t)
theorem MemIn.same {B : Nat} {w w' : World} {la : Option Addr} {gv : Nat} {l : List Sp} (h : MemIn B w la gv l) (hs : 0 < l.length → ∀ o, w'.cell? ⟨gv, o, none⟩ = w.cell? ⟨gv, o, none⟩) : MemIn B w' la gv l :=
  ⟨h.addr, h.lt, fun i hi => (hs (by omega) _).trans (h.name i hi), fun i hi => (hs (by omega) _).trans (h.str i hi), fun i hi => (hs (by omega) _).trans (h.new i hi), fun i hi => (hs (by omega) _).trans (h.p i hi), fun i hi => (hs (by omega) _).trans (h.s i hi), fun i hi => (hs (by omega) _).trans (h.t i hi)⟩
theorem MemIn.below {B : Nat} {w w' : World} {la : Option Addr} {gv : Nat} {l : List Sp} (h : MemIn B w la gv l) (hb : Below B w w') : MemIn B w' la gv l := h.same fun h0 _ => hb.cell (by exact h.lt h0)
theorem MemIn.mono {B B' : Nat} {w : World} {la : Option Addr} {gv : Nat} {l : List Sp} (h : MemIn B w la gv l) (hB : B ≤ B') : MemIn B' w la gv l := ⟨h.addr, fun h0 => Nat.lt_of_lt_of_le (h.lt h0) hB, h.name, h.str, h.new, h.p, h.s, h.t⟩
theorem mem_in {w : World} {base : Nat} {la : Option Addr} {n lc : Nat} {l : List Sp} (hn : n = l.length) (ho : w.ownsRow base 145 6 (.slice la n lc) n (memC l)) : ∃ gv, MemIn w.heap.size w la gv l := by
  subst hn
  obtain ⟨vo, vc, gv, hv, ha, hc⟩ := ownC_cells ho
  injection hv with hv1 _ _
  have cell : ∀ i, i < l.length → ∀ k u, k < 6 → (l.getD i default).cm[k]? = some u → w.cell? ⟨gv, i * 6 + k, none⟩ = some u := fun i hi k u hk hu => hc _ u (by omega) (by rw [memC_at l i hi k hk]; exact hu)
  exact ⟨gv, fun h => by rw [hv1]; exact (ha h).1, fun h => (ha h).2.1, fun i hi => cell i hi 0 _ (by omega) rfl, fun i hi => cell i hi 1 _ (by omega) rfl, fun i hi => cell i hi 2 _ (by omega) rfl, fun i hi => cell i hi 3 _ (by omega) rfl, fun i hi => cell i hi 4 _ (by omega) rfl, fun i hi => cell i hi 5 _ (by omega) rfl⟩

/-! a list of numbers that a slice reads -/
def slA (v : Value) : Option Addr := match v with
  | .slice a _ _ => a
  | _ => none
def slC (v : Value) : Nat := match v with
  | .slice _ _ c => c
  | _ => 0
def aB (a : Option Addr) : Nat := match a with | some a => a.block | none => 0
def aO (a : Option Addr) : Nat := match a with | some a => a.off | none => 0
structure SlIn (B : Nat) (w : World) (v : Value) (zs : List Int) : Prop where
  shape : v = .slice (slA v) zs.length (slC v)
  ints : IntsIn B w (slA v) zs.length (aB (slA v)) (aO (slA v)) (fun i => zs.getD i 0)
theorem SlIn.below {B : Nat} {w w' : World} {v : Value} {zs : List Int} (h : SlIn B w v zs) (hb : Below B w w') : SlIn B w' v zs := ⟨h.shape, h.ints.below hb⟩
theorem SlIn.mono {B B' : Nat} {w : World} {v : Value} {zs : List Int} (h : SlIn B w v zs) (hB : B ≤ B') : SlIn B' w v zs := ⟨h.shape, h.ints.mono hB⟩
theorem SlIn.of {B : Nat} {w : World} {a : Option Addr} {c b o : Nat} {zs : List Int} (h : IntsIn B w a zs.length b o (fun i => zs.getD i 0)) : SlIn B w (.slice a zs.length c) zs := by
  refine ⟨rfl, fun h0 => ?_, fun h0 => ?_, fun i hi => ?_, h.le⟩
  · have := h.addr h0
    show a = some ⟨aB a, aO a, none⟩
    rw [this]; rfl
  · have h1 := h.addr h0
    have h2 := h.lt h0
    show aB a < B
    rw [h1]; exact h2
  · have h1 := h.addr (by omega)
    have h2 := h.cell i hi
    show w.cell? ⟨aB a, aO a + i, none⟩ = _
    rw [h1]; exact h2
theorem IntsIn.congr {B : Nat} {w : World} {ao : Option Addr} {k b off : Nat} {z z' : Nat → Int} (h : IntsIn B w ao k b off z) (hz : ∀ i, i < k → z i = z' i) : IntsIn B w ao k b off z' := ⟨h.addr, h.lt, fun i hi => by rw [← hz i hi]; exact h.cell i hi, h.le⟩
theorem SlIn.own {w : World} {base : Nat} {v : Value} {n : Nat} {zs : List Int} (hn : n = zs.length) (h1000 : zs.length ≤ 1000) (ho : w.ownsRow base 3 1 v n (zs.map (Value.int .i64))) : SlIn w.heap.size w v zs := by
  subst hn
  obtain ⟨vo, vc, gv, rfl, ha, hc⟩ := ownC_cells ho
  refine SlIn.of (b := gv) (o := 0) ⟨fun h0 => (ha h0).1, fun h0 => (ha h0).2.1, fun i hi => ?_, by omega⟩
  rw [Nat.zero_add]
  refine hc i _ (by omega) ?_
  rw [List.getElem?_map, List.getElem?_eq_getElem hi, List.getD_eq_getElem?_getD, List.getElem?_eq_getElem hi]
  rfl

/-! entries: each with the slice of its numbers -/
abbrev Em := En × Value
structure EmIn (B : Nat) (w : World) (ea : Option Addr) (eb eo : Nat) (em : List Em) : Prop where
  addr : 0 < em.length → ea = some ⟨eb, eo, none⟩
  lt : 0 < em.length → eb < B
  text : ∀ i, i < em.length → w.cell? ⟨eb, eo + i * 2, none⟩ = some (.string (em.getD i default).1.tx)
  list : ∀ i, i < em.length → w.cell? ⟨eb, eo + i * 2 + 1, none⟩ = some (em.getD i default).2
  ints : ∀ x ∈ em, SlIn B w x.2 x.1.zs
theorem EmIn.below {B : Nat} {w w' : World} {ea : Option Addr} {eb eo : Nat} {em : List Em} (h : EmIn B w ea eb eo em) (hb : Below B w w') : EmIn B w' ea eb eo em :=
  ⟨h.addr, h.lt, fun i hi => (hb.cell (by exact h.lt (by omega))).trans (h.text i hi), fun i hi => (hb.cell (by exact h.lt (by omega))).trans (h.list i hi), fun x hx => (h.ints x hx).below hb⟩
theorem EmIn.mono {B B' : Nat} {w : World} {ea : Option Addr} {eb eo : Nat} {em : List Em} (h : EmIn B w ea eb eo em) (hB : B ≤ B') : EmIn B' w ea eb eo em :=
  ⟨h.addr, fun h0 => Nat.lt_of_lt_of_le (h.lt h0) hB, h.text, h.list, fun x hx => (h.ints x hx).mono hB⟩
def esM (em : List Em) : List En := em.map (·.1)
theorem esM_at {em : List Em} {i : Nat} (h : i < em.length) : (esM em).getD i default = (em.getD i default).1 := by
  rw [getD_at (by rw [esM, List.length_map]; exact h), getD_at h]
  simp [esM]
def laM (em : List Em) (i : Nat) : Option Addr := slA (em.getD i default).2
def lcM (em : List Em) (i : Nat) : Nat := slC (em.getD i default).2
theorem EmIn.entries {B : Nat} {w : World} {ea : Option Addr} {eb eo : Nat} {em : List Em} (h : EmIn B w ea eb eo em) (hm : em.length ≤ 1000) : EntriesIn B w ea (esM em).length eb eo (txE (esM em)) (laM em) (kE (esM em)) (lcM em) (fun i => aB (laM em i)) (fun i => aO (laM em i)) (zE (esM em)) := by
  have hl : (esM em).length = em.length := List.length_map _
  rw [hl]
  refine ⟨h.addr, h.lt, fun i hi => ?_, fun i hi => ?_, fun i hi => ?_, by omega⟩
  · unfold txE
    rw [esM_at hi]; exact h.text i hi
  · have h1 := h.list i hi
    have h2 := (h.ints (em.getD i default) (by rw [getD_at hi]; exact List.getElem_mem hi)).shape
    unfold kE laM lcM
    rw [esM_at hi, h1]
    exact congrArg some h2
  · have h2 := (h.ints (em.getD i default) (by rw [getD_at hi]; exact List.getElem_mem hi)).ints
    unfold kE laM zE
    rw [esM_at hi]
    exact h2
/-- the entries of a table -/
def emB (L : Lay) : List Em := (List.range L.m).map fun j => (enB L j, .slice (L.la j) (L.k j) (L.lc j))
theorem emB_len (L : Lay) : (emB L).length = L.m := by simp [emB]
theorem esM_emB (L : Lay) : esM (emB L) = esB L L.m := by simp [esM, emB, esB]
theorem emB_at (L : Lay) {i : Nat} (h : i < L.m) : (emB L).getD i default = (enB L i, .slice (L.la i) (L.k i) (L.lc i)) := by
  rw [getD_at (by rw [emB_len]; exact h)]
  simp [emB]
theorem emB_in {L : Lay} {B : Nat} {w : World} (h : EntriesIn B w L.ea L.m L.eb L.eo L.tx L.la L.k L.lc L.lb L.lo L.z) : EmIn B w L.ea L.eb L.eo (emB L) := by
  refine ⟨?_, ?_, ?_, ?_, fun x hx => ?_⟩
  · rw [emB_len]; exact h.addr
  · rw [emB_len]; exact h.lt
  · rw [emB_len]
    intro i hi
    rw [emB_at L hi]; exact h.text i hi
  · rw [emB_len]
    intro i hi
    rw [emB_at L hi]; exact h.list i hi
  · rw [emB, List.mem_map] at hx
    obtain ⟨j, hj, rfl⟩ := hx
    rw [List.mem_range] at hj
    have hk : (enB L j).zs.length = L.k j := by simp [enB]
    have hi := h.ints j hj
    show SlIn B w (.slice (L.la j) (L.k j) (L.lc j)) (enB L j).zs
    rw [← hk] at hi ⊢
    refine SlIn.of (hi.congr fun i hi => ?_)
    rw [hk] at hi
    simp [enB, hi]

end Go.Proofs.YtpclldccjpncdabGreat

namespace Go.Proofs.YtpclldccjpncdabGreat
open Go.RowKit

theorem strengthP_any (p s t p' s' t' : Int) (w : World) :
    Calls Tryz.prog 111 #[.agg #[.int .i64 p, .int .i64 s, .int .i64 t], .agg #[.int .i64 p', .int .i64 s', .int .i64 t']] w fun e w' => e = .returned (.int .i64 (stI p' s' t' p s t)) ∧ Below w.heap.size w w' := by
  obtain ⟨r, hr⟩ : ∃ r, r = stI p' s' t' p s t := ⟨_, rfl⟩
  have HR : Hid (r = stI p' s' t' p s t) := hr
  rw [← hr]
  clear hr
  by_cases h1 : p = p'
  · subst h1
    by_cases h2 : s = s'
    · subst h2
      have HE : Hid (r = 3) := by show _ = _; rw [HR.out, stI, if_neg (by simp), if_neg (by simp)]
      clear HR
      go_enter Tryz.func111, Tryz.ntmps111
      go_wp2
      go_ret
      exact ⟨by rw [HE.out]; rfl, below_then (below_one _) (below_one _)⟩
    · have h2' : (s == s') = false := beq_eq_false_iff_ne.2 h2
      have HE : Hid (r = 2) := by show _ = _; rw [HR.out, stI, if_neg (by simp), if_pos (fun e => h2 e.symm)]
      clear HR
      go_enter Tryz.func111, Tryz.ntmps111
      go_wp2
      go_ret
      exact ⟨by rw [HE.out]; rfl, below_then (below_one _) (below_one _)⟩
  · have h1' : (p == p') = false := beq_eq_false_iff_ne.2 h1
    have HE : Hid (r = 1) := by show _ = _; rw [HR.out, stI, if_pos (fun e => h1 e.symm)]
    clear HR
    go_enter Tryz.func111, Tryz.ntmps111
    go_wp2
    go_ret
    exact ⟨by rw [HE.out]; rfl, below_then (below_one _) (below_one _)⟩

set_option maxRecDepth 100000 in
set_option maxHeartbeats 1000000 in
theorem placeOf_any (la : Option Addr) (lc gv : Nat) (l : List Sp) (nm : Int) (w : World) (hl : l.length ≤ 1000) (hin : ∃ x ∈ l, x.name = nm) (h : MemIn w.heap.size w la gv l) :
    Calls Tryz.prog 119 #[.slice la l.length lc, .int .i64 nm] w fun e w' => e = .returned (.int .i64 (plc l nm)) ∧ w' = w := by
  obtain ⟨r, hr⟩ : ∃ r, r = plc l nm := ⟨_, rfl⟩
  have HR : Hid (r = plc l nm) := hr
  rw [← hr]
  clear hr
  have HL : Hid (MemIn w.heap.size w la gv l) := h
  clear h
  obtain ⟨n, hn⟩ : ∃ n, n = l.length := ⟨_, rfl⟩
  have HN : Hid (n = l.length) := hn
  rw [← hn] at hl ⊢
  clear hn
  have HX : Hid (∃ x ∈ l, x.name = nm) := hin
  clear hin
  go_enter Tryz.func119, Tryz.ntmps119
  go_wp2
  go_loopw [5] (fun iv wr => ∃ i : Nat, Hid (∀ j, j < i → (l.getD j default).name ≠ nm) ∧ i ≤ n ∧ iv = .int .i64 (i : Nat) ∧ wr = w) (fun iv _ => n - (intOf iv).toNat)
  case atStart => exact ⟨0, fun j hj => by omega, Nat.zero_le _, rfl, rfl⟩
  case round =>
    obtain ⟨i, HJ, hi, rfl, hw⟩ := hrel
    obtain rfl := hw.symm
    clear hw
    have hlt : i < n := by
      by_cases hlt : i < n
      · exact hlt
      · exfalso
        obtain ⟨x, hx, he⟩ := HX.out
        obtain ⟨j, hj, rfl⟩ := List.getElem_of_mem hx
        have hnn := HN.out
        exact HJ.out j (by omega) (by rw [getD_at hj]; exact he)
    have hlt' : i < l.length := by rw [← HN.out]; exact hlt
    have ha := HL.out.addr (by omega)
    subst ha
    have c0 := HL.out.name i hlt'
    obtain ⟨x, hx⟩ : ∃ x, x = (l.getD i default).name := ⟨_, rfl⟩
    rw [← hx] at c0
    by_cases hxn : x = nm
    · have HE : Hid (r = (i : Nat)) := by show _ = _; rw [HR.out]; exact plc_at hlt' (by rw [← hx]; exact hxn) HJ.out
      subst hxn
      clear hx hlt'
      go_wp2
      go_ret
      exact ⟨by rw [HE.out]; rfl, rfl⟩
    · have HJ' : Hid (∀ j, j < i + 1 → (l.getD j default).name ≠ nm) := fun j hj => by
        by_cases e : j = i
        · rw [e, ← hx]; exact hxn
        · exact HJ.out j (by omega)
      have hxn' : (x == nm) = false := beq_eq_false_iff_ne.2 hxn
      clear hx hxn hlt'
      go_wp2
      go_roundw
      case rel => exact ⟨i + 1, HJ', by omega, by go_num, by trivial⟩
      case measure => simp [intOf]; omega

set_option maxRecDepth 100000 in
set_option maxHeartbeats 1000000 in
theorem placeBehind_any (la : Option Addr) (lc gv : Nat) (l : List Sp) (nm lev : Int) (w : World) (hl : l.length ≤ 1000) (hin : ∃ x ∈ l, x.name = nm) (h : MemIn w.heap.size w la gv l) :
    Calls Tryz.prog 125 #[.slice la l.length lc, .int .i64 nm, .int .i64 lev] w fun e w' => e = .returned (.int .i64 (behindS l nm lev : Nat)) ∧ w' = w := by
  obtain ⟨r, hr⟩ : ∃ r, r = behindS l nm lev := ⟨_, rfl⟩
  have HR : Hid (r = behindS l nm lev) := hr
  rw [← hr]
  clear hr
  have hp := plc_in hin
  obtain ⟨p, hpp⟩ : ∃ p : Nat, plc l nm = (p : Nat) := ⟨(plc l nm).toNat, by omega⟩
  have HC : Hid (∀ w, MemIn w.heap.size w la gv l → Calls Tryz.prog 119 #[.slice la l.length lc, .int .i64 nm] w fun e w' => e = .returned (.int .i64 ((p : Nat) : Int)) ∧ w' = w) := fun w h => by
    rw [← hpp]; exact placeOf_any la lc gv l nm w hl hin h
  have hpl : p < l.length := by omega
  have HR' : Hid (r = beh l lev (p + 1)) := by
    show _ = _
    rw [HR.out, behindS, hpp]
    congr 1
  clear HR hp hpp hin
  have HL : Hid (MemIn w.heap.size w la gv l) := h
  clear h
  obtain ⟨n, hn⟩ : ∃ n, n = l.length := ⟨_, rfl⟩
  have HN : Hid (n = l.length) := hn
  rw [← hn] at hl hpl HC ⊢
  clear hn
  go_enter Tryz.func125, Tryz.ntmps125
  go_wp2_with fail
  refine (HC.out _ HL.out).mono ?_
  rintro e w1 ⟨rfl, hw⟩
  obtain rfl := hw.symm
  clear hw
  go_wp2
  go_loopw [7] (fun iv wr => ∃ i : Nat, Hid (r = beh l lev i) ∧ i ≤ n ∧ iv = .int .i64 (i : Nat) ∧ wr = w) (fun iv _ => n - (intOf iv).toNat)
  case atStart => exact ⟨p + 1, HR', by omega, by go_num, rfl⟩
  case round =>
    obtain ⟨i, HB, hi, rfl, hw⟩ := hrel
    obtain rfl := hw.symm
    clear hw
    by_cases hlt : i < n
    · have hlt' : i < l.length := by rw [← HN.out]; exact hlt
      have ha := HL.out.addr (by omega)
      subst ha
      have c0 := HL.out.str i hlt'
      obtain ⟨x, hx⟩ : ∃ x, x = (l.getD i default).str := ⟨_, rfl⟩
      rw [← hx] at c0
      by_cases hxn : lev < x
      · have HB' : Hid (r = beh l lev (i + 1)) := by show _ = _; rw [HB.out, beh, if_pos ⟨hlt', by rw [← hx]; exact hxn⟩]
        clear hx hlt'
        go_wp2
        go_roundw
        case rel => exact ⟨i + 1, HB', by omega, by go_num, by trivial⟩
        case measure => simp [intOf]; omega
      · have HE : Hid (r = i) := by show _ = _; rw [HB.out, beh, if_neg (fun hh => hxn (by rw [hx]; exact hh.2))]
        clear hx hlt'
        have hxn' : x ≤ lev := by omega
        go_wp2
        go_ret
        exact ⟨by rw [HE.out]; rfl, rfl⟩
    · have HE : Hid (r = i) := by show _ = _; rw [HB.out, beh, if_neg (fun hh => by have := HN.out; omega)]
      go_wp2
      go_ret
      exact ⟨by rw [HE.out]; rfl, rfl⟩

set_option maxRecDepth 100000 in
set_option maxHeartbeats 1000000 in
theorem placeBefore_any (la : Option Addr) (lc gv : Nat) (l : List Sp) (nm lev : Int) (w : World) (hl : l.length ≤ 1000) (hin : ∃ x ∈ l, x.name = nm) (h : MemIn w.heap.size w la gv l) :
    Calls Tryz.prog 126 #[.slice la l.length lc, .int .i64 nm, .int .i64 lev] w fun e w' => e = .returned (.tuple #[.int .i64 (if startS l nm lev < 0 then 0 else startS l nm lev), .bool (decide (0 ≤ startS l nm lev))]) ∧ w' = w := by
  have hp := plc_in hin
  obtain ⟨p, hpp⟩ : ∃ p : Nat, plc l nm = (p : Nat) := ⟨(plc l nm).toNat, by omega⟩
  obtain ⟨r, hr⟩ : ∃ r, r = startS l nm lev := ⟨_, rfl⟩
  have HR : Hid (r = stt l lev (p + 1)) := by
    show _ = _
    rw [hr, startS, hpp]
    congr 1
  obtain ⟨ra, hra⟩ : ∃ x, x = (if startS l nm lev < 0 then 0 else startS l nm lev) := ⟨_, rfl⟩
  obtain ⟨rb, hrb⟩ : ∃ x, x = decide (0 ≤ startS l nm lev) := ⟨_, rfl⟩
  have HNO : Hid (r < 0 → ra = 0 ∧ rb = false) := fun h => by rw [hra, hrb, ← hr]; exact ⟨if_pos h, by simp; omega⟩
  have HYES : Hid (0 ≤ r → ra = r ∧ rb = true) := fun h => by rw [hra, hrb, ← hr]; exact ⟨if_neg (by omega), by simp; omega⟩
  rw [← hra, ← hrb]
  clear hr hra hrb
  have HC : Hid (∀ w, MemIn w.heap.size w la gv l → Calls Tryz.prog 119 #[.slice la l.length lc, .int .i64 nm] w fun e w' => e = .returned (.int .i64 ((p : Nat) : Int)) ∧ w' = w) := fun w h => by
    rw [← hpp]; exact placeOf_any la lc gv l nm w hl hin h
  have hpl : p < l.length := by omega
  clear hp hpp hin
  have HL : Hid (MemIn w.heap.size w la gv l) := h
  clear h
  obtain ⟨n, hn⟩ : ∃ n, n = l.length := ⟨_, rfl⟩
  have HN : Hid (n = l.length) := hn
  rw [← hn] at hl hpl HC ⊢
  clear hn
  go_enter Tryz.func126, Tryz.ntmps126
  go_wp2_with fail
  refine (HC.out _ HL.out).mono ?_
  rintro e w1 ⟨rfl, hw⟩
  obtain rfl := hw.symm
  clear hw
  have hpl' : ((p : Nat) : Int) < (n : Int) := by omega
  go_wp2
  go_loopw [8] (fun iv wr => ∃ i : Nat, Hid (r = stt l lev i) ∧ i ≤ p + 1 ∧ iv = .int .i64 ((i : Int) - 1) ∧ wr = w) (fun iv _ => (intOf iv + 1).toNat)
  case atStart => exact ⟨p + 1, HR, Nat.le_refl _, by go_num, rfl⟩
  case round =>
    obtain ⟨i, HB, hi, rfl, hw⟩ := hrel
    obtain rfl := hw.symm
    clear hw
    cases i with
    | zero =>
      have HE : Hid (r < 0) := by show _ < _; rw [HB.out]; unfold stt; omega
      go_wp2
      go_ret2
      exact ⟨by rw [(HNO.out HE.out).1, (HNO.out HE.out).2]; rfl, rfl⟩
    | succ i =>
      have hlt' : i < l.length := by rw [← HN.out]; omega
      have ha := HL.out.addr (by omega)
      subst ha
      have c0 := HL.out.str i hlt'
      obtain ⟨x, hx⟩ : ∃ x, x = (l.getD i default).str := ⟨_, rfl⟩
      rw [← hx] at c0
      have e1 : (((i + 1 : Nat) : Int) - 1) = (i : Nat) := by omega
      rw [e1]
      have hin' : (i : Int) < (n : Int) := by omega
      by_cases hxn : lev < x
      · have HB' : Hid (r = stt l lev i) := by show _ = _; rw [HB.out, stt, if_neg (by rw [← hx]; omega)]
        clear hx hlt' e1
        go_wp2
        go_roundw
        case rel => exact ⟨i, HB', by omega, by go_num, by trivial⟩
        case measure => simp [intOf]
      · have hxn' : x ≤ lev := by omega
        by_cases hxe : x = lev
        · have HE : Hid (r = (i : Nat)) := by show _ = _; rw [HB.out, stt, if_pos (by rw [← hx]; exact hxn'), if_pos (by rw [← hx]; exact hxe)]
          clear hx hlt' e1
          subst hxe
          go_wp2
          go_ret2
          exact ⟨by rw [(HYES.out (by rw [HE.out]; omega)).1, (HYES.out (by rw [HE.out]; omega)).2, HE.out]; rfl, rfl⟩
        · have HE : Hid (r < 0) := by show _ < _; rw [HB.out, stt, if_pos (by rw [← hx]; exact hxn'), if_neg (by rw [← hx]; exact hxe)]; omega
          have hxe' : (x == lev) = false := beq_eq_false_iff_ne.2 hxe
          have hxe2 : (x != lev) = true := by simp [hxe]
          clear hx hlt' e1 hxe
          go_wp2
          go_ret2
          exact ⟨by rw [(HNO.out HE.out).1, (HNO.out HE.out).2]; rfl, rfl⟩

end Go.Proofs.YtpclldccjpncdabGreat
