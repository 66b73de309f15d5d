import Derived.Test.YtcgpebmpagfhbaaGreatNodesOf
namespace Go.Proofs.YtcgpebmpagfhbaaGreat
open Go.RowKit

set_option maxRecDepth 100000 in
set_option maxHeartbeats 2000000 in
theorem nodesOf_any (L : Lay) (s : ByteArray) (w : World) (h : L.In w.heap.size w) (hok : L.Ok) (hs : s.size ≤ 24) :
    Calls Tryz.prog 76 #[.agg #[.slice L.na L.n L.nc, .slice L.ea L.m L.ec], .string s] w fun e w' => ∃ q, Cut L.m L.tx s q ∧ Below w.heap.size w w' ∧
      ((pos L.m L.tx s q = s.size ∧ ∃ ao cap b, e = .returned (.tuple #[.slice ao (nums L s q).length cap, .bool true]) ∧ NodesIn w'.heap.size w' ao (nums L s q).length b 0 (fun i => L.p ((nums L s q).getD i 0)) (fun i => L.s ((nums L s q).getD i 0)) (fun i => L.t ((nums L s q).getD i 0))) ∨
       (pos L.m L.tx s q ≠ s.size ∧ e = .returned (.tuple #[.slice none 0 0, .bool false]))) := by
  have HL : Hid (∀ w', Below w.heap.size w w' → L.In w'.heap.size w') := fun w' hb => h.later hb
  have HIN : Hid (L.In w.heap.size w) := h
  have hm := hok.m
  have hn48 := hok.n
  have HOK : Hid (L.Ok) := hok
  clear h hok
  obtain ⟨i0, hi0, hq0, hq1, hq2⟩ := info_parts infoNode
  go_enter Tryz.func76, Tryz.ntmps76
  go_wp2_with fail
  refine (cut_in L.m _ _ _ _ L.tx L.la L.k L.lc L.lb L.lo L.z s _ hm (by omega) HOK.out.tx (HL.out _ (below_one _)).entries).mono ?_
  rintro e w2 ⟨q, hq, hb2, hor⟩
  have hq1' := pos_ge q hq.go
  have hq2' := pos_le L.m L.tx s q
  have HQ : Hid (Cut L.m L.tx s q) := hq
  have hqs : q ≤ 24 := by omega
  have HBW : Hid (Below w.heap.size w w2) := below_then (below_one _) hb2
  obtain ⟨hc2, hf2⟩ := bcell hb2
  have c0 := hc2 w.heap.size 0 (by simp)
  have c0' : w2.cell? ⟨w.heap.size, 0, none⟩ = some (.slice L.na L.n L.nc) := by rw [c0]; go_simp
  have hz2 : w.heap.size < w2.heap.size := by have := hb2.size; simp at this; omega
  clear hq hq1' hq2' hc2 hf2 hb2 c0
  rcases hor with ⟨hp, vo, vc, gv, rfl, hein⟩ | ⟨hp, rfl⟩
  · have HFI : Hid (EntriesIn w2.heap.size w2 vo q gv 0 (fun j => L.tx (pidx L.m L.tx s j)) (fun j => L.la (pidx L.m L.tx s j)) (fun j => L.k (pidx L.m L.tx s j)) (fun j => L.lc (pidx L.m L.tx s j)) (fun j => L.lb (pidx L.m L.tx s j)) (fun j => L.lo (pidx L.m L.tx s j)) (fun j => L.z (pidx L.m L.tx s j))) := hein
    have HP : Hid (pos L.m L.tx s q = s.size) := hp
    have HC0 : Hid (w2.cell? ⟨w.heap.size, 0, none⟩ = some (.slice L.na L.n L.nc)) := c0'
    clear hein hp c0'
    go_wp2
    go_loopw [8, 9] (fun v iv wr => ∃ i : Nat, i ≤ q ∧ iv = .int .i64 i ∧ Below w2.heap.size w2 wr ∧ wr.ownsRow w2.heap.size 65 3 v (nums L s i).length (nodesC L (nums L s i))) (fun _ iv _ => q - (intOf iv).toNat)
    case atStart => exact ⟨0, Nat.zero_le _, rfl, Below.refl _ _, World.ownsRow_nil _ _ _ _⟩
    case round =>
      rename World => wo
      obtain ⟨i, hi, rfl, hbel, hown⟩ := hrel
      have HOWN : Hid (wo.ownsRow w2.heap.size 65 3 _ (nums L s i).length (nodesC L (nums L s i))) := hown
      clear hown
      have hsz := hbel.size
      by_cases hlt : i < q
      · have ha := HFI.out.addr (by omega)
        subst ha
        have cl := cellTo hbel (HFI.out.list i hlt) (HFI.out.lt (by omega))
        simp only [Nat.zero_add] at cl
        obtain ⟨e, he⟩ : ∃ e, e = pidx L.m L.tx s i := ⟨_, rfl⟩
        rw [← he] at cl
        have hem : e < L.m := by rw [he]; exact (pidx_spec HQ.out.go hlt).1
        have HE : Hid (e = pidx L.m L.tx s i) := he
        have hke := HOK.out.k e hem
        have hnl := nums_len HOK.out i (fun j hj => HQ.out.go j (by omega))
        have HI : Hid (IntsIn w.heap.size w (L.la e) (L.k e) (L.lb e) (L.lo e) (L.z e)) := HIN.out.entries.ints e hem
        clear he
        rw [HI.out.addr (by omega)] at cl
        go_wp2
        clear cl
        go_loopw [8, 11] (fun v jv wr => ∃ j : Nat, j ≤ L.k e ∧ jv = .int .i64 j ∧ Below w2.heap.size w2 wr ∧ wr.ownsRow w2.heap.size 65 3 v ((nums L s i).length + j) (nodesC L (nums L s i ++ (entNums L.z L.k e).take j))) (fun _ jv _ => L.k e - (intOf jv).toNat)
        case atStart => exact ⟨0, Nat.zero_le _, rfl, hbel, by simpa using HOWN.out⟩
        case round =>
          rename World => wi
          obtain ⟨j, hj, rfl, hbi, hown⟩ := hrel
          have HOWI : Hid (wi.ownsRow w2.heap.size 65 3 _ ((nums L s i).length + j) (nodesC L (nums L s i ++ (entNums L.z L.k e).take j))) := hown
          clear hown
          have hsi := hbi.size
          by_cases hjk : j < L.k e
          · have hzz := HOK.out.z e hem j hjk
            obtain ⟨c, hc⟩ : ∃ c : Nat, L.z e j = c := ⟨(L.z e j).toNat, by omega⟩
            have hcn : c < L.n := by omega
            have HTK : Hid ((entNums L.z L.k e).take (j + 1) = (entNums L.z L.k e).take j ++ [c]) := by
              show _ = _
              rw [entNums_take _ _ _ _ hjk, hc]
              simp
            have hbw := below_then HBW.out hbi
            have z0 := cellTo hbw (HI.out.cell j hjk) (HI.out.lt (by omega))
            rw [hc] at z0
            have hnb := HIN.out.nodes.lt (by omega)
            have n0 := cellTo hbw (HIN.out.nodes.p c hcn) hnb
            have n1 := cellTo hbw (HIN.out.nodes.s c hcn) hnb
            have n2 := cellTo hbw (HIN.out.nodes.t c hcn) hnb
            have b0 := cellTo hbi HC0.out (by show w.heap.size < _; omega)
            rw [HIN.out.nodes.addr (by omega)] at b0
            have r1 : (c : Int) < (L.n : Int) := by omega
            have r2 : (0 : Int) ≤ (c : Int) := by omega
            clear hzz hc
            go_wp2
            go_region_law ((refine step_append_lies _ (by rfl) (.tmp 38) (.tmp 47) 25 (by rfl) w2.heap.size 65 i0 (.agg #[.int .i64 0, .int .i64 0, .int .i64 0]) 3 24 Tryz.underlying25 hi0 hq0 hq1 hq2 rfl (by omega) _ ((nums L s i).length + j) _ (by rfl) (HOWI.out.alloc _).drew ⟨wi.heap.size, 0, none⟩ 1 1 [.int .i64 (L.p c), .int .i64 (L.s c), .int .i64 (L.t c)] (by rfl) (by rfl) (new_three _ _ _ _ _) (by intro u hu; simp at hu; rcases hu with rfl | rfl | rfl <;> rfl) (by omega) (by unfold maxLen; omega) (by omega) (by simp; omega) (wi.heap.size + 1) (by simp) ?_; intro gv2 cap2 w3 hown2 hgrow hat2 hgv2))
            all_goals
              have HBN : Hid (Below w2.heap.size w2 w3) := grown_below (hbi.alloc hsi _).drew (by simp; omega) (HOWI.out.alloc _).drew (Nat.le_refl _) hgrow
              have ho := hown2
              rw [← nodesC_snoc, List.append_assoc, ← HTK.out] at ho
              have HO2 : Hid (w3.ownsRow w2.heap.size 65 3 (.slice (some ⟨gv2, 0, none⟩) ((nums L s i).length + j + 1) cap2) ((nums L s i).length + (j + 1)) (nodesC L (nums L s i ++ (entNums L.z L.k e).take (j + 1)))) := ho
              clear hown2 hgrow ho hat2 hgv2 z0 n0 n1 n2 b0
              go_wp2
              go_roundw
              case rel => exact ⟨j + 1, by omega, by go_num, HBN.out, HO2.out⟩
              case measure => simp [intOf]; omega
          · have hje : j = L.k e := by omega
            subst hje
            have ho := HOWI.out
            rw [List.take_of_length_le (by rw [entNums_len]; exact Nat.le_refl _)] at ho
            have hns : nums L s i ++ entNums L.z L.k e = nums L s (i + 1) := by rw [nums_succ, ← HE.out]
            have hnl2 : (nums L s i).length + L.k e = (nums L s (i + 1)).length := by rw [← hns, List.length_append, entNums_len]
            rw [hns, hnl2] at ho
            have HO2 : Hid _ := ho
            clear ho hns hnl2
            go_wp2
            go_roundw
            case rel => exact ⟨i + 1, by omega, by go_num, hbi, HO2.out⟩
            case measure => simp [intOf]; omega
      · have hie : i = q := by omega
        subst hie
        obtain ⟨ao', cap', b', hv, hnn⟩ := nodes_of_own (by have := nums_len HOK.out i HQ.out.go; omega) HOWN.out
        have HNN : Hid (NodesIn wo.heap.size wo ao' (nums L s i).length b' 0 (fun j => L.p ((nums L s i).getD j 0)) (fun j => L.s ((nums L s i).getD j 0)) (fun j => L.t ((nums L s i).getD j 0))) := hnn
        clear hnn
        subst hv
        go_wp2
        go_ret2
        exact ⟨i, HQ.out, below_then HBW.out hbel, .inl ⟨HP.out, _, _, _, rfl, HNN.out⟩⟩
  · go_wp2
    go_ret2
    exact ⟨q, HQ.out, HBW.out, .inr ⟨hp, rfl⟩⟩

end Go.Proofs.YtcgpebmpagfhbaaGreat
