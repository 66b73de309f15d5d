import Derived.Test.YtpclldccjpncdaaNodesOf
namespace Go.Proofs.Ytpclldccjpncdaa
open Go.RowKit

/-- the nodes of a text, by entries in whatever order -/
noncomputable def numsW (L : Lay) (s : ByteArray) (q : Nat) : List Int := (List.range q).flatMap fun j => (List.range (L.k (pidx L.m L.tx s j))).map fun i => L.z (pidx L.m L.tx s j) i
theorem numsW_succ (L : Lay) (s : ByteArray) (q : Nat) : numsW L s (q + 1) = numsW L s q ++ (List.range (L.k (pidx L.m L.tx s q))).map fun i => L.z (pidx L.m L.tx s q) i := by simp [numsW, List.range_succ]
theorem numsW_len {L : Lay} {s : ByteArray} (hk : ∀ i, i < L.m → 1 ≤ L.k i ∧ L.k i ≤ 4) : ∀ q, (∀ j, j < q → 0 < lenAt L.m L.tx s (pos L.m L.tx s j)) → (numsW L s q).length ≤ 4 * q
  | 0, _ => by simp [numsW]
  | q + 1, h => by
    have h1 := numsW_len hk q fun j hj => h j (by omega)
    have h2 := hk _ (pidx_spec h (Nat.lt_succ_self q)).1
    rw [numsW_succ, List.length_append, List.length_map, List.length_range]
    omega


theorem numsW_nums {L : Lay} (hok : L.Ok) {s : ByteArray} : ∀ q, (∀ j, j < q → 0 < lenAt L.m L.tx s (pos L.m L.tx s j)) → numsW L s q = (nums L s q).map (fun c => ((c : Nat) : Int))
  | 0, _ => by simp [numsW, nums]
  | q + 1, h => by
    have h1 := numsW_nums hok q fun j hj => h j (by omega)
    have h2 := (pidx_spec h (Nat.lt_succ_self q)).1
    rw [numsW_succ, nums_succ, h1, List.map_append]
    congr 1
    unfold entNums
    rw [List.map_map]
    refine List.map_congr_left fun i hi => ?_
    rw [List.mem_range] at hi
    have := hok.z _ h2 i hi
    show _ = (((L.z _ i).toNat : Nat) : Int)
    omega

set_option maxRecDepth 100000 in
set_option maxHeartbeats 2000000 in
theorem numbers_any (L : Lay) (s : ByteArray) (eao : Option Addr) (cap : Nat) (w : World) (h : EntriesIn w.heap.size w eao L.m L.eb L.eo L.tx L.la L.k L.lc L.lb L.lo L.z) (hm : L.m ≤ 48) (htx : ∀ i, i < L.m → 1 ≤ (L.tx i).size ∧ (L.tx i).size ≤ 3) (hok : ∀ i, i < L.m → 1 ≤ L.k i ∧ L.k i ≤ 4) (hs : s.size ≤ 24) :
    Calls Try.prog 55 #[.slice eao L.m cap, .string s] w fun e w' => ∃ q, Cut L.m L.tx s q ∧ Below w.heap.size w w' ∧
      ((pos L.m L.tx s q = s.size ∧ ∃ ao c, e = .returned (.tuple #[.slice ao (numsW L s q).length c, .bool true]) ∧ Hid (w'.ownsRow w.heap.size 3 1 (.slice ao (numsW L s q).length c) (numsW L s q).length ((numsW L s q).map (Value.int .i64)))) ∨
       (pos L.m L.tx s q ≠ s.size ∧ e = .returned (.tuple #[.slice none 0 0, .bool false]))) := by
  have HIN : Hid (EntriesIn w.heap.size w eao L.m L.eb L.eo L.tx L.la L.k L.lc L.lb L.lo L.z) := h
  have HOK : Hid (∀ i, i < L.m → 1 ≤ L.k i ∧ L.k i ≤ 4) := hok
  have HTX : Hid (∀ i, i < L.m → 1 ≤ (L.tx i).size ∧ (L.tx i).size ≤ 3) := htx
  clear h hok htx
  obtain ⟨i0, hi0, hq0, hq1, hq2⟩ := info_parts infoInt
  go_enter Try.func55, Try.ntmps55
  go_wp2_with fail
  refine (cut_in L.m _ _ _ _ L.tx L.la L.k L.lc L.lb L.lo L.z s _ hm (by omega) HTX.out HIN.out).mono ?_
  rintro e w2 ⟨q, hq, hb2, hor⟩
  have hq1' := pos_ge q hq.go
  have hq2' := pos_le L.m L.tx s q
  have HQ : Hid (Cut L.m L.tx s q) := hq
  have hqs : q ≤ 24 := by omega
  clear hq hq1' hq2'
  rcases hor with ⟨hp, vo, vc, gv, rfl, hein⟩ | ⟨hp, rfl⟩
  · have HFI : Hid (EntriesIn w2.heap.size w2 vo q gv 0 (fun j => L.tx (pidx L.m L.tx s j)) (fun j => L.la (pidx L.m L.tx s j)) (fun j => L.k (pidx L.m L.tx s j)) (fun j => L.lc (pidx L.m L.tx s j)) (fun j => L.lb (pidx L.m L.tx s j)) (fun j => L.lo (pidx L.m L.tx s j)) (fun j => L.z (pidx L.m L.tx s j))) := hein
    have HP : Hid (pos L.m L.tx s q = s.size) := hp
    clear hein hp
    go_wp2
    go_loopw [8, 9] (fun v iv wr => ∃ i : Nat, i ≤ q ∧ iv = .int .i64 i ∧ Below w2.heap.size w2 wr ∧ wr.ownsRow w2.heap.size 3 1 v (numsW L s i).length ((numsW L s i).map (Value.int .i64))) (fun _ iv _ => q - (intOf iv).toNat)
    case atStart => exact ⟨0, Nat.zero_le _, rfl, Below.refl _ _, World.ownsRow_nil _ _ _ _⟩
    case round =>
      obtain ⟨i, hi, rfl, hbel, hown⟩ := hrel
      have HOWN : Hid (wr.ownsRow w2.heap.size 3 1 _ (numsW L s i).length ((numsW L s i).map (Value.int .i64))) := hown
      clear hown
      have hsz := hbel.size
      by_cases hlt : i < q
      · have ha := HFI.out.addr (by omega)
        subst ha
        have cl := cellTo hbel (HFI.out.list i hlt) (HFI.out.lt (by omega))
        simp only [Nat.zero_add] at cl
        obtain ⟨e, he⟩ : ∃ e, e = pidx L.m L.tx s i := ⟨_, rfl⟩
        have hem : e < L.m := by rw [he]; exact (pidx_spec HQ.out.go hlt).1
        have HSUC : Hid (numsW L s (i + 1) = numsW L s i ++ (List.range (L.k e)).map fun j => L.z e j) := by
          show _ = _
          rw [he]
          exact numsW_succ L s i
        have hke := HOK.out e hem
        have hnz : (numsW L s i).length ≤ 4 * i := numsW_len HOK.out i (fun j hj => HQ.out.go j (by omega))
        rw [← he] at cl
        clear he
        have hbw := below_then hb2 hbel
        have HI : Hid (IntsIn w.heap.size w (L.la e) (L.k e) (L.lb e) (L.lo e) (L.z e)) := HIN.out.ints e hem
        rw [HI.out.addr (by omega)] at cl
        have HNW : Hid (∀ (j : Nat) (u : Value), ((List.range (L.k e)).map fun j => Value.int .i64 (L.z e j))[j]? = some u → wr.cell? ((⟨L.lb e, L.lo e, none⟩ : Addr).add j) = some u) := fun j u hj => by
          have hjk : j < L.k e := by
            by_cases hx : j < L.k e
            · exact hx
            · rw [List.getElem?_eq_none (by simp; omega)] at hj; cases hj
          rw [List.getElem?_map, List.getElem?_range hjk] at hj
          simp at hj
          subst hj
          rw [Addr.add_mid]
          exact cellTo hbw (HI.out.cell j hjk) (HI.out.lt (by omega))
        go_wp2_with (first
          | (at_builtin; refine wpList_append_lies _ (by rfl) (.tmp 24) (.tmp 29) 22 (by rfl) w2.heap.size 3 i0 (.int .i64 0) 1 8 Try.underlying22 hi0 hq0 hq1 hq2 rfl (by omega) _ _ _ (by rfl) HOWN.out ⟨L.lb e, L.lo e, none⟩ (L.k e) (L.lc e) ((List.range (L.k e)).map fun j => Value.int .i64 (L.z e j)) (by rfl) ?c0 HNW.out ?c2 (by omega) ?c3 ?c5 (by omega) wr.heap.size rfl ?_))
        case c0 => simp
        case c2 => intro u hu; simp at hu; obtain ⟨_, _, rfl⟩ := hu; rfl
        case c3 => unfold maxLen; omega
        case c5 => omega
        · intro gv2 cap2 w3 hown2 hgrow _ _
          have HBN : Hid (Below w2.heap.size w2 w3) := grown_below hbel hsz HOWN.out (Nat.le_refl _) hgrow
          have ho : w3.ownsRow w2.heap.size 3 1 (.slice (some ⟨gv2, 0, none⟩) ((numsW L s i).length + L.k e) cap2) (numsW L s (i + 1)).length ((numsW L s (i + 1)).map (Value.int .i64)) := by
            rw [HSUC.out, List.length_append, List.map_append, List.map_map, List.length_map, List.length_range]
            exact hown2
          have HO2 : Hid _ := ho
          clear hown2 hgrow ho
          go_wp2
          go_roundw
          case rel => exact ⟨i + 1, by omega, by go_num, HBN.out, HO2.out⟩
          case measure => simp [intOf]; omega
      · have hie : i = q := by omega
        subst hie
        obtain ⟨ao', cap', _, hv, _⟩ := own_cells HOWN.out
        subst hv
        have HNN : Hid (wr.ownsRow w.heap.size 3 1 (.slice ao' (numsW L s i).length cap') (numsW L s i).length ((numsW L s i).map (Value.int .i64))) := by
          obtain ⟨h1, h2⟩ := HOWN.out
          rcases h2 with h2 | ⟨g, cap, cur, hv, hg, r⟩
          · exact ⟨h1, .inl h2⟩
          · exact ⟨h1, .inr ⟨g, cap, cur, hv, by have := hb2.size; omega, r⟩⟩
        go_wp2
        go_ret2
        exact ⟨i, HQ.out, below_then hb2 hbel, .inl ⟨HP.out, _, _, rfl, HNN⟩⟩
  · go_wp2
    go_ret2
    exact ⟨q, HQ.out, hb2, .inr ⟨hp, rfl⟩⟩

set_option maxRecDepth 100000 in
set_option maxHeartbeats 2000000 in
theorem nodesOf_any (L : Lay) (s : ByteArray) (w : World) (h : L.In w.heap.size w) (hok : L.Ok) (hs : s.size ≤ 24) :
    Calls Try.prog 43 #[.agg #[.slice L.na L.n L.nc, .slice L.ea L.m L.ec], .string s] w fun e w' => ∃ q, Cut L.m L.tx s q ∧ Below w.heap.size w w' ∧
      ((pos L.m L.tx s q = s.size ∧ ∃ ao cap b, e = .returned (.tuple #[.slice ao (nums L s q).length cap, .bool true]) ∧ NodesIn w'.heap.size w' ao (nums L s q).length b 0 (fun i => L.p ((nums L s q).getD i 0)) (fun i => L.s ((nums L s q).getD i 0)) (fun i => L.t ((nums L s q).getD i 0))) ∨
       (pos L.m L.tx s q ≠ s.size ∧ e = .returned (.tuple #[.slice none 0 0, .bool false]))) := by
  have HL : Hid (∀ w', Below w.heap.size w w' → L.In w'.heap.size w') := fun w' hb => h.later hb
  have HIN : Hid (L.In w.heap.size w) := h
  have hm := hok.m
  have hn48 := hok.n
  have HOK : Hid (L.Ok) := hok
  clear h hok
  obtain ⟨i0, hi0, hq0, hq1, hq2⟩ := info_parts infoNode
  go_enter Try.func43, Try.ntmps43
  go_wp2_with fail
  refine (numbers_any L s _ _ _ (HL.out _ (below_one _)).entries hm HOK.out.tx HOK.out.k hs).mono ?_
  rintro e w2 ⟨q, hq, hb2, hor⟩
  have hq1' := pos_ge q hq.go
  have hq2' := pos_le L.m L.tx s q
  have HQ : Hid (Cut L.m L.tx s q) := hq
  have hqs : q ≤ 24 := by omega
  have HBW : Hid (Below w.heap.size w w2) := below_then (below_one _) hb2
  obtain ⟨hc2, hf2⟩ := bcell hb2
  have c0 := hc2 w.heap.size 0 (by simp)
  have c0' : w2.cell? ⟨w.heap.size, 0, none⟩ = some (.slice L.na L.n L.nc) := by rw [c0]; go_simp
  have hz2 : w.heap.size < w2.heap.size := by have := hb2.size; simp at this; omega
  have HNE : Hid (numsW L s q = (nums L s q).map (fun c => ((c : Nat) : Int))) := numsW_nums HOK.out q hq.go
  have HLT : Hid (∀ c ∈ nums L s q, c < L.n) := nums_lt HOK.out q hq.go
  have hnl : (nums L s q).length ≤ 96 := by have := nums_len HOK.out q hq.go; omega
  clear hq hq1' hq2' hc2 hf2 hb2 c0
  rcases hor with ⟨hp, vo, vc, rfl, hown⟩ | ⟨hp, rfl⟩
  · have hwl : (numsW L s q).length = (nums L s q).length := by rw [HNE.out, List.length_map]
    have hown' := hown.out
    rw [hwl] at hown' ⊢
    obtain ⟨N, hN⟩ : ∃ N, N = nums L s q := ⟨_, rfl⟩
    rw [HNE.out, ← hN] at hown'
    rw [← hN] at hnl HLT ⊢
    obtain ⟨_, _, gv, hv, ha0, hc0⟩ := own_cells hown'
    injection hv with hv1 _ hv3
    subst hv1
    subst hv3
    have HNN : Hid (N = nums L s q) := hN
    have HP : Hid (pos L.m L.tx s q = s.size) := hp
    have HC0 : Hid (w2.cell? ⟨w.heap.size, 0, none⟩ = some (.slice L.na L.n L.nc)) := c0'
    have HNA : Hid (0 < N.length → vo = some ⟨gv, 0, none⟩ ∧ gv < w2.heap.size) := fun h0 => ⟨(ha0 h0).1, (ha0 h0).2.1⟩
    have HNC : Hid (∀ i, i < N.length → w2.cell? ⟨gv, i, none⟩ = some (.int .i64 ((N.getD i 0 : Nat) : Int))) := fun i hi => by
      have := hc0 i (.int .i64 ((N.getD i 0 : Nat) : Int)) (by omega) (by simp [List.getD, List.getElem?_eq_getElem hi])
      simpa using this
    clear hp c0' hown hown' ha0 hc0 hwl HNE hN
    obtain ⟨n, hn⟩ : ∃ n, n = N.length := ⟨_, rfl⟩
    have HN : Hid (n = N.length) := hn
    rw [← hn] at hnl HNA HNC ⊢
    clear hn
    go_wp2
    go_loopw [8, 9] (fun v iv wr => ∃ i : Nat, i ≤ n ∧ iv = .int .i64 i ∧ Below w2.heap.size w2 wr ∧ wr.ownsRow w2.heap.size 60 3 v i (nodesC L (N.take i))) (fun _ iv _ => n - (intOf iv).toNat)
    case atStart => exact ⟨0, Nat.zero_le _, rfl, Below.refl _ _, World.ownsRow_nil _ _ _ _⟩
    case round =>
      rename World => wi
      obtain ⟨i, hi, rfl, hbi, hown⟩ := hrel
      have HOWI : Hid (wi.ownsRow w2.heap.size 60 3 _ i (nodesC L (N.take i))) := hown
      clear hown
      have hsi := hbi.size
      by_cases hjk : i < n
      · have hjl : i < N.length := by have := HN.out; omega
        obtain ⟨c, hc⟩ : ∃ c : Nat, c = N.getD i 0 := ⟨_, rfl⟩
        have hcm : c ∈ N := by rw [hc, List.getD_eq_getElem?_getD, List.getElem?_eq_getElem hjl]; exact List.getElem_mem hjl
        have hcn : c < L.n := HLT.out c hcm
        have HTK : Hid (N.take (i + 1) = N.take i ++ [c]) := by
          show _ = _
          rw [take_snoc_n N i hjl, hc]
        have z0 := cellTo hbi (HNC.out i hjk) (HNA.out (by omega)).2
        rw [← hc] at z0
        have hva := (HNA.out (by omega)).1
        subst hva
        have hbw := below_then HBW.out hbi
        have hnb := HIN.out.nodes.lt (by omega)
        have n0 := cellTo hbw (HIN.out.nodes.p c hcn) hnb
        have n1 := cellTo hbw (HIN.out.nodes.s c hcn) hnb
        have n2 := cellTo hbw (HIN.out.nodes.t c hcn) hnb
        have b0 := cellTo hbi HC0.out (by show w.heap.size < _; omega)
        rw [HIN.out.nodes.addr (by omega)] at b0
        have r1 : (c : Int) < (L.n : Int) := by omega
        have r2 : (0 : Int) ≤ (c : Int) := by omega
        clear hc hcm hjl
        go_wp2
        go_region_law ((refine step_append_lies _ (by rfl) (.tmp 25) (.tmp 34) 23 (by rfl) w2.heap.size 60 i0 (.agg #[.int .i64 0, .int .i64 0, .int .i64 0]) 3 24 Try.underlying23 hi0 hq0 hq1 hq2 rfl (by omega) _ i _ (by rfl) (HOWI.out.alloc _).drew ⟨wi.heap.size, 0, none⟩ 1 1 [.int .i64 (L.p c), .int .i64 (L.s c), .int .i64 (L.t c)] (by rfl) (by rfl) (new_three _ _ _ _ _) (by intro u hu; simp at hu; rcases hu with rfl | rfl | rfl <;> rfl) (by omega) (by unfold maxLen; omega) (by omega) (by simp; omega) (wi.heap.size + 1) (by simp) ?_; intro gv2 cap2 w3 hown2 hgrow hat2 hgv2))
        all_goals
          have HBN : Hid (Below w2.heap.size w2 w3) := grown_below (hbi.alloc hsi _).drew (by simp; omega) (HOWI.out.alloc _).drew (Nat.le_refl _) hgrow
          have ho := hown2
          rw [← nodesC_snoc, ← HTK.out] at ho
          have HO2 : Hid (w3.ownsRow w2.heap.size 60 3 (.slice (some ⟨gv2, 0, none⟩) (i + 1) cap2) (i + 1) (nodesC L (N.take (i + 1)))) := ho
          clear hown2 hgrow ho hat2 hgv2 z0 n0 n1 n2 b0
          go_wp2
          go_roundw
          case rel => exact ⟨i + 1, by omega, by go_num, HBN.out, HO2.out⟩
          case measure => simp [intOf]; omega
      · have hie : i = n := by omega
        subst hie
        have ho := HOWI.out
        rw [List.take_of_length_le (by have := HN.out; omega), HN.out] at ho
        obtain ⟨ao', cap', b', hv, hnn⟩ := nodes_of_own (by have := HN.out; omega) ho
        have HNN' : Hid (NodesIn wi.heap.size wi ao' N.length b' 0 (fun j => L.p (N.getD j 0)) (fun j => L.s (N.getD j 0)) (fun j => L.t (N.getD j 0))) := hnn
        clear hnn ho
        rw [← HN.out] at hv HNN'
        subst hv
        go_wp2
        go_ret2
        exact ⟨q, HQ.out, below_then HBW.out hbi, .inl ⟨HP.out, _, _, _, by rw [← HNN.out, ← HN.out]; rfl, by rw [← HNN.out, ← HN.out]; exact HNN'.out⟩⟩
  · go_wp2
    go_ret2
    exact ⟨q, HQ.out, HBW.out, .inr ⟨hp, rfl⟩⟩

end Go.Proofs.Ytpclldccjpncdaa
