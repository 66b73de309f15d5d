import Derived.Test.YtpclldccjpncdabGreatM10
namespace Go.Proofs.YtpclldccjpncdabGreat
open Go.RowKit

/-- the nodes of a text, by entries in whatever order -/
noncomputable def numsW (L : Lay) (s : ByteArray) (q : Nat) : List Int := (List.range q).flatMap fun j => (List.range (L.k (pidx L.m L.tx s j))).map fun i => L.z (pidx L.m L.tx s j) i
theorem numsW_succ (L : Lay) (s : ByteArray) (q : Nat) : numsW L s (q + 1) = numsW L s q ++ (List.range (L.k (pidx L.m L.tx s q))).map fun i => L.z (pidx L.m L.tx s q) i := by simp [numsW, List.range_succ]
theorem numsW_len {L : Lay} {s : ByteArray} (hk : ∀ i, i < L.m → 1 ≤ L.k i ∧ L.k i ≤ 4) : ∀ q, (∀ j, j < q → 0 < lenAt L.m L.tx s (pos L.m L.tx s j)) → (numsW L s q).length ≤ 4 * q
  | 0, _ => by simp [numsW]
  | q + 1, h => by
    have h1 := numsW_len hk q fun j hj => h j (by omega)
    have h2 := hk _ (pidx_spec h (Nat.lt_succ_self q)).1
    rw [numsW_succ, List.length_append, List.length_map, List.length_range]
    omega


theorem numsW_nums {L : Lay} (hok : L.Ok) {s : ByteArray} : ∀ q, (∀ j, j < q → 0 < lenAt L.m L.tx s (pos L.m L.tx s j)) → numsW L s q = (nums L s q).map (fun c => ((c : Nat) : Int))
  | 0, _ => by simp [numsW, nums]
  | q + 1, h => by
    have h1 := numsW_nums hok q fun j hj => h j (by omega)
    have h2 := (pidx_spec h (Nat.lt_succ_self q)).1
    rw [numsW_succ, nums_succ, h1, List.map_append]
    congr 1
    unfold entNums
    rw [List.map_map]
    refine List.map_congr_left fun i hi => ?_
    rw [List.mem_range] at hi
    have := hok.z _ h2 i hi
    show _ = (((L.z _ i).toNat : Nat) : Int)
    omega

set_option maxRecDepth 100000 in
set_option maxHeartbeats 2000000 in
theorem numbers_any (L : Lay) (s : ByteArray) (eao : Option Addr) (cap : Nat) (w : World) (h : EntriesIn w.heap.size w eao L.m L.eb L.eo L.tx L.la L.k L.lc L.lb L.lo L.z) (hm : L.m ≤ 48) (htx : ∀ i, i < L.m → 1 ≤ (L.tx i).size ∧ (L.tx i).size ≤ 3) (hok : ∀ i, i < L.m → 1 ≤ L.k i ∧ L.k i ≤ 4) (hs : s.size ≤ 24) :
    Calls Tryz.prog 99 #[.slice eao L.m cap, .string s] w fun e w' => ∃ q, Cut L.m L.tx s q ∧ Below w.heap.size w w' ∧
      ((pos L.m L.tx s q = s.size ∧ ∃ ao c, e = .returned (.tuple #[.slice ao (numsW L s q).length c, .bool true]) ∧ Hid (w'.ownsRow w.heap.size 3 1 (.slice ao (numsW L s q).length c) (numsW L s q).length ((numsW L s q).map (Value.int .i64)))) ∨
       (pos L.m L.tx s q ≠ s.size ∧ e = .returned (.tuple #[.slice none 0 0, .bool false]))) := by
  have HIN : Hid (EntriesIn w.heap.size w eao L.m L.eb L.eo L.tx L.la L.k L.lc L.lb L.lo L.z) := h
  have HOK : Hid (∀ i, i < L.m → 1 ≤ L.k i ∧ L.k i ≤ 4) := hok
  have HTX : Hid (∀ i, i < L.m → 1 ≤ (L.tx i).size ∧ (L.tx i).size ≤ 3) := htx
  clear h hok htx
  obtain ⟨i0, hi0, hq0, hq1, hq2⟩ := info_parts infoInt
  go_enter Tryz.func99, Tryz.ntmps99
  go_wp2_with fail
  refine (cut_in L.m _ _ _ _ L.tx L.la L.k L.lc L.lb L.lo L.z s _ hm (by omega) HTX.out HIN.out).mono ?_
  rintro e w2 ⟨q, hq, hb2, hor⟩
  have hq1' := pos_ge q hq.go
  have hq2' := pos_le L.m L.tx s q
  have HQ : Hid (Cut L.m L.tx s q) := hq
  have hqs : q ≤ 24 := by omega
  clear hq hq1' hq2'
  rcases hor with ⟨hp, vo, vc, gv, rfl, hein⟩ | ⟨hp, rfl⟩
  · have HFI : Hid (EntriesIn w2.heap.size w2 vo q gv 0 (fun j => L.tx (pidx L.m L.tx s j)) (fun j => L.la (pidx L.m L.tx s j)) (fun j => L.k (pidx L.m L.tx s j)) (fun j => L.lc (pidx L.m L.tx s j)) (fun j => L.lb (pidx L.m L.tx s j)) (fun j => L.lo (pidx L.m L.tx s j)) (fun j => L.z (pidx L.m L.tx s j))) := hein
    have HP : Hid (pos L.m L.tx s q = s.size) := hp
    clear hein hp
    go_wp2
    go_loopw [8, 9] (fun v iv wr => ∃ i : Nat, i ≤ q ∧ iv = .int .i64 i ∧ Below w2.heap.size w2 wr ∧ wr.ownsRow w2.heap.size 3 1 v (numsW L s i).length ((numsW L s i).map (Value.int .i64))) (fun _ iv _ => q - (intOf iv).toNat)
    case atStart => exact ⟨0, Nat.zero_le _, rfl, Below.refl _ _, World.ownsRow_nil _ _ _ _⟩
    case round =>
      obtain ⟨i, hi, rfl, hbel, hown⟩ := hrel
      have HOWN : Hid (wr.ownsRow w2.heap.size 3 1 _ (numsW L s i).length ((numsW L s i).map (Value.int .i64))) := hown
      clear hown
      have hsz := hbel.size
      by_cases hlt : i < q
      · have ha := HFI.out.addr (by omega)
        subst ha
        have cl := cellTo hbel (HFI.out.list i hlt) (HFI.out.lt (by omega))
        simp only [Nat.zero_add] at cl
        obtain ⟨e, he⟩ : ∃ e, e = pidx L.m L.tx s i := ⟨_, rfl⟩
        have hem : e < L.m := by rw [he]; exact (pidx_spec HQ.out.go hlt).1
        have HSUC : Hid (numsW L s (i + 1) = numsW L s i ++ (List.range (L.k e)).map fun j => L.z e j) := by
          show _ = _
          rw [he]
          exact numsW_succ L s i
        have hke := HOK.out e hem
        have hnz : (numsW L s i).length ≤ 4 * i := numsW_len HOK.out i (fun j hj => HQ.out.go j (by omega))
        rw [← he] at cl
        clear he
        have hbw := below_then hb2 hbel
        have HI : Hid (IntsIn w.heap.size w (L.la e) (L.k e) (L.lb e) (L.lo e) (L.z e)) := HIN.out.ints e hem
        rw [HI.out.addr (by omega)] at cl
        have HNW : Hid (∀ (j : Nat) (u : Value), ((List.range (L.k e)).map fun j => Value.int .i64 (L.z e j))[j]? = some u → wr.cell? ((⟨L.lb e, L.lo e, none⟩ : Addr).add j) = some u) := fun j u hj => by
          have hjk : j < L.k e := by
            by_cases hx : j < L.k e
            · exact hx
            · rw [List.getElem?_eq_none (by simp; omega)] at hj; cases hj
          rw [List.getElem?_map, List.getElem?_range hjk] at hj
          simp at hj
          subst hj
          rw [Addr.add_mid]
          exact cellTo hbw (HI.out.cell j hjk) (HI.out.lt (by omega))
        go_wp2_with (first
          | (at_builtin; refine wpList_append_lies _ (by rfl) (.tmp 24) (.tmp 29) 61 (by rfl) w2.heap.size 3 i0 (.int .i64 0) 1 8 Tryz.underlying61 hi0 hq0 hq1 hq2 rfl (by omega) _ _ _ (by rfl) HOWN.out ⟨L.lb e, L.lo e, none⟩ (L.k e) (L.lc e) ((List.range (L.k e)).map fun j => Value.int .i64 (L.z e j)) (by rfl) ?c0 HNW.out ?c2 (by omega) ?c3 ?c5 (by omega) wr.heap.size rfl ?_))
        case c0 => simp
        case c2 => intro u hu; simp at hu; obtain ⟨_, _, rfl⟩ := hu; rfl
        case c3 => unfold maxLen; omega
        case c5 => omega
        · intro gv2 cap2 w3 hown2 hgrow _ _
          have HBN : Hid (Below w2.heap.size w2 w3) := grown_below hbel hsz HOWN.out (Nat.le_refl _) hgrow
          have ho : w3.ownsRow w2.heap.size 3 1 (.slice (some ⟨gv2, 0, none⟩) ((numsW L s i).length + L.k e) cap2) (numsW L s (i + 1)).length ((numsW L s (i + 1)).map (Value.int .i64)) := by
            rw [HSUC.out, List.length_append, List.map_append, List.map_map, List.length_map, List.length_range]
            exact hown2
          have HO2 : Hid _ := ho
          clear hown2 hgrow ho
          go_wp2
          go_roundw
          case rel => exact ⟨i + 1, by omega, by go_num, HBN.out, HO2.out⟩
          case measure => simp [intOf]; omega
      · have hie : i = q := by omega
        subst hie
        obtain ⟨ao', cap', _, hv, _⟩ := own_cells HOWN.out
        subst hv
        have HNN : Hid (wr.ownsRow w.heap.size 3 1 (.slice ao' (numsW L s i).length cap') (numsW L s i).length ((numsW L s i).map (Value.int .i64))) := by
          obtain ⟨h1, h2⟩ := HOWN.out
          rcases h2 with h2 | ⟨g, cap, cur, hv, hg, r⟩
          · exact ⟨h1, .inl h2⟩
          · exact ⟨h1, .inr ⟨g, cap, cur, hv, by have := hb2.size; omega, r⟩⟩
        go_wp2
        go_ret2
        exact ⟨i, HQ.out, below_then hb2 hbel, .inl ⟨HP.out, _, _, rfl, HNN⟩⟩
  · go_wp2
    go_ret2
    exact ⟨q, HQ.out, hb2, .inr ⟨hp, rfl⟩⟩

set_option maxRecDepth 100000 in
set_option maxHeartbeats 2000000 in
theorem nodesOf_any (L : Lay) (s : ByteArray) (w : World) (h : L.In w.heap.size w) (hok : L.Ok) (hs : s.size ≤ 24) :
    Calls Tryz.prog 72 #[.agg #[.slice L.na L.n L.nc, .slice L.ea L.m L.ec], .string s] w fun e w' => ∃ q, Cut L.m L.tx s q ∧ Below w.heap.size w w' ∧
      ((pos L.m L.tx s q = s.size ∧ ∃ ao cap b, e = .returned (.tuple #[.slice ao (nums L s q).length cap, .bool true]) ∧ NodesIn w'.heap.size w' ao (nums L s q).length b 0 (fun i => L.p ((nums L s q).getD i 0)) (fun i => L.s ((nums L s q).getD i 0)) (fun i => L.t ((nums L s q).getD i 0))) ∨
       (pos L.m L.tx s q ≠ s.size ∧ e = .returned (.tuple #[.slice none 0 0, .bool false]))) := by
  have HL : Hid (∀ w', Below w.heap.size w w' → L.In w'.heap.size w') := fun w' hb => h.later hb
  have HIN : Hid (L.In w.heap.size w) := h
  have hm := hok.m
  have hn48 := hok.n
  have HOK : Hid (L.Ok) := hok
  clear h hok
  obtain ⟨i0, hi0, hq0, hq1, hq2⟩ := info_parts infoNode
  go_enter Tryz.func72, Tryz.ntmps72
  go_wp2_with fail
  refine (numbers_any L s _ _ _ (HL.out _ (below_one _)).entries hm HOK.out.tx HOK.out.k hs).mono ?_
  rintro e w2 ⟨q, hq, hb2, hor⟩
  have hq1' := pos_ge q hq.go
  have hq2' := pos_le L.m L.tx s q
  have HQ : Hid (Cut L.m L.tx s q) := hq
  have hqs : q ≤ 24 := by omega
  have HBW : Hid (Below w.heap.size w w2) := below_then (below_one _) hb2
  obtain ⟨hc2, hf2⟩ := bcell hb2
  have c0 := hc2 w.heap.size 0 (by simp)
  have c0' : w2.cell? ⟨w.heap.size, 0, none⟩ = some (.slice L.na L.n L.nc) := by rw [c0]; go_simp
  have hz2 : w.heap.size < w2.heap.size := by have := hb2.size; simp at this; omega
  have HNE : Hid (numsW L s q = (nums L s q).map (fun c => ((c : Nat) : Int))) := numsW_nums HOK.out q hq.go
  have HLT : Hid (∀ c ∈ nums L s q, c < L.n) := nums_lt HOK.out q hq.go
  have hnl : (nums L s q).length ≤ 96 := by have := nums_len HOK.out q hq.go; omega
  clear hq hq1' hq2' hc2 hf2 hb2 c0
  rcases hor with ⟨hp, vo, vc, rfl, hown⟩ | ⟨hp, rfl⟩
  · have hwl : (numsW L s q).length = (nums L s q).length := by rw [HNE.out, List.length_map]
    have hown' := hown.out
    rw [hwl] at hown' ⊢
    obtain ⟨N, hN⟩ : ∃ N, N = nums L s q := ⟨_, rfl⟩
    rw [HNE.out, ← hN] at hown'
    rw [← hN] at hnl HLT ⊢
    obtain ⟨_, _, gv, hv, ha0, hc0⟩ := own_cells hown'
    injection hv with hv1 _ hv3
    subst hv1
    subst hv3
    have HNN : Hid (N = nums L s q) := hN
    have HP : Hid (pos L.m L.tx s q = s.size) := hp
    have HC0 : Hid (w2.cell? ⟨w.heap.size, 0, none⟩ = some (.slice L.na L.n L.nc)) := c0'
    have HNA : Hid (0 < N.length → vo = some ⟨gv, 0, none⟩ ∧ gv < w2.heap.size) := fun h0 => ⟨(ha0 h0).1, (ha0 h0).2.1⟩
    have HNC : Hid (∀ i, i < N.length → w2.cell? ⟨gv, i, none⟩ = some (.int .i64 ((N.getD i 0 : Nat) : Int))) := fun i hi => by
      have := hc0 i (.int .i64 ((N.getD i 0 : Nat) : Int)) (by omega) (by simp [List.getD, List.getElem?_eq_getElem hi])
      simpa using this
    clear hp c0' hown hown' ha0 hc0 hwl HNE hN
    obtain ⟨n, hn⟩ : ∃ n, n = N.length := ⟨_, rfl⟩
    have HN : Hid (n = N.length) := hn
    rw [← hn] at hnl HNA HNC ⊢
    clear hn
    go_wp2
    go_loopw [8, 9] (fun v iv wr => ∃ i : Nat, i ≤ n ∧ iv = .int .i64 i ∧ Below w2.heap.size w2 wr ∧ wr.ownsRow w2.heap.size 65 3 v i (nodesC L (N.take i))) (fun _ iv _ => n - (intOf iv).toNat)
    case atStart => exact ⟨0, Nat.zero_le _, rfl, Below.refl _ _, World.ownsRow_nil _ _ _ _⟩
    case round =>
      rename World => wi
      obtain ⟨i, hi, rfl, hbi, hown⟩ := hrel
      have HOWI : Hid (wi.ownsRow w2.heap.size 65 3 _ i (nodesC L (N.take i))) := hown
      clear hown
      have hsi := hbi.size
      by_cases hjk : i < n
      · have hjl : i < N.length := by have := HN.out; omega
        obtain ⟨c, hc⟩ : ∃ c : Nat, c = N.getD i 0 := ⟨_, rfl⟩
        have hcm : c ∈ N := by rw [hc, List.getD_eq_getElem?_getD, List.getElem?_eq_getElem hjl]; exact List.getElem_mem hjl
        have hcn : c < L.n := HLT.out c hcm
        have HTK : Hid (N.take (i + 1) = N.take i ++ [c]) := by
          show _ = _
          rw [take_snoc_n N i hjl, hc]
        have z0 := cellTo hbi (HNC.out i hjk) (HNA.out (by omega)).2
        rw [← hc] at z0
        have hva := (HNA.out (by omega)).1
        subst hva
        have hbw := below_then HBW.out hbi
        have hnb := HIN.out.nodes.lt (by omega)
        have n0 := cellTo hbw (HIN.out.nodes.p c hcn) hnb
        have n1 := cellTo hbw (HIN.out.nodes.s c hcn) hnb
        have n2 := cellTo hbw (HIN.out.nodes.t c hcn) hnb
        have b0 := cellTo hbi HC0.out (by show w.heap.size < _; omega)
        rw [HIN.out.nodes.addr (by omega)] at b0
        have r1 : (c : Int) < (L.n : Int) := by omega
        have r2 : (0 : Int) ≤ (c : Int) := by omega
        clear hc hcm hjl
        go_wp2
        go_region_law ((refine step_append_lies _ (by rfl) (.tmp 25) (.tmp 34) 25 (by rfl) w2.heap.size 65 i0 (.agg #[.int .i64 0, .int .i64 0, .int .i64 0]) 3 24 Tryz.underlying25 hi0 hq0 hq1 hq2 rfl (by omega) _ i _ (by rfl) (HOWI.out.alloc _).drew ⟨wi.heap.size, 0, none⟩ 1 1 [.int .i64 (L.p c), .int .i64 (L.s c), .int .i64 (L.t c)] (by rfl) (by rfl) (new_three _ _ _ _ _) (by intro u hu; simp at hu; rcases hu with rfl | rfl | rfl <;> rfl) (by omega) (by unfold maxLen; omega) (by omega) (by simp; omega) (wi.heap.size + 1) (by simp) ?_; intro gv2 cap2 w3 hown2 hgrow hat2 hgv2))
        all_goals
          have HBN : Hid (Below w2.heap.size w2 w3) := grown_below (hbi.alloc hsi _).drew (by simp; omega) (HOWI.out.alloc _).drew (Nat.le_refl _) hgrow
          have ho := hown2
          rw [← nodesC_snoc, ← HTK.out] at ho
          have HO2 : Hid (w3.ownsRow w2.heap.size 65 3 (.slice (some ⟨gv2, 0, none⟩) (i + 1) cap2) (i + 1) (nodesC L (N.take (i + 1)))) := ho
          clear hown2 hgrow ho hat2 hgv2 z0 n0 n1 n2 b0
          go_wp2
          go_roundw
          case rel => exact ⟨i + 1, by omega, by go_num, HBN.out, HO2.out⟩
          case measure => simp [intOf]; omega
      · have hie : i = n := by omega
        subst hie
        have ho := HOWI.out
        rw [List.take_of_length_le (by have := HN.out; omega), HN.out] at ho
        obtain ⟨ao', cap', b', hv, hnn⟩ := nodes_of_own (by have := HN.out; omega) ho
        have HNN' : Hid (NodesIn wi.heap.size wi ao' N.length b' 0 (fun j => L.p (N.getD j 0)) (fun j => L.s (N.getD j 0)) (fun j => L.t (N.getD j 0))) := hnn
        clear hnn ho
        rw [← HN.out] at hv HNN'
        subst hv
        go_wp2
        go_ret2
        exact ⟨q, HQ.out, below_then HBW.out hbi, .inl ⟨HP.out, _, _, _, by rw [← HNN.out, ← HN.out]; rfl, by rw [← HNN.out, ← HN.out]; exact HNN'.out⟩⟩
  · go_wp2
    go_ret2
    exact ⟨q, HQ.out, HBW.out, .inr ⟨hp, rfl⟩⟩

end Go.Proofs.YtpclldccjpncdabGreat

namespace Go.Proofs.YtpclldccjpncdabGreat
open Go.RowKit

/-- the nodes of a text, in memory -/
abbrev NodesL (L : Lay) (w : World) (ao : Option Addr) (l : List Nat) (b : Nat) : Prop := NodesIn w.heap.size w ao l.length b 0 (fun i => L.p (l.getD i 0)) (fun i => L.s (l.getD i 0)) (fun i => L.t (l.getD i 0))

theorem nodesOf_n (L : Lay) (s : ByteArray) (w : World) (h : L.In w.heap.size w) (hok : L.Ok) (hs : s.size ≤ 24) :
    Calls Tryz.prog 72 #[.agg #[.slice L.na L.n L.nc, .slice L.ea L.m L.ec], .string s] w fun e w' => Below w.heap.size w w' ∧ (nodesN L s).length ≤ 96 ∧
      ((hasP L s ∧ ∃ ao cap b, e = .returned (.tuple #[.slice ao (nodesN L s).length cap, .bool true]) ∧ NodesL L w' ao (nodesN L s) b) ∨ (¬ hasP L s ∧ e = .returned (.tuple #[.slice none 0 0, .bool false]))) := by
  refine (nodesOf_any L s w h hok hs).mono ?_
  rintro e w' ⟨q, hq, hb, hor⟩
  have hN := cutN_eq hq
  have h1 := pos_ge q hq.go
  have h2 := pos_le L.m L.tx s q
  have h3 := nums_len hok q hq.go
  unfold hasP nodesN
  rw [hN]
  exact ⟨hb, by omega, hor⟩

theorem cmpE_err {L : Lay} {a b : ByteArray} {lev : Int} (h : L.err ≠ 0) : cmpE L a b lev = L.err := by simp [cmpE, h]
theorem cmpE_long {L : Lay} {a b : ByteArray} {lev : Int} (h : L.err = 0) (h2 : 24 < a.size ∨ 24 < b.size) : cmpE L a b lev = 4 := by simp [cmpE, h, h2]
theorem cmpE_level {L : Lay} {a b : ByteArray} {lev : Int} (h : L.err = 0) (ha : a.size ≤ 24) (hb : b.size ≤ 24) (h3 : lev < 1 ∨ 3 < lev) : cmpE L a b lev = 5 := by
  have : ¬ (24 < a.size ∨ 24 < b.size) := by omega
  simp [cmpE, h, this, h3]
theorem cmpE_text {L : Lay} {a b : ByteArray} {lev : Int} (h : L.err = 0) (ha : a.size ≤ 24) (hb : b.size ≤ 24) (h3 : 1 ≤ lev) (h4 : lev ≤ 3) (h5 : ¬ hasP L a ∨ ¬ hasP L b) : cmpE L a b lev = 6 := by
  have h1 : ¬ (24 < a.size ∨ 24 < b.size) := by omega
  have h2 : ¬ (lev < 1 ∨ 3 < lev) := by omega
  simp only [cmpE, h, h1, h2, h5, ne_eq, not_true_eq_false, if_false, if_true]
theorem cmpE_ok {L : Lay} {a b : ByteArray} {lev : Int} (h : L.err = 0) (ha : a.size ≤ 24) (hb : b.size ≤ 24) (h3 : 1 ≤ lev) (h4 : lev ≤ 3) (h5 : hasP L a) (h6 : hasP L b) : cmpE L a b lev = 0 := by
  have h1 : ¬ (24 < a.size ∨ 24 < b.size) := by omega
  have h2 : ¬ (lev < 1 ∨ 3 < lev) := by omega
  have h7 : ¬ (¬ hasP L a ∨ ¬ hasP L b) := by simp [h5, h6]
  simp only [cmpE, h, h1, h2, h7, ne_eq, not_true_eq_false, if_false]
theorem cmpV_no {L : Lay} {a b : ByteArray} {lev : Int} (h : cmpE L a b lev ≠ 0) : cmpV L a b lev = 0 := by simp [cmpV, h]
theorem cmpV_ok {L : Lay} {a b : ByteArray} {lev : Int} (h : cmpE L a b lev = 0) : cmpV L a b lev = cmpFrom L a b lev.toNat 1 := by simp [cmpV, h]
theorem ret_two {x x' y y' : Int} (h1 : x = x') (h2 : y = y') : Ending.returned (.tuple #[.int .i64 x, .int .i64 y]) = .returned (.tuple #[.int .i64 x', .int .i64 y']) := by rw [h1, h2]

set_option maxRecDepth 100000 in
set_option maxHeartbeats 2000000 in
theorem tableCompare_any (L : Lay) (a b : ByteArray) (lev : Int) (w : World) (h : L.In w.heap.size w) :
    Calls Tryz.prog 41 #[.agg #[.slice L.na L.n L.nc, .slice L.ea L.m L.ec], .string a, .string b, .int .i64 lev] w fun e w' => e = .returned (.tuple #[.int .i64 (cmpV L a b lev), .int .i64 (cmpE L a b lev)]) ∧ Below w.heap.size w w' := by
  have HL : Hid (∀ w', Below w.heap.size w w' → L.In w'.heap.size w') := fun w' hb => h.later hb
  clear h
  by_cases he : L.err = 0
  · by_cases ha : a.size ≤ 24
    · by_cases hb : b.size ≤ 24
      · by_cases hl : 1 ≤ lev ∧ lev ≤ 3
        · obtain ⟨hl1, hl3⟩ := hl
          have HOK : Hid L.Ok := err_zero he
          have hlv : decide (1 ≤ lev ∧ lev ≤ 3) = true := by simp [hl1, hl3]
          go_enter Tryz.func41, Tryz.ntmps41
          go_wp2_with (first
            | (go_at_call 36; refine (tableValid_any L _ (HL.out _ (below_one _))).mono ?_; rintro e w1 ⟨rfl, hb1⟩; obtain ⟨hc, hf⟩ := bcell hb1; have hz1 : w.heap.size < w1.heap.size := by have := hb1.size; simp at this; omega)
            | (go_at_call 71; refine (isLevel_any _ _).mono ?_; rintro e _ ⟨rfl, rfl⟩))
          refine (nodesOf_n L a _ (HL.out _ (below_then (below_one _) hb1)) HOK.out ha).mono ?_
          rintro e w2 ⟨hb2, hlen2, hor2⟩
          obtain ⟨hc2, hf2⟩ := bcell hb2
          have hz2 : w.heap.size < w2.heap.size := by have := hb2.size; omega
          rcases hor2 with ⟨hpa, ao, acap, ab, rfl, hna⟩ | ⟨hpa, rfl⟩
          · have HNA : Hid (NodesL L w2 ao (nodesN L a) ab) := hna
            clear hna
            go_wp2_with fail
            refine (nodesOf_n L b _ (HL.out _ (below_then (below_then (below_one _) hb1) hb2)) HOK.out hb).mono ?_
            rintro e w3 ⟨hb3, hlen3, hor3⟩
            have HBW : Hid (Below w.heap.size w w3) := below_then (below_then (below_then (below_one _) hb1) hb2) hb3
            rcases hor3 with ⟨hpb, bo, bcap, bb, rfl, hnb⟩ | ⟨hpb, rfl⟩
            · have HNB : Hid (NodesL L w3 bo (nodesN L b) bb) := hnb
              have HNA3 : Hid (NodesL L w3 ao (nodesN L a) ab) := (HNA.out.below hb3).mono hb3.size
              have HE : Hid (cmpE L a b lev = 0) := cmpE_ok he ha hb hl1 hl3 hpa hpb
              clear hnb HNA hc hf hc2 hf2
              obtain ⟨t, ht⟩ : ∃ t : Nat, lev = t := ⟨lev.toNat, by omega⟩
              subst ht
              go_wp2
              go_loopw [15] (fun kv wr => ∃ k : Nat, 1 ≤ k ∧ k ≤ t + 1 ∧ kv = .int .i64 k ∧ Below w3.heap.size w3 wr ∧ cmpFrom L a b t 1 = cmpFrom L a b (t + 1 - k) k) (fun kv _ => t + 1 - (intOf kv).toNat)
              case atStart => exact ⟨1, by omega, by omega, rfl, Below.refl _ _, by simp⟩
              case round =>
                obtain ⟨k, hk1, hk2, rfl, hbel, hcf⟩ := hrel
                have HCF : Hid (cmpFrom L a b t 1 = cmpFrom L a b (t + 1 - k) k) := hcf
                clear hcf
                by_cases hkt : k ≤ t
                · have HST : Hid (cmpFrom L a b (t + 1 - k) k = if cmpL (wl L a k) (wl L b k) ≠ 0 then cmpL (wl L a k) (wl L b k) else cmpFrom L a b (t + 1 - (k + 1)) (k + 1)) := by
                    show _ = _
                    rw [show t + 1 - k = (t + 1 - (k + 1)) + 1 by omega]
                    rfl
                  go_wp2_with fail
                  refine (weights_any L (nodesN L a) k ao ab 0 acap _ (by omega) hk1 (by omega) ((HNA3.out.below hbel).mono hbel.size)).mono ?_
                  rintro e w4 ⟨pa, pcap, pb, rfl, hia, hb4⟩
                  have HIA : Hid (IntsL w4.heap.size w4 pa (wts L k (nodesN L a)) pb 0) := hia
                  clear hia
                  go_wp2_with fail
                  refine (weights_any L (nodesN L b) k bo bb 0 bcap _ (by omega) hk1 (by omega) ((HNB.out.below (below_then hbel hb4)).mono (below_then hbel hb4).size)).mono ?_
                  rintro e w5 ⟨qa, qcap, qb, rfl, hib, hb5⟩
                  have HIB : Hid (IntsL w5.heap.size w5 qa (wts L k (nodesN L b)) qb 0) := hib
                  clear hib
                  go_wp2_with fail
                  refine (compareWeights_any _ _ _ _ _ _ _ _ _ _ _ ((HIA.out.below hb5).mono hb5.size) HIB.out).mono ?_
                  rintro e w6 ⟨rfl, hb6⟩
                  obtain ⟨x, hx⟩ : ∃ x, x = cmpL (wts L k (nodesN L a)) (wts L k (nodesN L b)) := ⟨_, rfl⟩
                  rw [← hx]
                  have HX : Hid (x = cmpL (wl L a k) (wl L b k)) := hx
                  clear hx
                  have HBL : Hid (Below w3.heap.size w3 w6) := below_then (below_then (below_then hbel hb4) hb5) hb6
                  by_cases hx0 : x = 0
                  · go_wp2
                    go_roundw
                    case rel => exact ⟨k + 1, by omega, by omega, by go_num, HBL.out, by rw [HCF.out, HST.out, if_neg (by rw [← HX.out]; simpa using hx0)]⟩
                    case measure => simp [intOf]; omega
                  · go_wp2
                    go_ret2
                    refine ⟨ret_two ?_ HE.out.symm, below_then HBW.out HBL.out⟩
                    rw [cmpV_ok HE.out, show (t : Int).toNat = t by omega, HCF.out, HST.out, if_pos (by rw [← HX.out]; exact hx0)]
                    exact HX.out
                · go_wp2
                  go_ret2
                  refine ⟨ret_two ?_ HE.out.symm, below_then HBW.out hbel⟩
                  have hke : t + 1 - k = 0 := by omega
                  rw [cmpV_ok HE.out, show (t : Int).toNat = t by omega, HCF.out, hke]
                  rfl
            · have HE : Hid (cmpE L a b lev = 6) := cmpE_text he ha hb hl1 hl3 (.inr hpb)
              go_wp2
              go_ret2
              exact ⟨ret_two (cmpV_no (by rw [HE.out]; decide)).symm HE.out.symm, HBW.out⟩
          · have HE : Hid (cmpE L a b lev = 6) := cmpE_text he ha hb hl1 hl3 (.inl hpa)
            go_wp2_with fail
            refine (nodesOf_n L b _ (HL.out _ (below_then (below_then (below_one _) hb1) hb2)) HOK.out hb).mono ?_
            rintro e w3 ⟨hb3, hlen3, hor3⟩
            have HBW : Hid (Below w.heap.size w w3) := below_then (below_then (below_then (below_one _) hb1) hb2) hb3
            rcases hor3 with ⟨hpb, bo, bcap, bb, rfl, hnb⟩ | ⟨hpb, rfl⟩
            · clear hnb
              go_wp2
              go_ret2
              exact ⟨ret_two (cmpV_no (by rw [HE.out]; decide)).symm HE.out.symm, HBW.out⟩
            · go_wp2
              go_ret2
              exact ⟨ret_two (cmpV_no (by rw [HE.out]; decide)).symm HE.out.symm, HBW.out⟩
        · have hlv : decide (1 ≤ lev ∧ lev ≤ 3) = false := by simpa using hl
          have hE : cmpE L a b lev = 5 := cmpE_level he ha hb (by omega)
          have HE : Hid (cmpE L a b lev = 5) := hE
          clear hE
          go_enter Tryz.func41, Tryz.ntmps41
          go_wp2_with (first
            | (go_at_call 36; refine (tableValid_any L _ (HL.out _ (below_one _))).mono ?_; rintro e w1 ⟨rfl, hb1⟩)
            | (go_at_call 71; refine (isLevel_any _ _).mono ?_; rintro e _ ⟨rfl, rfl⟩))
          go_ret2
          exact ⟨ret_two (cmpV_no (by rw [HE.out]; decide)).symm HE.out.symm, below_then (below_one _) hb1⟩
      · have HE : Hid (cmpE L a b lev = 4) := cmpE_long he (by omega)
        go_enter Tryz.func41, Tryz.ntmps41
        go_wp2_with (first
          | (go_at_call 36; refine (tableValid_any L _ (HL.out _ (below_one _))).mono ?_; rintro e w1 ⟨rfl, hb1⟩))
        go_ret2
        exact ⟨ret_two (cmpV_no (by rw [HE.out]; decide)).symm HE.out.symm, below_then (below_one _) hb1⟩
    · have HE : Hid (cmpE L a b lev = 4) := cmpE_long he (by omega)
      go_enter Tryz.func41, Tryz.ntmps41
      go_wp2_with (first
        | (go_at_call 36; refine (tableValid_any L _ (HL.out _ (below_one _))).mono ?_; rintro e w1 ⟨rfl, hb1⟩))
      go_ret2
      exact ⟨ret_two (cmpV_no (by rw [HE.out]; decide)).symm HE.out.symm, below_then (below_one _) hb1⟩
  · have HE : Hid (cmpE L a b lev = L.err) := cmpE_err he
    go_enter Tryz.func41, Tryz.ntmps41
    go_wp2_with (first
      | (go_at_call 36; refine (tableValid_any L _ (HL.out _ (below_one _))).mono ?_; rintro e w1 ⟨rfl, hb1⟩))
    go_ret2
    exact ⟨ret_two (cmpV_no (by rw [HE.out]; exact he)).symm HE.out.symm, below_then (below_one _) hb1⟩


set_option maxHeartbeats 400000 in
theorem compare_any (L : Lay) (a b : ByteArray) (lev : Int) (w : World) (h : L.In w.heap.size w) :
    Calls Tryz.prog 18 #[.agg #[.slice L.na L.n L.nc, .slice L.ea L.m L.ec], .string a, .string b, .int .i64 lev] w fun e w' => e = .returned (.tuple #[.int .i64 (cmpV L a b lev), .int .i64 (cmpE L a b lev)]) ∧ Below w.heap.size w w' := by
  have HL : Hid (∀ w', Below w.heap.size w w' → L.In w'.heap.size w') := fun w' hb => h.later hb
  clear h
  go_enter Tryz.func18, Tryz.ntmps18
  go_wp2_with (go_at_call 41; refine (tableCompare_any L _ _ _ _ (HL.out _ (below_one _))).mono ?_; rintro e w1 ⟨rfl, hb1⟩)
  go_ret2
  exact ⟨rfl, below_then (below_one _) hb1⟩

end Go.Proofs.YtpclldccjpncdabGreat

namespace Go.Proofs.YtpclldccjpncdabGreat
open Go.RowKit

set_option maxHeartbeats 1000000 in
theorem refSign_any (a b : List Int) (ao bo : Option Addr) (ab aoff bb boff acap bcap : Nat) (w : World) (h : IntsL w.heap.size w ao a ab aoff) (h' : IntsL w.heap.size w bo b bb boff) :
    Calls Tryz.prog 44 #[.slice ao a.length acap, .slice bo b.length bcap] w fun e w' => e = .returned (.int .i64 (cmpL a b)) ∧ Below w.heap.size w w' := by
  have la := h.le
  have lb := h'.le
  have HA : Hid (IntsL w.heap.size w ao a ab aoff) := h
  have HB : Hid (IntsL w.heap.size w bo b bb boff) := h'
  clear h h'
  obtain ⟨n, hn⟩ : ∃ n, n = a.length := ⟨_, rfl⟩
  obtain ⟨m, hm⟩ : ∃ m, m = b.length := ⟨_, rfl⟩
  rw [← hn] at la ⊢
  rw [← hm] at lb ⊢
  have HN : Hid (n = a.length) := hn
  have HM : Hid (m = b.length) := hm
  clear hn hm
  go_enter Tryz.func44, Tryz.ntmps44
  go_wp2
  go_loopw [5] (fun iv wr => ∃ j : Nat, j ≤ n ∧ j ≤ m ∧ iv = .int .i64 j ∧ Below w.heap.size w wr ∧ cmpL (a.drop j) (b.drop j) = cmpL a b) (fun iv _ => n + 1 - (intOf iv).toNat)
  case atStart => exact ⟨0, Nat.zero_le _, Nat.zero_le _, rfl, Below.refl _ _, by simp⟩
  case round =>
    obtain ⟨j, hj1, hj2, rfl, hbel, hcmp⟩ := hrel
    have HC : Hid (cmpL (a.drop j) (b.drop j) = cmpL a b) := hcmp
    clear hcmp
    by_cases hja : j < n
    · by_cases hjb : j < m
      · have pa : j < a.length := by have := HN.out; omega
        have pb : j < b.length := by have := HM.out; omega
        have e1 := HA.out.addr (by omega)
        have e2 := HB.out.addr (by omega)
        subst e1
        subst e2
        have c0 := cellTo hbel (HA.out.cell j pa) (HA.out.lt (by omega))
        have c1 := cellTo hbel (HB.out.cell j pb) (HB.out.lt (by omega))
        obtain ⟨x, hx⟩ : ∃ x, x = a.getD j 0 := ⟨_, rfl⟩
        obtain ⟨y, hy⟩ : ∃ y, y = b.getD j 0 := ⟨_, rfl⟩
        have HX : Hid (x = a.getD j 0) := hx
        have HY : Hid (y = b.getD j 0) := hy
        rw [← hx] at c0
        rw [← hy] at c1
        clear hx hy pa pb
        by_cases hlt : x < y
        · go_wp2
          go_quiet (fail)
          go_wp2
          go_ret
          exact ⟨ret_int (by rw [← HC.out]; exact (cmpL_lt (by have := HN.out; omega) (by have := HM.out; omega) (by rw [← HX.out, ← HY.out]; exact hlt)).symm), below_drewN hbel _⟩
        · by_cases hgt : y < x
          · go_wp2
            go_quiet (fail)
            go_wp2
            go_quiet (fail)
            go_wp2
            go_ret
            exact ⟨ret_int (by rw [← HC.out]; exact (cmpL_gt (by have := HN.out; omega) (by have := HM.out; omega) (by rw [← HX.out, ← HY.out]; exact hgt)).symm), (by first | exact below_drewN hbel _ | exact below_drewN (below_drewN hbel _) _)⟩
          · go_wp2
            go_quiet (fail)
            go_wp2
            go_quiet (fail)
            go_wp2
            go_roundw
            case rel => exact ⟨j + 1, by omega, by omega, by go_num, (by first | exact below_drewN hbel _ | exact below_drewN (below_drewN hbel _) _), by rw [← HC.out]; exact (cmpL_eq (by have := HN.out; omega) (by have := HM.out; omega) (by rw [← HX.out, ← HY.out]; omega)).symm⟩
            case measure => simp [intOf]; omega
      · have hje : j = m := by omega
        subst hje
        go_wp2
        go_ret
        refine ⟨ret_int ?_, hbel⟩
        rw [← HC.out, cmpL_end (.inr HM.out) (by have := HN.out; omega) (by have := HM.out; omega), ← HN.out, ← HM.out]
        have h1 : ¬ n < j := by omega
        simp [h1, hja]
    · have hje : j = n := by omega
      subst hje
      by_cases hnm : j < m
      · go_wp2
        go_ret
        refine ⟨ret_int ?_, hbel⟩
        rw [← HC.out, cmpL_end (.inl HN.out) (by have := HN.out; omega) (by have := HM.out; omega), ← HN.out, ← HM.out]
        simp [hnm]
      · go_wp2
        go_ret
        refine ⟨ret_int ?_, hbel⟩
        rw [← HC.out, cmpL_end (.inl HN.out) (by have := HN.out; omega) (by have := HM.out; omega), ← HN.out, ← HM.out]
        have : j = m := by omega
        simp [this]

/-- the numbers of a text's nodes, as numbers -/
noncomputable def numsZ (L : Lay) (s : ByteArray) (q : Nat) : List Int := (nums L s q).map Int.ofNat
theorem numsZ_succ {L : Lay} (hok : L.Ok) {s : ByteArray} {q : Nat} (h : ∀ j, j < q + 1 → 0 < lenAt L.m L.tx s (pos L.m L.tx s j)) :
    numsZ L s (q + 1) = numsZ L s q ++ (List.range (L.k (pidx L.m L.tx s q))).map fun i => L.z (pidx L.m L.tx s q) i := by
  unfold numsZ
  rw [nums_succ, List.map_append]
  congr 1
  simp only [entNums, List.map_map]
  refine List.map_congr_left fun i hi => ?_
  have := hok.z _ (pidx_spec h (Nat.lt_succ_self q)).1 i (List.mem_range.1 hi)
  simp; omega

set_option maxRecDepth 100000 in
set_option maxHeartbeats 2000000 in
theorem refNodes_any (L : Lay) (s : ByteArray) (eao : Option Addr) (cap : Nat) (w : World) (h : EntriesIn w.heap.size w eao L.m L.eb L.eo L.tx L.la L.k L.lc L.lb L.lo L.z) (hok : L.Ok) (hs : s.size ≤ 24) :
    Calls Tryz.prog 75 #[.slice eao L.m cap, .string s] w fun e w' => ∃ q, Cut L.m L.tx s q ∧ Below w.heap.size w w' ∧
      ((pos L.m L.tx s q = s.size ∧ ∃ ao c b, e = .returned (.tuple #[.slice ao (numsZ L s q).length c, .bool true]) ∧ IntsL w'.heap.size w' ao (numsZ L s q) b 0) ∨
       (pos L.m L.tx s q ≠ s.size ∧ ∃ v, e = .returned (.tuple #[v, .bool false]))) := by
  have HIN : Hid (EntriesIn w.heap.size w eao L.m L.eb L.eo L.tx L.la L.k L.lc L.lb L.lo L.z) := h
  have hm := hok.m
  have HOK : Hid (L.Ok) := hok
  clear h hok
  obtain ⟨i0, hi0, hq0, hq1, hq2⟩ := info_parts infoInt
  go_enter Tryz.func75, Tryz.ntmps75
  go_wp2_with fail
  refine (refCut_any L.m _ _ _ _ L.tx L.la L.k L.lc L.lb L.lo L.z s _ (by omega) (by omega) HIN.out).mono ?_
  rintro e w2 ⟨q, hq, hb2, hor⟩
  have hq1' := pos_ge q hq.go
  have hq2' := pos_le L.m L.tx s q
  have HQ : Hid (Cut L.m L.tx s q) := hq
  have hqs : q ≤ 24 := by omega
  clear hq hq1' hq2'
  rcases hor with ⟨hp, v, rfl, hown⟩ | ⟨hp, rfl⟩
  · obtain ⟨vo, vc, gv, hv, hst⟩ := strs_of_own (by omega) hown
    have HST : Hid (StrsIn w2.heap.size w2 vo q gv 0 (piece L.m L.tx s)) := hst
    have HP : Hid (pos L.m L.tx s q = s.size) := hp
    clear hst hown hp
    subst hv
    go_wp2
    go_loopw [8, 9] (fun v iv wr => ∃ i : Nat, i ≤ q ∧ iv = .int .i64 i ∧ Below w2.heap.size w2 wr ∧ wr.ownsRow w2.heap.size 3 1 v (numsZ L s i).length ((numsZ L s i).map (Value.int .i64))) (fun _ iv _ => q - (intOf iv).toNat)
    case atStart => exact ⟨0, Nat.zero_le _, rfl, Below.refl _ _, World.ownsRow_nil _ _ _ _⟩
    case round =>
      obtain ⟨i, hi, rfl, hbel, hown⟩ := hrel
      have HOWN : Hid (wr.ownsRow w2.heap.size 3 1 _ (numsZ L s i).length ((numsZ L s i).map (Value.int .i64))) := hown
      clear hown
      have hsz := hbel.size
      by_cases hlt : i < q
      · have ha := HST.out.addr (by omega)
        subst ha
        have c0 := cellTo hbel (HST.out.cell i hlt) (HST.out.lt (by omega))
        simp only [Nat.zero_add] at c0
        obtain ⟨e, he⟩ : ∃ e, e = pidx L.m L.tx s i := ⟨_, rfl⟩
        have hpx := idx_spec (lenAt_text (HQ.out.go i hlt))
        have hem : e < L.m := by rw [he]; exact hpx.1
        have HEN : Hid (entI L.m L.tx (piece L.m L.tx s i) = (e : Int)) := by
          show _ = _
          rw [he]
          exact entI_text (lenAt_text (HQ.out.go i hlt))
        have HSUC : Hid (numsZ L s (i + 1) = numsZ L s i ++ (List.range (L.k e)).map fun j => L.z e j) := by
          show _ = _
          rw [he]
          exact numsZ_succ HOK.out (fun j hj => HQ.out.go j (by omega))
        have hke := HOK.out.k e hem
        have hnl := nums_len HOK.out i (fun j hj => HQ.out.go j (by omega))
        have hnz : (numsZ L s i).length ≤ 4 * i := by simp [numsZ]; omega
        clear hnl
        clear he hpx
        have hbw := below_then hb2 hbel
        have hea := HIN.out.addr (by omega)
        subst hea
        have hbb := HIN.out.lt (by omega)
        have cl := cellTo hbw (HIN.out.list e hem) hbb
        have HI : Hid (IntsIn w.heap.size w (L.la e) (L.k e) (L.lb e) (L.lo e) (L.z e)) := HIN.out.ints e hem
        rw [HI.out.addr (by omega)] at cl
        have HNW : Hid (∀ (j : Nat) (u : Value), ((List.range (L.k e)).map fun j => Value.int .i64 (L.z e j))[j]? = some u → wr.cell? ((⟨L.lb e, L.lo e, none⟩ : Addr).add j) = some u) := fun j u hj => by
          have hjk : j < L.k e := by
            by_cases hx : j < L.k e
            · exact hx
            · rw [List.getElem?_eq_none (by simp; omega)] at hj; cases hj
          rw [List.getElem?_map, List.getElem?_range hjk] at hj
          simp at hj
          subst hj
          rw [Addr.add_mid]
          exact cellTo hbw (HI.out.cell j hjk) (HI.out.lt (by omega))
        have HEI : Hid (EntriesIn wr.heap.size wr (some ⟨L.eb, L.eo, none⟩) L.m L.eb L.eo L.tx L.la L.k L.lc L.lb L.lo L.z) := (HIN.out.below hbw).mono hbw.size
        go_wp2_with (first
          | (go_at_call 70; refine (entry_any _ _ _ _ _ _ _ _ _ _ _ _ _ _ (by omega) HEI.out).mono ?_; rintro e _ ⟨rfl, rfl⟩; rw [HEN.out])
          | (at_builtin; refine wpList_append_lies _ (by rfl) (.tmp 29) (.tmp 34) 61 (by rfl) w2.heap.size 3 i0 (.int .i64 0) 1 8 Tryz.underlying61 hi0 hq0 hq1 hq2 rfl (by omega) _ _ _ (by rfl) HOWN.out ⟨L.lb e, L.lo e, none⟩ (L.k e) (L.lc e) ((List.range (L.k e)).map fun j => Value.int .i64 (L.z e j)) (by rfl) ?c0 HNW.out ?c2 (by omega) ?c3 ?c5 (by omega) wr.heap.size rfl ?_))
        case c0 => simp
        case c2 => intro u hu; simp at hu; obtain ⟨_, _, rfl⟩ := hu; rfl
        case c3 => unfold maxLen; omega
        case c5 => omega
        · intro gv2 cap2 w3 hown2 hgrow _ _
          have HBN : Hid (Below w2.heap.size w2 w3) := grown_below hbel hsz HOWN.out (Nat.le_refl _) hgrow
          have ho : w3.ownsRow w2.heap.size 3 1 (.slice (some ⟨gv2, 0, none⟩) ((numsZ L s i).length + L.k e) cap2) (numsZ L s (i + 1)).length ((numsZ L s (i + 1)).map (Value.int .i64)) := by
            rw [HSUC.out, List.length_append, List.map_append, List.map_map, List.length_map, List.length_range]
            exact hown2
          have HO2 : Hid _ := ho
          clear hown2 hgrow ho
          go_wp2
          go_roundw
          case rel => exact ⟨i + 1, by omega, by go_num, HBN.out, HO2.out⟩
          case measure => simp [intOf]; omega
      · have hie : i = q := by omega
        subst hie
        have hnl := nums_len HOK.out i HQ.out.go
        obtain ⟨ao', cap', b', hv, hnn⟩ := ints_of_own rfl (by simp [numsZ]; omega) HOWN.out
        have HNN : Hid (IntsL wr.heap.size wr ao' (numsZ L s i) b' 0) := hnn
        clear hnn
        subst hv
        go_wp2
        go_ret2
        exact ⟨i, HQ.out, below_then hb2 hbel, .inl ⟨HP.out, _, _, _, rfl, HNN.out⟩⟩
  · go_wp2
    go_loopw [8, 9] (fun v iv wr => iv = .int .i64 0 ∧ wr = w2) (fun _ _ _ => 0)
    case atStart => exact ⟨rfl, rfl⟩
    case round =>
      obtain ⟨rfl, rfl⟩ := hrel
      go_wp2
      go_ret2
      exact ⟨q, HQ.out, hb2, .inr ⟨hp, _, rfl⟩⟩

end Go.Proofs.YtpclldccjpncdabGreat
