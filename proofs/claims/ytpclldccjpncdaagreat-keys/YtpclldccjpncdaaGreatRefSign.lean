import Derived.Test.YtpclldccjpncdaaGreatCompareW
import Derived.Test.YtpclldccjpncdaaGreatRefCut
namespace Go.Proofs.YtpclldccjpncdaaGreat
open Go.RowKit

set_option maxHeartbeats 1000000 in
theorem refSign_any (a b : List Int) (ao bo : Option Addr) (ab aoff bb boff acap bcap : Nat) (w : World) (h : IntsL w.heap.size w ao a ab aoff) (h' : IntsL w.heap.size w bo b bb boff) :
    Calls Tryz.prog 49 #[.slice ao a.length acap, .slice bo b.length bcap] w fun e w' => e = .returned (.int .i64 (cmpL a b)) ∧ Below w.heap.size w w' := by
  have la := h.le
  have lb := h'.le
  have HA : Hid (IntsL w.heap.size w ao a ab aoff) := h
  have HB : Hid (IntsL w.heap.size w bo b bb boff) := h'
  clear h h'
  obtain ⟨n, hn⟩ : ∃ n, n = a.length := ⟨_, rfl⟩
  obtain ⟨m, hm⟩ : ∃ m, m = b.length := ⟨_, rfl⟩
  rw [← hn] at la ⊢
  rw [← hm] at lb ⊢
  have HN : Hid (n = a.length) := hn
  have HM : Hid (m = b.length) := hm
  clear hn hm
  go_enter Tryz.func49, Tryz.ntmps49
  go_wp2
  go_loopw [5] (fun iv wr => ∃ j : Nat, j ≤ n ∧ j ≤ m ∧ iv = .int .i64 j ∧ Below w.heap.size w wr ∧ cmpL (a.drop j) (b.drop j) = cmpL a b) (fun iv _ => n + 1 - (intOf iv).toNat)
  case atStart => exact ⟨0, Nat.zero_le _, Nat.zero_le _, rfl, Below.refl _ _, by simp⟩
  case round =>
    obtain ⟨j, hj1, hj2, rfl, hbel, hcmp⟩ := hrel
    have HC : Hid (cmpL (a.drop j) (b.drop j) = cmpL a b) := hcmp
    clear hcmp
    by_cases hja : j < n
    · by_cases hjb : j < m
      · have pa : j < a.length := by have := HN.out; omega
        have pb : j < b.length := by have := HM.out; omega
        have e1 := HA.out.addr (by omega)
        have e2 := HB.out.addr (by omega)
        subst e1
        subst e2
        have c0 := cellTo hbel (HA.out.cell j pa) (HA.out.lt (by omega))
        have c1 := cellTo hbel (HB.out.cell j pb) (HB.out.lt (by omega))
        obtain ⟨x, hx⟩ : ∃ x, x = a.getD j 0 := ⟨_, rfl⟩
        obtain ⟨y, hy⟩ : ∃ y, y = b.getD j 0 := ⟨_, rfl⟩
        have HX : Hid (x = a.getD j 0) := hx
        have HY : Hid (y = b.getD j 0) := hy
        rw [← hx] at c0
        rw [← hy] at c1
        clear hx hy pa pb
        by_cases hlt : x < y
        · go_wp2
          go_quiet (fail)
          go_wp2
          go_ret
          exact ⟨ret_int (by rw [← HC.out]; exact (cmpL_lt (by have := HN.out; omega) (by have := HM.out; omega) (by rw [← HX.out, ← HY.out]; exact hlt)).symm), below_drewN hbel _⟩
        · by_cases hgt : y < x
          · go_wp2
            go_quiet (fail)
            go_wp2
            go_quiet (fail)
            go_wp2
            go_ret
            exact ⟨ret_int (by rw [← HC.out]; exact (cmpL_gt (by have := HN.out; omega) (by have := HM.out; omega) (by rw [← HX.out, ← HY.out]; exact hgt)).symm), (by first | exact below_drewN hbel _ | exact below_drewN (below_drewN hbel _) _)⟩
          · go_wp2
            go_quiet (fail)
            go_wp2
            go_quiet (fail)
            go_wp2
            go_roundw
            case rel => exact ⟨j + 1, by omega, by omega, by go_num, (by first | exact below_drewN hbel _ | exact below_drewN (below_drewN hbel _) _), by rw [← HC.out]; exact (cmpL_eq (by have := HN.out; omega) (by have := HM.out; omega) (by rw [← HX.out, ← HY.out]; omega)).symm⟩
            case measure => simp [intOf]; omega
      · have hje : j = m := by omega
        subst hje
        go_wp2
        go_ret
        refine ⟨ret_int ?_, hbel⟩
        rw [← HC.out, cmpL_end (.inr HM.out) (by have := HN.out; omega) (by have := HM.out; omega), ← HN.out, ← HM.out]
        have h1 : ¬ n < j := by omega
        simp [h1, hja]
    · have hje : j = n := by omega
      subst hje
      by_cases hnm : j < m
      · go_wp2
        go_ret
        refine ⟨ret_int ?_, hbel⟩
        rw [← HC.out, cmpL_end (.inl HN.out) (by have := HN.out; omega) (by have := HM.out; omega), ← HN.out, ← HM.out]
        simp [hnm]
      · go_wp2
        go_ret
        refine ⟨ret_int ?_, hbel⟩
        rw [← HC.out, cmpL_end (.inl HN.out) (by have := HN.out; omega) (by have := HM.out; omega), ← HN.out, ← HM.out]
        have : j = m := by omega
        simp [this]

/-- the numbers of a text's nodes, as numbers -/
noncomputable def numsZ (L : Lay) (s : ByteArray) (q : Nat) : List Int := (nums L s q).map Int.ofNat
theorem numsZ_succ {L : Lay} (hok : L.Ok) {s : ByteArray} {q : Nat} (h : ∀ j, j < q + 1 → 0 < lenAt L.m L.tx s (pos L.m L.tx s j)) :
    numsZ L s (q + 1) = numsZ L s q ++ (List.range (L.k (pidx L.m L.tx s q))).map fun i => L.z (pidx L.m L.tx s q) i := by
  unfold numsZ
  rw [nums_succ, List.map_append]
  congr 1
  simp only [entNums, List.map_map]
  refine List.map_congr_left fun i hi => ?_
  have := hok.z _ (pidx_spec h (Nat.lt_succ_self q)).1 i (List.mem_range.1 hi)
  simp; omega

set_option maxRecDepth 100000 in
set_option maxHeartbeats 2000000 in
theorem refNodes_any (L : Lay) (s : ByteArray) (eao : Option Addr) (cap : Nat) (w : World) (h : EntriesIn w.heap.size w eao L.m L.eb L.eo L.tx L.la L.k L.lc L.lb L.lo L.z) (hok : L.Ok) (hs : s.size ≤ 24) :
    Calls Tryz.prog 80 #[.slice eao L.m cap, .string s] w fun e w' => ∃ q, Cut L.m L.tx s q ∧ Below w.heap.size w w' ∧
      ((pos L.m L.tx s q = s.size ∧ ∃ ao c b, e = .returned (.tuple #[.slice ao (numsZ L s q).length c, .bool true]) ∧ IntsL w'.heap.size w' ao (numsZ L s q) b 0) ∨
       (pos L.m L.tx s q ≠ s.size ∧ ∃ v, e = .returned (.tuple #[v, .bool false]))) := by
  have HIN : Hid (EntriesIn w.heap.size w eao L.m L.eb L.eo L.tx L.la L.k L.lc L.lb L.lo L.z) := h
  have hm := hok.m
  have HOK : Hid (L.Ok) := hok
  clear h hok
  obtain ⟨i0, hi0, hq0, hq1, hq2⟩ := info_parts infoInt
  go_enter Tryz.func80, Tryz.ntmps80
  go_wp2_with fail
  refine (refCut_any L.m _ _ _ _ L.tx L.la L.k L.lc L.lb L.lo L.z s _ (by omega) (by omega) HIN.out).mono ?_
  rintro e w2 ⟨q, hq, hb2, hor⟩
  have hq1' := pos_ge q hq.go
  have hq2' := pos_le L.m L.tx s q
  have HQ : Hid (Cut L.m L.tx s q) := hq
  have hqs : q ≤ 24 := by omega
  clear hq hq1' hq2'
  rcases hor with ⟨hp, v, rfl, hown⟩ | ⟨hp, rfl⟩
  · obtain ⟨vo, vc, gv, hv, hst⟩ := strs_of_own (by omega) hown
    have HST : Hid (StrsIn w2.heap.size w2 vo q gv 0 (piece L.m L.tx s)) := hst
    have HP : Hid (pos L.m L.tx s q = s.size) := hp
    clear hst hown hp
    subst hv
    go_wp2
    go_loopw [8, 9] (fun v iv wr => ∃ i : Nat, i ≤ q ∧ iv = .int .i64 i ∧ Below w2.heap.size w2 wr ∧ wr.ownsRow w2.heap.size 3 1 v (numsZ L s i).length ((numsZ L s i).map (Value.int .i64))) (fun _ iv _ => q - (intOf iv).toNat)
    case atStart => exact ⟨0, Nat.zero_le _, rfl, Below.refl _ _, World.ownsRow_nil _ _ _ _⟩
    case round =>
      obtain ⟨i, hi, rfl, hbel, hown⟩ := hrel
      have HOWN : Hid (wr.ownsRow w2.heap.size 3 1 _ (numsZ L s i).length ((numsZ L s i).map (Value.int .i64))) := hown
      clear hown
      have hsz := hbel.size
      by_cases hlt : i < q
      · have ha := HST.out.addr (by omega)
        subst ha
        have c0 := cellTo hbel (HST.out.cell i hlt) (HST.out.lt (by omega))
        simp only [Nat.zero_add] at c0
        obtain ⟨e, he⟩ : ∃ e, e = pidx L.m L.tx s i := ⟨_, rfl⟩
        have hpx := idx_spec (lenAt_text (HQ.out.go i hlt))
        have hem : e < L.m := by rw [he]; exact hpx.1
        have HEN : Hid (entI L.m L.tx (piece L.m L.tx s i) = (e : Int)) := by
          show _ = _
          rw [he]
          exact entI_text (lenAt_text (HQ.out.go i hlt))
        have HSUC : Hid (numsZ L s (i + 1) = numsZ L s i ++ (List.range (L.k e)).map fun j => L.z e j) := by
          show _ = _
          rw [he]
          exact numsZ_succ HOK.out (fun j hj => HQ.out.go j (by omega))
        have hke := HOK.out.k e hem
        have hnl := nums_len HOK.out i (fun j hj => HQ.out.go j (by omega))
        have hnz : (numsZ L s i).length ≤ 4 * i := by simp [numsZ]; omega
        clear hnl
        clear he hpx
        have hbw := below_then hb2 hbel
        have hea := HIN.out.addr (by omega)
        subst hea
        have hbb := HIN.out.lt (by omega)
        have cl := cellTo hbw (HIN.out.list e hem) hbb
        have HI : Hid (IntsIn w.heap.size w (L.la e) (L.k e) (L.lb e) (L.lo e) (L.z e)) := HIN.out.ints e hem
        rw [HI.out.addr (by omega)] at cl
        have HNW : Hid (∀ (j : Nat) (u : Value), ((List.range (L.k e)).map fun j => Value.int .i64 (L.z e j))[j]? = some u → wr.cell? ((⟨L.lb e, L.lo e, none⟩ : Addr).add j) = some u) := fun j u hj => by
          have hjk : j < L.k e := by
            by_cases hx : j < L.k e
            · exact hx
            · rw [List.getElem?_eq_none (by simp; omega)] at hj; cases hj
          rw [List.getElem?_map, List.getElem?_range hjk] at hj
          simp at hj
          subst hj
          rw [Addr.add_mid]
          exact cellTo hbw (HI.out.cell j hjk) (HI.out.lt (by omega))
        have HEI : Hid (EntriesIn wr.heap.size wr (some ⟨L.eb, L.eo, none⟩) L.m L.eb L.eo L.tx L.la L.k L.lc L.lb L.lo L.z) := (HIN.out.below hbw).mono hbw.size
        go_wp2_with (first
          | (go_at_call 75; refine (entry_any _ _ _ _ _ _ _ _ _ _ _ _ _ _ (by omega) HEI.out).mono ?_; rintro e _ ⟨rfl, rfl⟩; rw [HEN.out])
          | (at_builtin; refine wpList_append_lies _ (by rfl) (.tmp 29) (.tmp 34) 61 (by rfl) w2.heap.size 3 i0 (.int .i64 0) 1 8 Tryz.underlying61 hi0 hq0 hq1 hq2 rfl (by omega) _ _ _ (by rfl) HOWN.out ⟨L.lb e, L.lo e, none⟩ (L.k e) (L.lc e) ((List.range (L.k e)).map fun j => Value.int .i64 (L.z e j)) (by rfl) ?c0 HNW.out ?c2 (by omega) ?c3 ?c5 (by omega) wr.heap.size rfl ?_))
        case c0 => simp
        case c2 => intro u hu; simp at hu; obtain ⟨_, _, rfl⟩ := hu; rfl
        case c3 => unfold maxLen; omega
        case c5 => omega
        · intro gv2 cap2 w3 hown2 hgrow _ _
          have HBN : Hid (Below w2.heap.size w2 w3) := grown_below hbel hsz HOWN.out (Nat.le_refl _) hgrow
          have ho : w3.ownsRow w2.heap.size 3 1 (.slice (some ⟨gv2, 0, none⟩) ((numsZ L s i).length + L.k e) cap2) (numsZ L s (i + 1)).length ((numsZ L s (i + 1)).map (Value.int .i64)) := by
            rw [HSUC.out, List.length_append, List.map_append, List.map_map, List.length_map, List.length_range]
            exact hown2
          have HO2 : Hid _ := ho
          clear hown2 hgrow ho
          go_wp2
          go_roundw
          case rel => exact ⟨i + 1, by omega, by go_num, HBN.out, HO2.out⟩
          case measure => simp [intOf]; omega
      · have hie : i = q := by omega
        subst hie
        have hnl := nums_len HOK.out i HQ.out.go
        obtain ⟨ao', cap', b', hv, hnn⟩ := ints_of_own rfl (by simp [numsZ]; omega) HOWN.out
        have HNN : Hid (IntsL wr.heap.size wr ao' (numsZ L s i) b' 0) := hnn
        clear hnn
        subst hv
        go_wp2
        go_ret2
        exact ⟨i, HQ.out, below_then hb2 hbel, .inl ⟨HP.out, _, _, _, rfl, HNN.out⟩⟩
  · go_wp2
    go_loopw [8, 9] (fun v iv wr => iv = .int .i64 0 ∧ wr = w2) (fun _ _ _ => 0)
    case atStart => exact ⟨rfl, rfl⟩
    case round =>
      obtain ⟨rfl, rfl⟩ := hrel
      go_wp2
      go_ret2
      exact ⟨q, HQ.out, hb2, .inr ⟨hp, _, rfl⟩⟩

end Go.Proofs.YtpclldccjpncdaaGreat
