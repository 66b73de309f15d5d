import Derived.Test.YtpclldccjpncdabGreatM25
import Derived.Deep.RegionLaw
namespace Go.Proofs.YtpclldccjpncdabGreat
open Go.RowKit

set_option maxRecDepth 100000 in
set_option maxHeartbeats 2000000 in
theorem refNodesW_any (L : Lay) (s : ByteArray) (eao : Option Addr) (cap : Nat) (w : World) (h : EntriesIn w.heap.size w eao L.m L.eb L.eo L.tx L.la L.k L.lc L.lb L.lo L.z) (hm : L.m ≤ 48) (hok : ∀ i, i < L.m → 1 ≤ L.k i ∧ L.k i ≤ 4) (hs : s.size ≤ 24) :
    Calls Tryz.prog 75 #[.slice eao L.m cap, .string s] w fun e w' => ∃ q, Cut L.m L.tx s q ∧ Below w.heap.size w w' ∧
      ((pos L.m L.tx s q = s.size ∧ ∃ ao c, e = .returned (.tuple #[.slice ao (numsW L s q).length c, .bool true]) ∧ Hid (w'.ownsRow w.heap.size 3 1 (.slice ao (numsW L s q).length c) (numsW L s q).length ((numsW L s q).map (Value.int .i64)))) ∨
       (pos L.m L.tx s q ≠ s.size ∧ ∃ v, e = .returned (.tuple #[v, .bool false]))) := by
  have HIN : Hid (EntriesIn w.heap.size w eao L.m L.eb L.eo L.tx L.la L.k L.lc L.lb L.lo L.z) := h
  have HOK : Hid (∀ i, i < L.m → 1 ≤ L.k i ∧ L.k i ≤ 4) := hok
  clear h hok
  obtain ⟨i0, hi0, hq0, hq1, hq2⟩ := info_parts infoInt
  go_enter Tryz.func75, Tryz.ntmps75
  go_wp2_with fail
  refine (refCut_any L.m _ _ _ _ L.tx L.la L.k L.lc L.lb L.lo L.z s _ (by omega) (by omega) HIN.out).mono ?_
  rintro e w2 ⟨q, hq, hb2, hor⟩
  have hq1' := pos_ge q hq.go
  have hq2' := pos_le L.m L.tx s q
  have HQ : Hid (Cut L.m L.tx s q) := hq
  have hqs : q ≤ 24 := by omega
  clear hq hq1' hq2'
  rcases hor with ⟨hp, v, rfl, hown⟩ | ⟨hp, rfl⟩
  · obtain ⟨vo, vc, gv, hv, hst⟩ := strs_of_own (by omega) hown
    have HST : Hid (StrsIn w2.heap.size w2 vo q gv 0 (piece L.m L.tx s)) := hst
    have HP : Hid (pos L.m L.tx s q = s.size) := hp
    clear hst hown hp
    subst hv
    go_wp2
    go_loopw [8, 9] (fun v iv wr => ∃ i : Nat, i ≤ q ∧ iv = .int .i64 i ∧ Below w2.heap.size w2 wr ∧ wr.ownsRow w2.heap.size 3 1 v (numsW L s i).length ((numsW L s i).map (Value.int .i64))) (fun _ iv _ => q - (intOf iv).toNat)
    case atStart => exact ⟨0, Nat.zero_le _, rfl, Below.refl _ _, World.ownsRow_nil _ _ _ _⟩
    case round =>
      obtain ⟨i, hi, rfl, hbel, hown⟩ := hrel
      have HOWN : Hid (wr.ownsRow w2.heap.size 3 1 _ (numsW L s i).length ((numsW L s i).map (Value.int .i64))) := hown
      clear hown
      have hsz := hbel.size
      by_cases hlt : i < q
      · have ha := HST.out.addr (by omega)
        subst ha
        have c0 := cellTo hbel (HST.out.cell i hlt) (HST.out.lt (by omega))
        simp only [Nat.zero_add] at c0
        obtain ⟨e, he⟩ : ∃ e, e = pidx L.m L.tx s i := ⟨_, rfl⟩
        have hpx := idx_spec (lenAt_text (HQ.out.go i hlt))
        have hem : e < L.m := by rw [he]; exact hpx.1
        have HEN : Hid (entI L.m L.tx (piece L.m L.tx s i) = (e : Int)) := by
          show _ = _
          rw [he]
          exact entI_text (lenAt_text (HQ.out.go i hlt))
        have HSUC : Hid (numsW L s (i + 1) = numsW L s i ++ (List.range (L.k e)).map fun j => L.z e j) := by
          show _ = _
          rw [he]
          exact numsW_succ L s i
        have hke := HOK.out e hem
        have hnz : (numsW L s i).length ≤ 4 * i := numsW_len HOK.out i (fun j hj => HQ.out.go j (by omega))
        clear he hpx
        have hbw := below_then hb2 hbel
        have hea := HIN.out.addr (by omega)
        subst hea
        have hbb := HIN.out.lt (by omega)
        have cl := cellTo hbw (HIN.out.list e hem) hbb
        have HI : Hid (IntsIn w.heap.size w (L.la e) (L.k e) (L.lb e) (L.lo e) (L.z e)) := HIN.out.ints e hem
        rw [HI.out.addr (by omega)] at cl
        have HNW : Hid (∀ (j : Nat) (u : Value), ((List.range (L.k e)).map fun j => Value.int .i64 (L.z e j))[j]? = some u → wr.cell? ((⟨L.lb e, L.lo e, none⟩ : Addr).add j) = some u) := fun j u hj => by
          have hjk : j < L.k e := by
            by_cases hx : j < L.k e
            · exact hx
            · rw [List.getElem?_eq_none (by simp; omega)] at hj; cases hj
          rw [List.getElem?_map, List.getElem?_range hjk] at hj
          simp at hj
          subst hj
          rw [Addr.add_mid]
          exact cellTo hbw (HI.out.cell j hjk) (HI.out.lt (by omega))
        have HEI : Hid (EntriesIn wr.heap.size wr (some ⟨L.eb, L.eo, none⟩) L.m L.eb L.eo L.tx L.la L.k L.lc L.lb L.lo L.z) := (HIN.out.below hbw).mono hbw.size
        go_wp2_with (first
          | (go_at_call 70; refine (entry_any _ _ _ _ _ _ _ _ _ _ _ _ _ _ (by omega) HEI.out).mono ?_; rintro e _ ⟨rfl, rfl⟩; rw [HEN.out])
          | (at_builtin; refine wpList_append_lies _ (by rfl) (.tmp 29) (.tmp 34) 61 (by rfl) w2.heap.size 3 i0 (.int .i64 0) 1 8 Tryz.underlying61 hi0 hq0 hq1 hq2 rfl (by omega) _ _ _ (by rfl) HOWN.out ⟨L.lb e, L.lo e, none⟩ (L.k e) (L.lc e) ((List.range (L.k e)).map fun j => Value.int .i64 (L.z e j)) (by rfl) ?c0 HNW.out ?c2 (by omega) ?c3 ?c5 (by omega) wr.heap.size rfl ?_))
        case c0 => simp
        case c2 => intro u hu; simp at hu; obtain ⟨_, _, rfl⟩ := hu; rfl
        case c3 => unfold maxLen; omega
        case c5 => omega
        · intro gv2 cap2 w3 hown2 hgrow _ _
          have HBN : Hid (Below w2.heap.size w2 w3) := grown_below hbel hsz HOWN.out (Nat.le_refl _) hgrow
          have ho : w3.ownsRow w2.heap.size 3 1 (.slice (some ⟨gv2, 0, none⟩) ((numsW L s i).length + L.k e) cap2) (numsW L s (i + 1)).length ((numsW L s (i + 1)).map (Value.int .i64)) := by
            rw [HSUC.out, List.length_append, List.map_append, List.map_map, List.length_map, List.length_range]
            exact hown2
          have HO2 : Hid _ := ho
          clear hown2 hgrow ho
          go_wp2
          go_roundw
          case rel => exact ⟨i + 1, by omega, by go_num, HBN.out, HO2.out⟩
          case measure => simp [intOf]; omega
      · have hie : i = q := by omega
        subst hie
        obtain ⟨ao', cap', hv⟩ := ownC_shape HOWN.out
        subst hv
        have HNN : Hid (wr.ownsRow w.heap.size 3 1 (.slice ao' (numsW L s i).length cap') (numsW L s i).length ((numsW L s i).map (Value.int .i64))) := ownC_base HOWN.out hb2.size
        go_wp2
        go_ret2
        exact ⟨i, HQ.out, below_then hb2 hbel, .inl ⟨HP.out, _, _, rfl, HNN⟩⟩
  · go_wp2
    go_loopw [8, 9] (fun v iv wr => iv = .int .i64 0 ∧ wr = w2) (fun _ _ _ => 0)
    case atStart => exact ⟨rfl, rfl⟩
    case round =>
      obtain ⟨rfl, rfl⟩ := hrel
      go_wp2
      go_ret2
      exact ⟨q, HQ.out, hb2, .inr ⟨hp, _, rfl⟩⟩

end Go.Proofs.YtpclldccjpncdabGreat

namespace Go.Proofs.YtpclldccjpncdabGreat
open Go.RowKit

theorem ndL_len (s : ByteArray) : ∀ n, (ndL s n).length = n * 3
  | 0 => rfl
  | n + 1 => by rw [ndL_snoc, List.length_append, ndL_len s n]; simp; omega
theorem ndL_at (s : ByteArray) : ∀ n i, i < n → (ndL s n)[i * 3]? = some (.int .i64 (dp s i)) ∧ (ndL s n)[i * 3 + 1]? = some (.int .i64 (ds s i)) ∧ (ndL s n)[i * 3 + 2]? = some (.int .i64 (dt s i))
  | n + 1, i, h => by
    have hl := ndL_len s n
    rw [ndL_snoc]
    by_cases e : i = n
    · subst e
      refine ⟨?_, ?_, ?_⟩
      · rw [List.getElem?_append_right (by omega), hl, show i * 3 - i * 3 = 0 by omega]; rfl
      · rw [List.getElem?_append_right (by omega), hl, show i * 3 + 1 - i * 3 = 1 by omega]; rfl
      · rw [List.getElem?_append_right (by omega), hl, show i * 3 + 2 - i * 3 = 2 by omega]; rfl
    · rw [List.getElem?_append_left (by omega), List.getElem?_append_left (by omega), List.getElem?_append_left (by omega)]
      exact ndL_at s n i (by omega)
theorem entC_len (tx : Nat → ByteArray) (k : Nat → Nat) (vs : Nat → Option Addr) (cs : Nat → Nat) : ∀ n, (entC tx k vs cs n).length = n * 2
  | 0 => rfl
  | n + 1 => by rw [entC_snoc, List.length_append, entC_len tx k vs cs n]; simp; omega
theorem entC_at (tx : Nat → ByteArray) (k : Nat → Nat) (vs : Nat → Option Addr) (cs : Nat → Nat) : ∀ n i, i < n → (entC tx k vs cs n)[i * 2]? = some (.string (tx i)) ∧ (entC tx k vs cs n)[i * 2 + 1]? = some (.slice (vs i) (k i) (cs i))
  | n + 1, i, h => by
    have hl := entC_len tx k vs cs n
    rw [entC_snoc]
    by_cases e : i = n
    · subst e
      refine ⟨?_, ?_⟩
      · rw [List.getElem?_append_right (by omega), hl, show i * 2 - i * 2 = 0 by omega]; rfl
      · rw [List.getElem?_append_right (by omega), hl, show i * 2 + 1 - i * 2 = 1 by omega]; rfl
    · rw [List.getElem?_append_left (by omega), List.getElem?_append_left (by omega)]
      exact entC_at tx k vs cs n i (by omega)

def blk (a : Option Addr) : Nat := match a with | some a => a.block | none => 0
/-- the table that was read, as it lies in memory -/
def toldL (s : ByteArray) (no : Option Addr) (nc : Nat) (eo : Option Addr) (ec : Nat) (vs : Nat → Option Addr) (cs : Nat → Nat) : Lay :=
  { dL s with na := no, nc := nc, nb := blk no, ea := eo, ec := ec, eb := blk eo, la := vs, lc := cs, lb := fun i => blk (vs i) }
theorem toldL_err (s : ByteArray) (no : Option Addr) (nc : Nat) (eo : Option Addr) (ec : Nat) (vs : Nat → Option Addr) (cs : Nat → Nat) : (toldL s no nc eo ec vs cs).err = (dL s).err := rfl
theorem told_in {s : ByteArray} {B : Nat} {no : Option Addr} {nc : Nat} {eo : Option Addr} {ec : Nat} {vs : Nat → Option Addr} {cs : Nat → Nat} {w : World} (h : Told s B (.slice no (dn s) nc) (.slice eo (dm s) ec) vs cs w) : (toldL s no nc eo ec vs cs).In w.heap.size w := by
  have hn := bt_le s 0
  have hm := bt_le s (q0 s)
  refine ⟨?_, ?_⟩
  · obtain ⟨vo, vc, gv, hv, ha, hc⟩ := ownC_cells h.nodes
    cases hv
    have key : ∀ i, i < dn s → blk no = gv := fun i hi => by rw [(ha (by omega)).1]; rfl
    refine ⟨fun h0 => ?_, fun h0 => ?_, fun i hi => ?_, fun i hi => ?_, fun i hi => ?_, ?_⟩
    · show no = some ⟨blk no, 0, none⟩
      rw [(ha h0).1]; rfl
    · show blk no < _
      rw [(ha h0).1]; exact (ha h0).2.1
    · show w.cell? ⟨blk no, 0 + i * 3, none⟩ = _
      rw [key i hi, Nat.zero_add]
      have hi : i < dn s := hi
      exact hc _ _ (by omega) (ndL_at s _ i hi).1
    · show w.cell? ⟨blk no, 0 + i * 3 + 1, none⟩ = _
      rw [key i hi, Nat.zero_add]
      have hi : i < dn s := hi
      exact hc _ _ (by omega) (ndL_at s _ i hi).2.1
    · show w.cell? ⟨blk no, 0 + i * 3 + 2, none⟩ = _
      rw [key i hi, Nat.zero_add]
      have hi : i < dn s := hi
      exact hc _ _ (by omega) (ndL_at s _ i hi).2.2
    · show dn s * 24 ≤ _
      unfold dn; omega
  · obtain ⟨vo, vc, gv, hv, ha, hc⟩ := ownC_cells h.row
    cases hv
    have key : ∀ i, i < dm s → blk eo = gv := fun i hi => by rw [(ha (by omega)).1]; rfl
    refine ⟨fun h0 => ?_, fun h0 => ?_, fun i hi => ?_, fun i hi => ?_, fun i hi => ?_, ?_⟩
    · show eo = some ⟨blk eo, 0, none⟩
      rw [(ha h0).1]; rfl
    · show blk eo < _
      rw [(ha h0).1]; exact (ha h0).2.1
    · show w.cell? ⟨blk eo, 0 + i * 2, none⟩ = _
      rw [key i hi, Nat.zero_add]
      have hi : i < dm s := hi
      exact hc _ _ (by omega) (entC_at _ _ _ _ _ i hi).1
    · show w.cell? ⟨blk eo, 0 + i * 2 + 1, none⟩ = _
      rw [key i hi, Nat.zero_add]
      have hi : i < dm s := hi
      exact hc _ _ (by omega) (entC_at _ _ _ _ _ i hi).2
    · have hi : i < dm s := hi
      have hk := bt_le s (dkp s i)
      obtain ⟨vo', vc', gv', hv', ha', hc'⟩ := ownC_cells (h.ents.own i hi)
      injection hv' with hv1 hv2 hv3
      refine ⟨fun h0 => ?_, fun h0 => ?_, fun j hj => ?_, ?_⟩
      · show vs i = some ⟨blk (vs i), 0, none⟩
        rw [hv1, (ha' h0).1]; rfl
      · show blk (vs i) < _
        rw [hv1, (ha' h0).1]; exact (ha' h0).2.1
      · have hj : j < dk s i := hj
        show w.cell? ⟨blk (vs i), 0 + j, none⟩ = _
        rw [hv1, (ha' (by omega)).1, Nat.zero_add]
        exact hc' j _ (by omega) (by simp [hj]; rfl)
      · show dk s i * 8 ≤ _
        unfold dk; omega
    · show dm s * 40 ≤ _
      unfold dm; omega

/-- what Decode answers -/
def DecAns (s : ByteArray) (w : World) (e : Ending) (w' : World) : Prop := Below w.heap.size w w' ∧
  ((decE s = 0 ∧ ∃ no nc eo ec vs cs, e = .returned (.tuple #[.agg #[.slice no (dn s) nc, .slice eo (dm s) ec], .int .i64 0]) ∧ Told s w.heap.size (.slice no (dn s) nc) (.slice eo (dm s) ec) vs cs w') ∨
   (decE s ≠ 0 ∧ e = .returned (.tuple #[.agg #[.slice none 0 0, .slice none 0 0], .int .i64 (decE s)])))

set_option maxRecDepth 100000 in
set_option maxHeartbeats 1000000 in
theorem codeDecode_any (s : ByteArray) (w : World) (hs : s.size ≤ 140737488351232) : Calls Tryz.prog 47 #[.string s] w (DecAns s w) := by
  have HR : Hid ((w.alloc (.cells #[.slice none 0 0, .slice none 0 0] 28)).rowIs w.heap.size 28 2 (fun i => #[Value.slice none 0 0, .slice none 0 0].getD i undef)) := row_new _ _ _ 2 rfl
  have HT : Hid (∀ w : World, Calls Tryz.prog 77 #[.string s] w fun e w' => Below w.heap.size w w' ∧
      ((good s ∧ ∃ vn ve vs cs, e = .returned (.tuple #[.agg #[vn, ve], .bool true]) ∧ Told s w.heap.size vn ve vs cs w') ∨
       (¬ good s ∧ e = .returned (.tuple #[.agg #[.slice none 0 0, .slice none 0 0], .bool false])))) := fun w => readTable_any s w hs
  go_enter Tryz.func47, Tryz.ntmps47
  go_wp2_with fail
  refine (HT.out _).mono ?_
  rintro e w1 ⟨hb1, ⟨hgood, vn, ve, vs, cs, rfl, htold⟩ | ⟨hbad, rfl⟩⟩
  · simp only [size_one] at htold
    obtain ⟨no, nc, hvn⟩ := ownC_shape htold.nodes
    subst hvn
    obtain ⟨eo, ec, hve⟩ := ownC_shape htold.row
    subst hve
    have hin := told_in htold
    have HE : Hid (decE s = (dL s).err) := decE_good hgood
    have HTD : Hid (Told s (w.heap.size + 1) (.slice no (dn s) nc) (.slice eo (dm s) ec) vs cs w1) := htold
    have HV : Hid (∀ wx, Below w1.heap.size w1 wx → Calls Tryz.prog 36 #[.agg #[.slice no (dn s) nc, .slice eo (dm s) ec]] wx fun e w' => e = .returned (.int .i64 (decE s)) ∧ Below wx.heap.size wx w') := fun wx hbx => by
      rw [HE.out]
      exact tableValid_any (toldL s no nc eo ec vs cs) wx (hin.later hbx)
    obtain ⟨dnn, hdn⟩ : ∃ x, x = dn s := ⟨_, rfl⟩
    obtain ⟨dmm, hdm⟩ : ∃ x, x = dm s := ⟨_, rfl⟩
    obtain ⟨er, her⟩ : ∃ x, x = decE s := ⟨_, rfl⟩
    have HR1 : Hid (w1.rowIs w.heap.size 28 2 (fun i => #[Value.slice none 0 0, .slice none 0 0].getD i undef)) := HR.out.of_block (hb1.block _ (by simp))
    have HB1 : Hid (Below w.heap.size w w1) := below_then (below_one _) hb1
    have hz1 : w.heap.size < w1.heap.size := by have := hb1.size; simp at this; omega
    have HDN : Hid (dnn = dn s) := hdn
    have HDM : Hid (dmm = dm s) := hdm
    have HER : Hid (er = decE s) := her
    rw [← hdn, ← hdm, ← her] at HV
    rw [← hdn, ← hdm] at HTD
    rw [← hdn, ← hdm]
    clear htold hin HT hb1 HR hdn hdm her hgood HE
    go_wp2_with fail
    refine (HV.out _ (below_one _)).mono ?_
    rintro e w2 ⟨rfl, hb2⟩
    have hz2 : w1.heap.size < w2.heap.size := by have := hb2.size; simp at this; omega
    have hr2 : w2.rowIs w.heap.size 28 2 (fun i => #[Value.slice none 0 0, .slice none 0 0].getD i undef) := (HR1.out.alloc _).of_block (hb2.block _ (by simp; omega))
    have HR2 : Hid (w2.rowIs w.heap.size 28 2 (fun i => #[Value.slice none 0 0, .slice none 0 0].getD i undef)) := hr2
    have ht2 : w2.rowIs w1.heap.size 28 2 (fun i => #[Value.slice no dnn nc, .slice eo dmm ec].getD i undef) := (row_new w1 #[Value.slice no dnn nc, .slice eo dmm ec] 28 2 rfl).of_block (hb2.block _ (by simp))
    have r0 := hr2.cell (i := 0) (by omega)
    have r1 := hr2.cell (i := 1) (by omega)
    have f0 := hr2.frozen 0
    have f1 := hr2.frozen 1
    have t0 := ht2.cell (i := 0) (by omega)
    have t1 := ht2.cell (i := 1) (by omega)
    have HB2 : Hid (Below w.heap.size w w2) := below_then (below_then HB1.out (below_one _)) hb2
    have HT2 : Hid (Told s (w.heap.size + 1) (.slice no dnn nc) (.slice eo dmm ec) vs cs w2) := HTD.out.below (below_then (below_one _) hb2)
    clear hr2 ht2 hb2 HV
    by_cases h0 : er = 0
    · have HE0 : Hid (decE s = 0) := by show _ = _; rw [← HER.out]; exact h0
      clear HER
      subst h0
      go_wp2
      refine bodyPost_ret (resC2 rfl _ w.heap.size _ _ (by rfl) ((HR2.out.set 0 (.slice no dnn nc)).set 1 (.slice eo dmm ec)) Tryz.underlying28 rfl sizeTabC) rfl ?_
      have hO : OnlyRow w.heap.size w2 ((w2.setCell ⟨w.heap.size, 0, none⟩ (.slice no dnn nc)).setCell ⟨w.heap.size, 1, none⟩ (.slice eo dmm ec)) := (OnlyRow.setCell _ _ _ _).trans (OnlyRow.setCell _ _ _ _)
      refine ⟨hO.below HB2.out (Nat.le_refl _), .inl ⟨HE0.out, no, nc, eo, ec, vs, cs, ?_, ?_⟩⟩
      · rw [← HDN.out, ← HDM.out]; rfl
      · rw [← HDN.out, ← HDM.out]; exact (HT2.out.only hO (by omega)).base (by omega)
    · have h0' : (er == 0) = false := by simpa using h0
      have HE0 : Hid (decE s ≠ 0) := by show _ ≠ _; rw [← HER.out]; exact h0
      go_wp2
      refine bodyPost_ret (resC2 rfl _ w.heap.size _ _ (by rfl) ((HR2.out.set 0 (.slice none 0 0)).set 1 (.slice none 0 0)) Tryz.underlying28 rfl sizeTabC) rfl ?_
      have hO : OnlyRow w.heap.size w2 ((w2.setCell ⟨w.heap.size, 0, none⟩ (.slice none 0 0)).setCell ⟨w.heap.size, 1, none⟩ (.slice none 0 0)) := (OnlyRow.setCell _ _ _ _).trans (OnlyRow.setCell _ _ _ _)
      refine ⟨hO.below HB2.out (Nat.le_refl _), .inr ⟨HE0.out, ?_⟩⟩
      rw [← HER.out]; rfl
  · have HB : Hid (decE s = 7) := decE_bad hbad
    have HR1 : Hid (w1.rowIs w.heap.size 28 2 (fun i => #[Value.slice none 0 0, .slice none 0 0].getD i undef)) := HR.out.of_block (hb1.block _ (by simp))
    have HB1 : Hid (Below w.heap.size w w1) := below_then (below_one _) hb1
    have hz1 : w.heap.size < w1.heap.size := by have := hb1.size; simp at this; omega
    have r0 := HR1.out.cell (i := 0) (by omega)
    have r1 := HR1.out.cell (i := 1) (by omega)
    have f0 := HR1.out.frozen 0
    have f1 := HR1.out.frozen 1
    clear hbad hb1 HT HR
    go_wp2
    refine bodyPost_ret (resC2 rfl _ w.heap.size _ _ (by rfl) (((HR1.out.set 0 (.slice none 0 0)).set 1 (.slice none 0 0)).alloc _) Tryz.underlying28 rfl sizeTabC) rfl ?_
    have hO : OnlyRow w.heap.size w1 ((w1.setCell ⟨w.heap.size, 0, none⟩ (.slice none 0 0)).setCell ⟨w.heap.size, 1, none⟩ (.slice none 0 0)) := (OnlyRow.setCell _ _ _ _).trans (OnlyRow.setCell _ _ _ _)
    refine ⟨below_then (hO.below HB1.out (Nat.le_refl _)) (below_one _), .inr ⟨by rw [HB.out]; omega, ?_⟩⟩
    rw [HB.out]; rfl

theorem decode_any (s : ByteArray) (w : World) (hs : s.size ≤ 140737488351232) : Calls Tryz.prog 25 #[.string s] w (DecAns s w) := by
  have HC : Hid (Calls Tryz.prog 47 #[.string s] (w.alloc (.cells #[.slice none 0 0, .slice none 0 0] 28)) (DecAns s (w.alloc (.cells #[.slice none 0 0, .slice none 0 0] 28)))) := codeDecode_any s _ hs
  have HR : Hid ((w.alloc (.cells #[.slice none 0 0, .slice none 0 0] 28)).rowIs w.heap.size 28 2 (fun i => #[Value.slice none 0 0, .slice none 0 0].getD i undef)) := row_new _ _ _ 2 rfl
  go_enter Tryz.func25, Tryz.ntmps25
  go_wp2_with fail
  refine Calls.mono HC.out ?_
  rintro e w1 ⟨hb1, hor⟩
  have HR1 : Hid (w1.rowIs w.heap.size 28 2 (fun i => #[Value.slice none 0 0, .slice none 0 0].getD i undef)) := HR.out.of_block (hb1.block _ (by simp))
  have HB1 : Hid (Below w.heap.size w w1) := below_then (below_one _) hb1
  have r0 := HR1.out.cell (i := 0) (by omega)
  have r1 := HR1.out.cell (i := 1) (by omega)
  have f0 := HR1.out.frozen 0
  have f1 := HR1.out.frozen 1
  clear hb1 HC HR
  rcases hor with ⟨hE, no, nc, eo, ec, vs, cs, rfl, htold⟩ | ⟨hE, rfl⟩
  · simp only [size_one] at htold
    have HTD : Hid (Told s (w.heap.size + 1) (.slice no (dn s) nc) (.slice eo (dm s) ec) vs cs w1) := htold
    have HE : Hid (decE s = 0) := hE
    obtain ⟨dnn, hdn⟩ : ∃ x, x = dn s := ⟨_, rfl⟩
    obtain ⟨dmm, hdm⟩ : ∃ x, x = dm s := ⟨_, rfl⟩
    have HDN : Hid (dnn = dn s) := hdn
    have HDM : Hid (dmm = dm s) := hdm
    rw [← hdn, ← hdm]
    rw [← hdn, ← hdm] at HTD
    clear htold hE hdn hdm
    go_wp2
    refine bodyPost_ret (resC2 rfl _ w.heap.size _ _ (by rfl) ((HR1.out.set 0 (.slice no dnn nc)).set 1 (.slice eo dmm ec)) Tryz.underlying28 rfl sizeTabC) rfl ?_
    have hO : OnlyRow w.heap.size w1 ((w1.setCell ⟨w.heap.size, 0, none⟩ (.slice no dnn nc)).setCell ⟨w.heap.size, 1, none⟩ (.slice eo dmm ec)) := (OnlyRow.setCell _ _ _ _).trans (OnlyRow.setCell _ _ _ _)
    refine ⟨hO.below HB1.out (Nat.le_refl _), .inl ⟨HE.out, no, nc, eo, ec, vs, cs, ?_, ?_⟩⟩
    · rw [← HDN.out, ← HDM.out]; rfl
    · rw [← HDN.out, ← HDM.out]; exact (HTD.out.only hO (by omega)).base (by omega)
  · obtain ⟨er, her⟩ : ∃ x, x = decE s := ⟨_, rfl⟩
    have HER : Hid (er = decE s) := her
    have HE : Hid (decE s ≠ 0) := hE
    rw [← her]
    clear her hE
    go_wp2
    refine bodyPost_ret (resC2 rfl _ w.heap.size _ _ (by rfl) ((HR1.out.set 0 (.slice none 0 0)).set 1 (.slice none 0 0)) Tryz.underlying28 rfl sizeTabC) rfl ?_
    have hO : OnlyRow w.heap.size w1 ((w1.setCell ⟨w.heap.size, 0, none⟩ (.slice none 0 0)).setCell ⟨w.heap.size, 1, none⟩ (.slice none 0 0)) := (OnlyRow.setCell _ _ _ _).trans (OnlyRow.setCell _ _ _ _)
    refine ⟨hO.below HB1.out (Nat.le_refl _), .inr ⟨HE.out, ?_⟩⟩
    rw [← HER.out]; rfl

end Go.Proofs.YtpclldccjpncdabGreat

namespace Go.Proofs.YtpclldccjpncdabGreat
open Go.RowKit

theorem numsW_of {es : List En} {L : Lay} (hm : L.m = es.length) (htx : L.tx = txE es) (hk : L.k = kE es) (hz : L.z = zE es) (s : ByteArray) : ∀ q, (∀ j, j < q → 0 < lenAt es.length (txE es) s (pos es.length (txE es) s j)) → numsW L s q = numsQ es s q
  | 0, _ => rfl
  | q + 1, h => by
    have ih := numsW_of hm htx hk hz s q fun j hj => h j (by omega)
    have ht := lenAt_text (h q (by omega))
    have hq : numsQ es s (q + 1) = numsQ es s q ++ look es (piece es.length (txE es) s q) := by simp [numsQ, List.range_succ]
    rw [numsW_succ, ih, hq, hm, htx, hk, hz]
    congr 1
    rw [piece, look_idx ht]
    show (List.range (es.getD (pidx es.length (txE es) s q) default).zs.length).map (fun i => (es.getD (pidx es.length (txE es) s q) default).zs.getD i 0) = _
    rw [range_getD]
    rfl
/-- the work's entries, to read -/
theorem WkA.entries {B g : Nat} {K : Wk} {la ea sa : Option Addr} {lc ec sc : Nat} {vs : Nat → Option Addr} {cs : Nat → Nat} {w : World} (h : WkA B g K la ea sa lc ec sc vs cs w) (hm : K.es.length ≤ 1000) (hz : ∀ e ∈ K.es, e.zs.length ≤ 1000) : ∃ eb, EntriesIn w.heap.size w ea K.es.length eb 0 (txE K.es) vs (kE K.es) cs (fun i => aB (vs i)) (fun _ => 0) (zE K.es) := by
  obtain ⟨vo, vc, gv, hv, ha, hc⟩ := ownC_cells h.ents
  injection hv with hv1 _ _
  refine ⟨gv, fun h0 => by rw [hv1]; exact (ha h0).1, fun h0 => (ha h0).2.1, fun i hi => ?_, fun i hi => ?_, fun i hi => ?_, by omega⟩
  · rw [Nat.zero_add]
    exact hc _ _ (by omega) (entC_at _ _ _ _ _ i hi).1
  · rw [Nat.zero_add]
    exact hc _ _ (by omega) (entC_at _ _ _ _ _ i hi).2
  · obtain ⟨vo', vc', gv', hv', ha', hc'⟩ := ownC_cells (h.ints i hi)
    injection hv' with hv1' _ _
    have hl := hz (K.es.getD i default) (by rw [getD_at hi]; exact List.getElem_mem hi)
    refine ⟨fun h0 => ?_, fun h0 => ?_, fun j hj => ?_, ?_⟩
    · have := (ha' h0).1
      rw [hv1', this]; rfl
    · have := ha' h0
      rw [hv1', this.1]; exact this.2.1
    · have hj' : j < (K.es.getD i default).zs.length := hj
      have := (ha' (by omega)).1
      rw [hv1', this, Nat.zero_add]
      refine hc' j _ (by omega) ?_
      unfold intsC zE
      rw [List.getElem?_map, List.getElem?_eq_getElem hj', List.getD_eq_getElem?_getD (l := (K.es.getD i default).zs), List.getElem?_eq_getElem hj']
      rfl
    · show kE K.es i * 8 ≤ _
      have : kE K.es i ≤ 1000 := hl
      omega
/-- what nodes tells -/
def NodR (es : List En) (s : ByteArray) (B : Nat) (w' : World) (v : Value) (b : Bool) : Prop :=
  (∃ l, numsE es s = some l ∧ b = true ∧ w'.ownsRow B 3 1 v l.length (l.map (Value.int .i64))) ∨ (numsE es s = none ∧ b = false)
theorem nodV_of {B g : Nat} {K : Wk} {la ea sa : Option Addr} {lc ec sc : Nat} {vs : Nat → Option Addr} {cs : Nat → Nat} {w : World} (hK : GoodK K) (h : WkA B g K la ea sa lc ec sc vs cs w) (s : ByteArray) (hs : s.size ≤ 24) :
    Calls Tryz.prog 75 #[.slice ea K.es.length ec, .string s] w fun e w' => ∃ (v : Value) (b : Bool), e = .returned (.tuple #[v, .bool b]) ∧ Below w.heap.size w w' ∧ Hid (NodR K.es s w.heap.size w' v b) := by
  obtain ⟨eb, hE⟩ := h.entries (by have := hK.es; omega) (fun e he => by have := (hK.ent e he).2.1.2; omega)
  have hc := refNodesW_any { n := 0, m := K.es.length, na := none, ea := ea, nc := 0, ec := ec, nb := 0, no := 0, eb := eb, eo := 0, p := fun _ => 0, s := fun _ => 0, t := fun _ => 0, tx := txE K.es, la := vs, k := kE K.es, lc := cs, lb := fun i => aB (vs i), lo := fun _ => 0, z := zE K.es } s ea ec w hE hK.es hK.kE hs
  refine hc.mono ?_
  rintro e w' ⟨q, hq, hb, hor⟩
  have hq' : Cut K.es.length (txE K.es) s q := hq
  rcases hor with ⟨hp, ao, c, he, hown⟩ | ⟨hp, v, he⟩
  · rw [numsW_of (es := K.es) rfl rfl rfl rfl s q hq'.go] at he hown
    exact ⟨_, true, he, hb, .inl ⟨_, numsE_some hq' hp, rfl, hown.out⟩⟩
  · exact ⟨v, false, he, hb, .inr ⟨numsE_none hq' hp, rfl⟩⟩
theorem own_pre {w : World} {base : Nat} {a : Option Addr} {n c : Nat} {l : List Int} (ho : w.ownsRow base 3 1 (.slice a n c) n (l.map (Value.int .i64))) (hn : n = l.length) (h0 : 0 < n) : w.ownsRow base 3 1 (.slice a (n - 1) c) (n - 1) (intsC l.dropLast) := by
  obtain ⟨h1, h2⟩ := ho
  rcases h2 with ⟨_, h⟩ | ⟨g, cap, cur, hv, hb, hh, hnc, hcm, hcs, ht⟩
  · omega
  · injection hv with hv1 hv2 hv3
    refine ⟨by unfold intsC; rw [List.length_map, List.length_dropLast]; omega, .inr ⟨g, cap, cur, ?_, hb, hh, by omega, hcm, hcs, ?_⟩⟩
    · rw [hv1, hv3]
    · have e : intsC l.dropLast = (l.map (Value.int .i64)).take (n - 1) := by
        unfold intsC
        rw [List.dropLast_eq_take, List.map_take, hn]
      rw [e, ← ht, List.take_take]
      congr 1
      omega
def Wr (B g : Nat) (K : Wk) (w : World) : Prop := ∃ (la ea sa : Option Addr) (lc ec sc : Nat) (vs : Nat → Option Addr) (cs : Nat → Nat), WkA B g K la ea sa lc ec sc vs cs w
def RefR (B g : Nat) (K : Wk) (r : Rl) (er : Int) (w' : World) : Prop := match ruleE repE K r with
  | .error x => er = x
  | .ok K' => er = 0 ∧ Wr B g K' w'
/-- two cells of the work are written: stem and anchor -/
theorem WkA.reset {B g : Nat} {K : Wk} {la ea sa : Option Addr} {lc ec sc : Nat} {vs : Nat → Option Addr} {cs : Nat → Nat} {w : World} (h : WkA B g K la ea sa lc ec sc vs cs w) {sa' : Option Addr} {sc' : Nat} {st : List Int} {an : Int} (hs : w.ownsRow B 3 1 (.slice sa' st.length sc') st.length (intsC st)) :
    WkA B g { K with stem := st, anchor := an } la ea sa' lc ec sc' vs cs ((w.setCell ⟨g, 2, none⟩ (.slice sa' st.length sc')).setCell ⟨g, 3, none⟩ (.int .i64 an)) := by
  have hO : OnlyRow g w ((w.setCell ⟨g, 2, none⟩ (.slice sa' st.length sc')).setCell ⟨g, 3, none⟩ (.int .i64 an)) := (OnlyRow.setCell _ _ _ _).trans (OnlyRow.setCell _ _ _ _)
  refine ⟨((h.row.set 2 _).set 3 _).congr fun j hj => ?_, h.base, own_only hO h.list (own_far h.row h.list (by decide)), own_only hO h.ents (own_far h.row h.ents (by decide)), fun j hj => own_only hO (h.ints j hj) (own_far h.row (h.ints j hj) (by decide)), own_only hO hs (own_far h.row hs (by decide))⟩
  have : j = 0 ∨ j = 1 ∨ j = 2 ∨ j = 3 ∨ j = 4 := by omega
  rcases this with rfl | rfl | rfl | rfl | rfl <;> rfl

set_option maxRecDepth 100000 in
set_option maxHeartbeats 2000000 in
theorem put_keep (B g : Nat) (K : Wk) (la ea sa : Option Addr) (lc ec sc : Nat) (vs : Nat → Option Addr) (cs : Nat → Nat) (w : World) (a : Nat) (lev : Int) (h : WkA B g K la ea sa lc ec sc vs cs w) (ha : a ≤ K.ls.length) (h0 : 0 < K.ls.length) (hn : K.ls.length ≤ 1000) (hnm : 0 ≤ K.names ∧ K.names ≤ 1000) :
    Calls Tryz.prog 93 #[.pointer (some ⟨g, 0, none⟩), .int .i64 (a : Nat), .int .i64 lev] w fun e w' => ∃ (v : Value) (la' : Option Addr) (lc' : Nat), e = .returned v ∧ Hid (WkA B g (putS K a lev) la' ea sa lc' ec sc vs cs w') ∧ Below B w w' ∧ Hid (KeepH g w w') := by
  obtain ⟨i0, hi0, hq0, hq1, hq2⟩ := info_parts infoSpC
  have HK : Hid (WkA B g K la ea sa lc ec sc vs cs w) := h
  obtain ⟨⟨c0, c1, c2, c3, c4⟩, f0, f1, f2, f3, f4⟩ := row5K h.row
  have hcap := ownC_cap h.list
  obtain ⟨vo, vc, gv, hv, hva, hvc⟩ := ownC_cells h.list
  have hvo := hva h0
  injection hv with hv1 _ hv3
  obtain ⟨hvo1, hvo2, hvo3⟩ := hvo
  rw [← hv1] at hvo1
  subst hvo1
  obtain ⟨n, hnn⟩ : ∃ n, n = K.ls.length := ⟨_, rfl⟩
  obtain ⟨nm, hnme⟩ : ∃ n, n = K.names := ⟨_, rfl⟩
  rw [← hnn] at c0 ha h0 hn hcap
  rw [← hnme] at c4 hnm
  have hgl : g < w.heap.size := h.row.lt
  have HN1 : Hid (∀ (j : Nat) (u : Value), (spsC (K.ls.take a))[j]? = some u → w.cell? ((⟨gv, 0, none⟩ : Addr).add j) = some u) := fun j u hu => by
    rw [spsC_take, List.getElem?_take] at hu
    split at hu
    · have hj : j < K.ls.length * 6 := by omega
      have := hvc j u hj hu
      by_cases hj0 : j = 0
      · subst hj0
        simpa [Addr.add] using this
      · simpa [Addr.add, hj0] using this
    · cases hu
  have HL1 : Hid ((spsC (K.ls.take a)).length = a * 6) := by show _ = _; rw [spsC_len, List.length_take, Nat.min_eq_left (by omega)]
  clear h hva hv1 hv3
  have HVC : Hid (∀ c u, c < K.ls.length * 6 → (spsC K.ls)[c]? = some u → w.cell? ⟨gv, c, none⟩ = some u) := hvc
  clear hvc
  have HNN : Hid (n = K.ls.length ∧ nm = K.names) := ⟨hnn, hnme⟩
  clear hnn hnme
  go_enter Tryz.func93, Tryz.ntmps93
  go_wp2_with (first
    | (at_builtin; refine wpList_append_all _ (by rfl) (.tmp 7) (.tmp 13) 125 (by rfl) w.heap.size 129 i0 (.agg #[.int .i64 0, .int .i64 0, .bool false, .int .i64 0, .int .i64 0, .int .i64 0]) 6 48 Tryz.underlying125 hi0 hq0 hq1 hq2 rfl (by omega) _ 0 [] (by rfl) (World.ownsRow_nil _ _ _ _) _ ⟨gv, 0, none⟩ a lc (spsC (K.ls.take a)) (by rfl) ?a0 HL1.out HN1.out ?a1 ?a2 ?a3 (Nat.le_refl _) ?_))
  case a1 => exact spsC_one _
  case a2 => unfold maxLen; omega
  case a3 => omega
  · intro v1 w1 hown1 hgrow1
    obtain ⟨l1, lc1, hl1⟩ := ownC_shape hown1
    subst hl1
    have HB1 : Hid (Below w.heap.size w w1) := (Below.refl w.heap.size w).grown hgrow1 (Nat.le_refl _) (fun _ hr => by simp [Value.ownBlock] at hr)
    have HO1 : Hid (w1.ownsRow w.heap.size 129 6 (.slice l1 a lc1) a (spsC (K.ls.take a))) := hown1
    have hz1 := HB1.out.size
    have e0 := cellTo HB1.out c0 hgl
    have e4 := cellTo HB1.out c4 hgl
    clear hown1 hgrow1
    go_wp2_with (first
      | (at_builtin; refine wpList_append_lies _ (by rfl) (.tmp 15) (.tmp 22) 125 (by rfl) w.heap.size 129 i0 (.agg #[.int .i64 0, .int .i64 0, .bool false, .int .i64 0, .int .i64 0, .int .i64 0]) 6 48 Tryz.underlying125 hi0 hq0 hq1 hq2 rfl (by omega) _ a _ (by rfl) (HO1.out.alloc _) ⟨w1.heap.size, 0, none⟩ 1 1 [.int .i64 nm, .int .i64 lev, .bool false, .int .i64 0, .int .i64 0, .int .i64 0] (by rfl) (by rfl) ?b1 ?b2 (by omega) ?b3 ?b5 ?b4 (w1.heap.size + 1) (by simp) ?_))
    case b1 => exact hB6 _ rfl _ _ _ _ _ _ _
    case b2 => intro u hu; simp at hu; rcases hu with rfl | rfl | rfl | rfl <;> rfl
    case b3 => unfold maxLen; omega
    case b5 => omega
    case b4 => simp; omega
    · intro g2 lc2 w2 hown2 hgrow2 _ _
      have HB2 : Hid (Below w.heap.size w w2) := ownC_grown_below (below_then HB1.out (below_one _)) (by simp; omega) (HO1.out.alloc _) (Nat.le_refl _) hgrow2
      have HO2 : Hid (w2.ownsRow w.heap.size 129 6 (.slice (some ⟨g2, 0, none⟩) (a + 1) lc2) (a + 1) (spsC (K.ls.take a ++ [Sp.mk nm lev false 0 0 0]))) := by
        show World.ownsRow _ _ _ _ _ _ _
        rw [spsC_app]
        exact hown2
      have hz2 := HB2.out.size
      have d0 := cellTo HB2.out c0 hgl
      clear hown2 hgrow2 e0 e4
      have HN2 : Hid (∀ (j : Nat) (u : Value), (spsC (K.ls.drop a))[j]? = some u → w2.cell? ((⟨gv, a * 6, none⟩ : Addr).add j) = some u) := fun j u hu => by
        rw [spsC_drop, List.getElem?_drop] at hu
        have hj : a * 6 + j < K.ls.length * 6 := by rw [← spsC_len]; exact (List.getElem?_eq_some_iff.1 hu).1
        have := cellTo HB2.out (HVC.out _ u hj hu) hvo2
        by_cases hj0 : j = 0
        · subst hj0
          simpa [Addr.add] using this
        · simpa [Addr.add, hj0] using this
      have HL2 : Hid ((spsC (K.ls.drop a)).length = (n - a) * 6) := by show _ = _; rw [spsC_len, List.length_drop, HNN.out.1]
      go_wp2_with (first
        | (at_builtin; refine wpList_append_all _ (by rfl) (.tmp 24) (.tmp 30) 125 (by rfl) w.heap.size 129 i0 (.agg #[.int .i64 0, .int .i64 0, .bool false, .int .i64 0, .int .i64 0, .int .i64 0]) 6 48 Tryz.underlying125 hi0 hq0 hq1 hq2 rfl (by omega) _ (a + 1) _ (by rfl) HO2.out _ ⟨gv, a * 6, none⟩ (n - a) _ (spsC (K.ls.drop a)) (by rfl) ?x0 HL2.out HN2.out ?x1 ?x2 ?x3 ?x4 ?_))
      any_goals first
        | (exact spsC_one _)
        | (unfold maxLen; omega)
        | omega
        | (intro _; rfl)
      all_goals
        intro v3 w3 hown3 hgrow3
        have hlen3 : a + 1 + (n - a) = (putS K a lev).ls.length := by
          show _ = (K.ls.take a ++ [Sp.mk K.names lev false 0 0 0] ++ K.ls.drop a).length
          rw [List.length_append, List.length_append, List.length_take, List.length_drop, ← HNN.out.1, Nat.min_eq_left ha]
          rfl
        have HO3 : Hid (w3.ownsRow w.heap.size 129 6 v3 (putS K a lev).ls.length (spsC (putS K a lev).ls)) := by
          show World.ownsRow _ _ _ _ _ _ _
          rw [← hlen3]
          show World.ownsRow _ _ _ _ _ _ (spsC (K.ls.take a ++ [Sp.mk K.names lev false 0 0 0] ++ K.ls.drop a))
          rw [spsC_app, ← HNN.out.2]
          exact hown3
        obtain ⟨n3, hn3⟩ : ∃ x, x = (putS K a lev).ls.length := ⟨_, rfl⟩
        rw [← hn3] at HO3
        have HN3 : Hid (n3 = (putS K a lev).ls.length) := hn3
        obtain ⟨l3, lc3, hl3⟩ := ownC_shape HO3.out
        subst hl3
        have HB3 : Hid (Below w.heap.size w w3) := ownC_grown_below HB2.out hz2 HO2.out (Nat.le_refl _) hgrow3
        have HRW : Hid (w3.rowIs g 127 5 (wkF (some ⟨gv, 0, none⟩) K.ls.length lc ea K.es.length ec sa K.stem.length sc K.anchor K.names)) := HK.out.row.of_block (HB3.out.block _ hgl)
        obtain ⟨⟨k0, k1, k2, k3, k4⟩, q0, q1, q2, q3, q4⟩ := row5K HRW.out
        rw [← HNN.out.2] at k4
        have r1 := HRW.out.set 0 (.slice l3 n3 lc3)
        have r2 := r1.set 3 (.int .i64 nm)
        have r3 := r2.set 4 (.int .i64 (nm + 1))
        have y4 : (w3.setCell ⟨g, 0, none⟩ (.slice l3 n3 lc3)).cell? ⟨g, 4, none⟩ = some (.int .i64 nm) := by have := r1.cell (i := 4) (by omega); rw [HNN.out.2]; exact this
        have y3 := r1.cell (i := 3) (by omega)
        have z3 := r1.frozen 3
        have y4b : ((w3.setCell ⟨g, 0, none⟩ (.slice l3 n3 lc3)).setCell ⟨g, 3, none⟩ (.int .i64 nm)).cell? ⟨g, 4, none⟩ = some (.int .i64 nm) := by have := r2.cell (i := 4) (by omega); rw [HNN.out.2]; rw [HNN.out.2] at this; exact this
        have z4 := r2.frozen 4
        have HR3 : Hid ((((w3.setCell ⟨g, 0, none⟩ (.slice l3 n3 lc3)).setCell ⟨g, 3, none⟩ (.int .i64 nm)).setCell ⟨g, 4, none⟩ (.int .i64 (nm + 1))).rowIs g 127 5 (wkF l3 n3 lc3 ea K.es.length ec sa K.stem.length sc nm (nm + 1))) := r3.congr fun j hj => by
          have : j = 0 ∨ j = 1 ∨ j = 2 ∨ j = 3 ∨ j = 4 := by omega
          rcases this with rfl | rfl | rfl | rfl | rfl <;> rfl
        have HOn : Hid (OnlyRow g w3 (((w3.setCell ⟨g, 0, none⟩ (.slice l3 n3 lc3)).setCell ⟨g, 3, none⟩ (.int .i64 nm)).setCell ⟨g, 4, none⟩ (.int .i64 (nm + 1)))) := ((OnlyRow.setCell _ _ _ _).trans (OnlyRow.setCell _ _ _ _)).trans (OnlyRow.setCell _ _ _ _)
        have HBB : Hid (Below B w3 (((w3.setCell ⟨g, 0, none⟩ (.slice l3 n3 lc3)).setCell ⟨g, 3, none⟩ (.int .i64 nm)).setCell ⟨g, 4, none⟩ (.int .i64 (nm + 1)))) := HOn.out.below (Below.refl _ _) HK.out.base
        simp only [wkF] at y3
        clear hown3 hgrow3 r1 r2 r3 hn3 hlen3 d0
        go_wp2
        have hBw : B ≤ w.heap.size := by have := HK.out.base; omega
        refine bodyPost_end (results_none rfl _ _ _) rfl ⟨_, l3, lc3, rfl, ?_, (HB3.out.mono hBw).trans HBB.out, (KeepH.below HB3.out).trans (.only HOn.out)⟩
        have hrow := HR3.out
        rw [HN3.out, HNN.out.2] at hrow
        have hlist := own_only HOn.out HO3.out (own_far HRW.out HO3.out (by decide))
        rw [HN3.out, HNN.out.2] at hlist
        refine ⟨?_, HK.out.base, ?_, ?_, fun j hj => ?_, ?_⟩
        · rw [HN3.out, HNN.out.2]
          exact hrow
        · rw [HN3.out, HNN.out.2]
          exact ownC_base hlist hBw
        · have ho := ownC_below HK.out.ents HB3.out
          exact own_only HOn.out ho (own_far HRW.out ho (by decide))
        · have ho := ownC_below (HK.out.ints j hj) HB3.out
          exact own_only HOn.out ho (own_far HRW.out ho (by decide))
        · have ho := ownC_below HK.out.stem HB3.out
          exact own_only HOn.out ho (own_far HRW.out ho (by decide))


theorem entC_set (tx tx' : Nat → ByteArray) (k k' : Nat → Nat) (vs vs' : Nat → Option Addr) (cs cs' : Nat → Nat) {m q : Nat} (hq : q < m) (h : ∀ j, j < m → j ≠ q → tx j = tx' j ∧ k j = k' j ∧ vs j = vs' j ∧ cs j = cs' j) (ht : tx q = tx' q) : (entC tx k vs cs m).set (q * 2 + 1) (.slice (vs' q) (k' q) (cs' q)) = entC tx' k' vs' cs' m := by
  refine List.ext_getElem? fun c => ?_
  by_cases hc : c < m * 2
  · have hcm : c / 2 < m := by omega
    have e1 := entC_at tx k vs cs m (c / 2) hcm
    have e2 := entC_at tx' k' vs' cs' m (c / 2) hcm
    rw [List.getElem?_set]
    by_cases hq2 : q * 2 + 1 = c
    · rw [if_pos hq2, if_pos (by rw [entC_len]; omega)]
      have hcq : c / 2 = q := by omega
      rw [hcq] at e2
      rw [← hq2]
      exact e2.2.symm
    · rw [if_neg hq2]
      by_cases hpar : c % 2 = 0
      · have hcc : c = c / 2 * 2 := by omega
        rw [hcc, e1.1, e2.1]
        by_cases hcq : c / 2 = q
        · rw [hcq, ht]
        · rw [(h _ hcm hcq).1]
      · have hcc : c = c / 2 * 2 + 1 := by omega
        have hcq : c / 2 ≠ q := fun e => hq2 (by omega)
        have h3 := h _ hcm hcq
        rw [hcc, e1.2, e2.2, h3.2.1, h3.2.2.1, h3.2.2.2]
  · rw [List.getElem?_eq_none (by rw [List.length_set, entC_len]; omega), List.getElem?_eq_none (by rw [entC_len]; omega)]
theorem repE_at {es : List En} (ho : OnceE es) {e : En} {q : Nat} (hq : q < es.length) (ht : (es.getD q default).tx = e.tx) : repE es e = es.set q e := by
  have hx : ∃ x ∈ es, x.tx = e.tx := ⟨es[q], List.getElem_mem hq, by rw [getD_at hq] at ht; exact ht⟩
  unfold repE
  rw [if_pos hx]
  refine List.ext_getElem (by simp) fun j h1 h2 => ?_
  rw [List.getElem_map, List.getElem_set]
  have hj : j < es.length := by simpa using h1
  by_cases hjq : q = j
  · subst hjq
    rw [if_pos rfl, if_pos (by rw [getD_at hq] at ht; exact ht)]
  · rw [if_neg hjq, if_neg]
    intro he
    rw [getD_at hq] at ht
    have hp := List.pairwise_iff_getElem.1 ho
    rcases Nat.lt_or_gt_of_ne hjq with h3 | h3
    · exact hp q j hq hj h3 (ht.trans he.symm)
    · exact hp j q hj hq h3 (he.trans ht.symm)
/-- an entry's numbers are replaced -/
theorem WkA.setE {B g : Nat} {K : Wk} {la sa : Option Addr} {lc ec sc ge : Nat} {vs : Nat → Option Addr} {cs : Nat → Nat} {w : World} (h : WkA B g K la (some ⟨ge, 0, none⟩) sa lc ec sc vs cs w) {q : Nat} (hq : q < K.es.length) {l4 : Option Addr} {lc4 : Nat} {zs : List Int} (hz : w.ownsRow B 3 1 (.slice l4 zs.length lc4) zs.length (intsC zs)) :
    WkA B g { K with es := K.es.set q ⟨(K.es.getD q default).tx, zs⟩ } la (some ⟨ge, 0, none⟩) sa lc ec sc (upd vs q l4) (upd cs q lc4) (w.setCell ⟨ge, q * 2 + 1, none⟩ (.slice l4 zs.length lc4)) := by
  have hO : OnlyRow ge w (w.setCell ⟨ge, q * 2 + 1, none⟩ (.slice l4 zs.length lc4)) := OnlyRow.setCell _ _ _ _
  have hgg : g ≠ ge := fun e => own_far h.row h.ents (by decide) (by rw [e]; rfl)
  have far : ∀ {e : TypeId} {size : Nat} {v : Value} {m : Nat} {xs : List Value}, w.ownsRow B e size v m xs → e ≠ 63 → v.ownBlock ≠ some ge := fun ho ht hb => ownC_two ho h.ents ht hb rfl
  have hlen : (K.es.set q ⟨(K.es.getD q default).tx, zs⟩).length = K.es.length := List.length_set
  have hat : ∀ j, (K.es.set q ⟨(K.es.getD q default).tx, zs⟩).getD j default = if q = j then ⟨(K.es.getD q default).tx, zs⟩ else K.es.getD j default := fun j => by
    rw [List.getD_eq_getElem?_getD, List.getElem?_set]
    by_cases hj : q = j
    · subst hj
      rw [if_pos rfl, if_pos hq, if_pos rfl]; rfl
    · rw [if_neg hj, if_neg hj, List.getD_eq_getElem?_getD]
  refine ⟨?_, h.base, own_only hO h.list (far h.list (by decide)), ?_, fun j hj => ?_, own_only hO h.stem (far h.stem (by decide))⟩
  · show World.rowIs _ _ _ _ (wkF _ _ _ _ (K.es.set q ⟨(K.es.getD q default).tx, zs⟩).length _ _ _ _ _ _)
    rw [hlen]
    exact hO.row h.row hgg
  · show World.ownsRow _ _ _ _ (.slice _ (K.es.set q ⟨(K.es.getD q default).tx, zs⟩).length _) (K.es.set q ⟨(K.es.getD q default).tx, zs⟩).length _
    rw [hlen]
    have hs := own_setN h.ents (q := q * 2 + 1) (.slice l4 zs.length lc4)
    have he := entC_set (fun j => (K.es.getD j default).tx) (fun j => ((K.es.set q ⟨(K.es.getD q default).tx, zs⟩).getD j default).tx) (fun j => (K.es.getD j default).zs.length) (fun j => ((K.es.set q ⟨(K.es.getD q default).tx, zs⟩).getD j default).zs.length) vs (upd vs q l4) cs (upd cs q lc4) hq (fun j _ hj => by
      rw [hat, if_neg (Ne.symm hj), upd_ne _ _ _ hj, upd_ne _ _ _ hj]
      exact ⟨rfl, rfl, rfl, rfl⟩) (by rw [hat, if_pos rfl])
    simp only [upd_at] at he
    rw [hat, if_pos rfl] at he
    rw [← he]
    exact hs
  · have hj : j < (K.es.set q ⟨(K.es.getD q default).tx, zs⟩).length := hj
    rw [hlen] at hj
    show World.ownsRow _ _ _ _ (.slice _ ((K.es.set q ⟨(K.es.getD q default).tx, zs⟩).getD j default).zs.length _) ((K.es.set q ⟨(K.es.getD q default).tx, zs⟩).getD j default).zs.length (intsC ((K.es.set q ⟨(K.es.getD q default).tx, zs⟩).getD j default).zs)
    rw [hat]
    by_cases hjq : q = j
    · subst hjq
      rw [if_pos rfl, upd_at, upd_at]
      exact own_only hO hz (far hz (by decide))
    · rw [if_neg hjq, upd_ne _ _ _ (Ne.symm hjq), upd_ne _ _ _ (Ne.symm hjq)]
      exact own_only hO (h.ints j hj) (far (h.ints j hj) (by decide))
/-- an entry more -/
theorem WkA.addE {B g : Nat} {K : Wk} {la ea sa : Option Addr} {lc ec sc : Nat} {vs : Nat → Option Addr} {cs : Nat → Nat} {w0 w w' : World} {X : Obj} (h : WkA B g K la ea sa lc ec sc vs cs w0) (hw : w = w0.drew.alloc X) (hB : B ≤ w.heap.size) {ea' : Option Addr} {ec' : Nat} {l4 : Option Addr} {lc4 : Nat} {e : En} (hz : w0.ownsRow B 3 1 (.slice l4 e.zs.length lc4) e.zs.length (intsC e.zs))
    (hgr : w.grownBy w' (Value.slice ea K.es.length ec).ownBlock) (hown : w'.ownsRow B 63 2 (.slice ea' (K.es.length + 1) ec') (K.es.length + 1) (entC (fun j => (K.es.getD j default).tx) (fun j => (K.es.getD j default).zs.length) vs cs K.es.length ++ [.string e.tx, .slice l4 e.zs.length lc4])) :
    WkA B g { K with es := K.es ++ [e] } la ea' sa lc ec' sc (upd vs K.es.length l4) (upd cs K.es.length lc4) (w'.setCell ⟨g, 1, none⟩ (.slice ea' (K.es.length + 1) ec')) := by
  subst hw
  have hE := h.ents.drew.alloc X
  have grow : ∀ {t : TypeId} {size : Nat} {v : Value} {m : Nat} {xs : List Value}, w0.ownsRow B t size v m xs → t ≠ 63 → w'.ownsRow B t size v m xs := fun ho ht => ownC_grown (ho.drew.alloc X) hE ht hgr
  have hr0 := h.row.drew.alloc X
  have hr : w'.rowIs g 127 5 (wkF la K.ls.length lc ea K.es.length ec sa K.stem.length sc K.anchor K.names) := hr0.of_block (hgr.block _ hr0.lt (fun e => own_far hr0 hE (by decide) e.symm))
  have hO : OnlyRow g w' (w'.setCell ⟨g, 1, none⟩ (.slice ea' (K.es.length + 1) ec')) := OnlyRow.setCell _ _ _ _
  have hlen : (K.es ++ [e]).length = K.es.length + 1 := by simp
  have hat : ∀ j, j < K.es.length → (K.es ++ [e]).getD j default = K.es.getD j default := fun j hj => by
    rw [List.getD_eq_getElem?_getD, List.getElem?_append_left hj, List.getD_eq_getElem?_getD]
  have hatn : (K.es ++ [e]).getD K.es.length default = e := by
    rw [List.getD_eq_getElem?_getD, List.getElem?_append_right (Nat.le_refl _), Nat.sub_self]; rfl
  have hl := grow h.list (by decide)
  have hs := grow h.stem (by decide)
  refine ⟨?_, h.base, own_only hO hl (own_far hr hl (by decide)), ?_, fun j hj => ?_, own_only hO hs (own_far hr hs (by decide))⟩
  · show World.rowIs _ _ _ _ (wkF _ _ _ _ (K.es ++ [e]).length _ _ _ _ _ _)
    rw [hlen]
    exact (hr.set 1 _).congr fun j hj => by
      have : j = 0 ∨ j = 1 ∨ j = 2 ∨ j = 3 ∨ j = 4 := by omega
      rcases this with rfl | rfl | rfl | rfl | rfl <;> rfl
  · show World.ownsRow _ _ _ _ (.slice _ (K.es ++ [e]).length _) (K.es ++ [e]).length _
    rw [hlen]
    have he : entC (fun j => ((K.es ++ [e]).getD j default).tx) (fun j => ((K.es ++ [e]).getD j default).zs.length) (upd vs K.es.length l4) (upd cs K.es.length lc4) (K.es.length + 1) = entC (fun j => (K.es.getD j default).tx) (fun j => (K.es.getD j default).zs.length) vs cs K.es.length ++ [.string e.tx, .slice l4 e.zs.length lc4] := by
      rw [entC_snoc]
      simp only [upd_at]
      rw [hatn]
      congr 1
      unfold entC
      rw [List.flatMap_def, List.flatMap_def]
      congr 1
      refine List.map_congr_left fun j hj => ?_
      rw [List.mem_range] at hj
      simp only
      rw [hat j hj, upd_ne _ _ _ (by omega), upd_ne _ _ _ (by omega)]
    show World.ownsRow _ _ _ _ _ _ (entC (fun j => ((K.es ++ [e]).getD j default).tx) (fun j => ((K.es ++ [e]).getD j default).zs.length) (upd vs K.es.length l4) (upd cs K.es.length lc4) (K.es.length + 1))
    rw [he]
    exact own_only hO hown (own_far hr hown (by decide))
  · have hj : j < (K.es ++ [e]).length := hj
    rw [hlen] at hj
    show World.ownsRow _ _ _ _ (.slice _ ((K.es ++ [e]).getD j default).zs.length _) ((K.es ++ [e]).getD j default).zs.length (intsC ((K.es ++ [e]).getD j default).zs)
    by_cases hjq : j = K.es.length
    · subst hjq
      rw [hatn, upd_at, upd_at]
      have hz' := grow hz (by decide)
      exact own_only hO hz' (own_far hr hz' (by decide))
    · rw [hat j (by omega), upd_ne _ _ _ hjq, upd_ne _ _ _ hjq]
      have hi := grow (h.ints j (by omega)) (by decide)
      exact own_only hO hi (own_far hr hi (by decide))

end Go.Proofs.YtpclldccjpncdabGreat
