import Derived.Test.YtpclldccjpncdabGreatM30
import Derived.Deep.RegionHeld3
import Derived.ShutString
import Derived.ChangeOld
import Derived.Carry
namespace Go.Proofs.YtpclldccjpncdabGreat
open Go.RowKit

/-- a table of lists, wherever it lies -/
def lysL (ls : List Sp) (es : List En) (no : Option Addr) (nc : Nat) (eo : Option Addr) (ec : Nat) (vs : Nat → Option Addr) (cs : Nat → Nat) : Lay :=
  { n := ls.length, m := es.length, na := no, ea := eo, nc := nc, ec := ec, nb := blk no, no := 0, eb := blk eo, eo := 0, p := fun i => (ls.getD i default).p, s := fun i => (ls.getD i default).s, t := fun i => (ls.getD i default).t, tx := txE es, la := vs, k := kE es, lc := cs, lb := fun i => blk (vs i), lo := fun _ => 0, z := zE es }
theorem ndsC_at : ∀ (l : List Sp) (i : Nat), i < l.length → (ndsC l)[i * 3]? = some (.int .i64 (l.getD i default).p) ∧ (ndsC l)[i * 3 + 1]? = some (.int .i64 (l.getD i default).s) ∧ (ndsC l)[i * 3 + 2]? = some (.int .i64 (l.getD i default).t)
  | [], i, h => by simp at h
  | x :: l, 0, _ => ⟨rfl, rfl, rfl⟩
  | x :: l, i + 1, h => by
    have h' : i < l.length := by simpa using h
    have ih := ndsC_at l i h'
    have e : ndsC (x :: l) = [.int .i64 x.p, .int .i64 x.s, .int .i64 x.t] ++ ndsC l := rfl
    rw [e]
    refine ⟨?_, ?_, ?_⟩
    · rw [List.getElem?_append_right (by show 3 ≤ _; omega), show (i + 1) * 3 - [Value.int .i64 x.p, .int .i64 x.s, .int .i64 x.t].length = i * 3 by show _ - 3 = _; omega]
      exact ih.1
    · rw [List.getElem?_append_right (by show 3 ≤ _; omega), show (i + 1) * 3 + 1 - [Value.int .i64 x.p, .int .i64 x.s, .int .i64 x.t].length = i * 3 + 1 by show _ - 3 = _; omega]
      exact ih.2.1
    · rw [List.getElem?_append_right (by show 3 ≤ _; omega), show (i + 1) * 3 + 2 - [Value.int .i64 x.p, .int .i64 x.s, .int .i64 x.t].length = i * 3 + 2 by show _ - 3 = _; omega]
      exact ih.2.2
theorem lysL_in {ls : List Sp} {es : List En} {no : Option Addr} {nc : Nat} {eo : Option Addr} {ec : Nat} {vs : Nat → Option Addr} {cs : Nat → Nat} {B : Nat} {w : World} (hl : ls.length ≤ 1000) (hm : es.length ≤ 1000) (hk : ∀ j, j < es.length → kE es j ≤ 1000) (hn : w.ownsRow B 65 3 (.slice no ls.length nc) ls.length (ndsC ls)) (he : w.ownsRow B 63 2 (.slice eo es.length ec) es.length (entC (txE es) (kE es) vs cs es.length)) (hi : EntsO B (kE es) (zE es) es.length vs cs w) : (lysL ls es no nc eo ec vs cs).In w.heap.size w := by
  refine ⟨?_, ?_⟩
  · obtain ⟨vo, vc, gv, hv, ha, hc⟩ := ownC_cells hn
    cases hv
    have key : ∀ i, i < ls.length → blk no = gv := fun i hi => by rw [(ha (by omega)).1]; rfl
    refine ⟨fun h0 => ?_, fun h0 => ?_, fun i hi => ?_, fun i hi => ?_, fun i hi => ?_, ?_⟩
    · show no = some ⟨blk no, 0, none⟩
      rw [(ha h0).1]; rfl
    · show blk no < _
      rw [(ha h0).1]; exact (ha h0).2.1
    · have hi : i < ls.length := hi
      show w.cell? ⟨blk no, 0 + i * 3, none⟩ = _
      rw [key i hi, Nat.zero_add]
      exact hc _ _ (by omega) (ndsC_at ls i hi).1
    · have hi : i < ls.length := hi
      show w.cell? ⟨blk no, 0 + i * 3 + 1, none⟩ = _
      rw [key i hi, Nat.zero_add]
      exact hc _ _ (by omega) (ndsC_at ls i hi).2.1
    · have hi : i < ls.length := hi
      show w.cell? ⟨blk no, 0 + i * 3 + 2, none⟩ = _
      rw [key i hi, Nat.zero_add]
      exact hc _ _ (by omega) (ndsC_at ls i hi).2.2
    · show ls.length * 24 ≤ _
      omega
  · obtain ⟨vo, vc, gv, hv, ha, hc⟩ := ownC_cells he
    cases hv
    have key : ∀ i, i < es.length → blk eo = gv := fun i hi => by rw [(ha (by omega)).1]; rfl
    refine ⟨fun h0 => ?_, fun h0 => ?_, fun i hi => ?_, fun i hi => ?_, fun i hi' => ?_, ?_⟩
    · show eo = some ⟨blk eo, 0, none⟩
      rw [(ha h0).1]; rfl
    · show blk eo < _
      rw [(ha h0).1]; exact (ha h0).2.1
    · have hi : i < es.length := hi
      show w.cell? ⟨blk eo, 0 + i * 2, none⟩ = _
      rw [key i hi, Nat.zero_add]
      exact hc _ _ (by omega) (entC_at _ _ _ _ _ i hi).1
    · have hi : i < es.length := hi
      show w.cell? ⟨blk eo, 0 + i * 2 + 1, none⟩ = _
      rw [key i hi, Nat.zero_add]
      exact hc _ _ (by omega) (entC_at _ _ _ _ _ i hi).2
    · have hi' : i < es.length := hi'
      have hk' := hk i hi'
      obtain ⟨vo', vc', gv', hv', ha', hc'⟩ := ownC_cells (hi.own i hi')
      injection hv' with hv1 hv2 hv3
      refine ⟨fun h0 => ?_, fun h0 => ?_, fun j hj => ?_, ?_⟩
      · show vs i = some ⟨blk (vs i), 0, none⟩
        rw [hv1, (ha' h0).1]; rfl
      · show blk (vs i) < _
        rw [hv1, (ha' h0).1]; exact (ha' h0).2.1
      · have hj : j < kE es i := hj
        show w.cell? ⟨blk (vs i), 0 + j, none⟩ = _
        rw [hv1, (ha' (by omega)).1, Nat.zero_add]
        exact hc' j _ (by omega) (by simp [hj]; rfl)
      · show kE es i * 8 ≤ _
        omega
    · show es.length * 40 ≤ _
      omega
/-- what Compile tells, wherever it lies -/
noncomputable def comL (L : Lay) (s : ByteArray) : Lay := match compE L s with
  | .error _ => noL
  | .ok (ls, es) => lysL ls es none 0 none 0 (fun _ => none) (fun _ => 0)
noncomputable def cmpEr (L : Lay) (s : ByteArray) : Int := match compE L s with
  | .error x => x.1
  | .ok _ => 0
noncomputable def cmpAt (L : Lay) (s : ByteArray) : Nat := match compE L s with
  | .error x => x.2
  | .ok _ => 0
theorem compE_bd {L : Lay} {s : ByteArray} {ls : List Sp} {es : List En} (h : compE L s = .ok (ls, es)) : ls.length ≤ 48 ∧ es.length ≤ 48 ∧ ∀ j, j < es.length → 1 ≤ kE es j ∧ kE es j ≤ 4 := by
  unfold compE at h
  split at h
  · cases h
  · next h0 =>
    have h0 : L.err = 0 := by simpa using h0
    split at h
    · cases h
    · next h1 =>
      have h1 : (rdAll s).2.1 = 0 := by simpa using h1
      have hrd : rdAll s = ((rdAll s).1, 0, (rdAll s).2.2) := by rw [← h1]
      obtain ⟨g1, g2, _⟩ := rdAll_good hrd
      cases hr : rulesE insE (begS L) (rdAll s).1 0 with
      | error x => rw [hr] at h; cases h
      | ok K =>
        rw [hr] at h
        simp only at h
        obtain ⟨hg, _⟩ := rulesE_good (rdAll s).1 (begS L) K 0 (begS_good h0) (esB_sort h0) g1 (.inl g2) hr
        cases hw : weigh K.ls 0 0 0 with
        | none => rw [hw] at h; cases h
        | some ls' =>
          rw [hw] at h
          simp only [Except.ok.injEq, Prod.mk.injEq] at h
          obtain ⟨rfl, rfl⟩ := h
          have hl : ls'.length = K.ls.length := by
            have := congrArg List.length (weigh_names _ _ _ _ _ hw)
            simpa using this
          refine ⟨by rw [hl]; exact hg.ls, by rw [List.length_map]; exact hg.es, fun j hj => ?_⟩
          rw [List.length_map] at hj
          have h3 := (hg.ent _ (List.getElem_mem hj)).2.1
          unfold kE
          rw [getD_at (by rw [List.length_map]; exact hj), List.getElem_map]
          simp only [List.length_map]
          exact h3
theorem cmpAns_lay {L : Lay} {s : ByteArray} {w : World} {e : Ending} {w' : World} (h : CmpAns L s w e w') : ∃ M : Lay, e = .returned (.tuple #[.agg #[.slice M.na M.n M.nc, .slice M.ea M.m M.ec], .int .i64 (cmpEr L s), .int .i64 (cmpAt L s : Nat)]) ∧ Below w.heap.size w w' ∧ M.In w'.heap.size w' ∧ (comL L s).Twin M ∧ M.m ≤ 1000 ∧
    ∃ tx k z vs cs, (∀ i, i < M.m → 1 ≤ k i ∧ k i ≤ 1000) ∧ w'.ownsRow w.heap.size 63 2 (.slice M.ea M.m M.ec) M.m (entC tx k vs cs M.m) ∧ EntsO w.heap.size k z M.m vs cs w' ∧ (∀ wx, (∀ b, w.heap.size ≤ b → b < w'.heap.size → wx.heap[b]? = w'.heap[b]?) → w'.heap.size ≤ wx.heap.size → M.In wx.heap.size wx ∧ wx.ownsRow w.heap.size 63 2 (.slice M.ea M.m M.ec) M.m (entC tx k vs cs M.m) ∧ EntsO w.heap.size k z M.m vs cs wx) := by
  obtain ⟨hb, h⟩ := h
  rcases h with ⟨x, a, hE, he⟩ | ⟨ls, es, no, nc, eo, ec, vs, cs, hE, he, hn, hr, hi⟩
  · refine ⟨noL, ?_, hb, noL_in w', ?_, by decide, fun _ => ByteArray.empty, fun _ => 0, fun _ _ => 0, fun _ => none, fun _ => 0, fun i hi => absurd hi (Nat.not_lt_zero _), World.ownsRow_nil _ _ _ _, EntsO.nil _ _ _ _ _ _, fun wx _ _ => ⟨noL_in wx, World.ownsRow_nil _ _ _ _, EntsO.nil _ _ _ _ _ _⟩⟩
    · unfold cmpEr cmpAt
      rw [hE]
      exact he
    · unfold comL
      rw [hE]
      exact ⟨rfl, rfl, rfl, rfl, rfl, rfl, rfl, rfl⟩
  · obtain ⟨b1, b2, b3⟩ := compE_bd hE
    have hk : ∀ j, j < es.length → kE es j ≤ 1000 := fun j hj => by have := b3 j hj; omega
    refine ⟨lysL ls es no nc eo ec vs cs, ?_, hb, lysL_in (by omega) (by omega) hk hn hr hi, ?_, by show es.length ≤ 1000; omega, txE es, kE es, zE es, vs, cs, fun i hi => by have := b3 i hi; omega, hr, hi, fun wx hx hz => ?_⟩
    · unfold cmpEr cmpAt
      rw [hE]
      exact he
    · unfold comL
      rw [hE]
      exact ⟨rfl, rfl, rfl, rfl, rfl, rfl, rfl, rfl⟩
    · have mv : ∀ {t : TypeId} {size : Nat} {v : Value} {m : Nat} {xs : List Value}, w'.ownsRow w.heap.size t size v m xs → wx.ownsRow w.heap.size t size v m xs := fun ho => own_of_block ho fun b hb => hx b (ownC_lt ho hb).2 (ownC_lt ho hb).1
      have hn' := mv hn
      have hr' := mv hr
      have hi' : EntsO w.heap.size (kE es) (zE es) es.length vs cs wx := ⟨fun j hj => mv (hi.own j hj), hi.apart⟩
      exact ⟨lysL_in (by omega) (by omega) hk hn' hr' hi', hr', hi'⟩
theorem compE_lent (L : Lay) (gn ge : Nat) (gl : Nat → Nat) (s : ByteArray) : compE (L.lent gn ge gl) s = compE L s := rfl
theorem cmp_lent (L : Lay) (gn ge : Nat) (gl : Nat → Nat) (s : ByteArray) : comL (L.lent gn ge gl) s = comL L s ∧ cmpEr (L.lent gn ge gl) s = cmpEr L s ∧ cmpAt (L.lent gn ge gl) s = cmpAt L s := ⟨rfl, rfl, rfl⟩

end Go.Proofs.YtpclldccjpncdabGreat

namespace Go.Proofs.YtpclldccjpncdabGreat
open Go.RowKit

/-- what of Compile's answer lasts -/
def Lasts (L : Lay) (a : ByteArray) (Z R : Nat) (w' : World) (M : Lay) : Prop := (comL L a).Twin M ∧ M.m ≤ 1000 ∧ ∃ tx k z vs cs, (∀ i, i < M.m → 1 ≤ k i ∧ k i ≤ 1000) ∧ ∀ wx : World, (∀ b, Z ≤ b → b < R → wx.heap[b]? = w'.heap[b]?) → R ≤ wx.heap.size → M.In wx.heap.size wx ∧ wx.ownsRow Z 63 2 (.slice M.ea M.m M.ec) M.m (entC tx k vs cs M.m) ∧ EntsO Z k z M.m vs cs wx
theorem lasts_of {L : Lay} {a : ByteArray} {Z : Nat} {wz : World} {e : Ending} {w' : World} (h : CmpAns L a wz e w') (hZ : Z ≤ wz.heap.size) : ∃ M : Lay, e = .returned (.tuple #[.agg #[.slice M.na M.n M.nc, .slice M.ea M.m M.ec], .int .i64 (cmpEr L a), .int .i64 (cmpAt L a : Nat)]) ∧ Below wz.heap.size wz w' ∧ Hid (Lasts L a Z w'.heap.size w' M) := by
  obtain ⟨M, he, hb, hin, htw, hm, tx, k, z, vs, cs, hk, hrow, hent, hlast⟩ := cmpAns_lay h
  refine ⟨M, he, hb, htw, hm, tx, k, z, vs, cs, hk, fun wx hx hz => ?_⟩
  obtain ⟨h1, h2, h3⟩ := hlast wx (fun b hb1 hb2 => hx b (by omega) hb2) hz
  exact ⟨h1, ownC_base h2 hZ, h3.base hZ⟩

set_option maxRecDepth 100000 in
set_option maxHeartbeats 4000000 in
theorem compiles_any (L : Lay) (kind : Int) (a b : ByteArray) (lev : Int) (ra : Option Addr) (rn rc : Nat) (w : World) (h : L.In w.heap.size w) (ha : a.size ≤ 140737488351232) :
    Calls Tryz.prog 11 #[.agg #[.int .i64 kind, .slice L.na L.n L.nc, .slice L.ea L.m L.ec, .string a, .string b, .int .i64 lev, .slice ra rn rc]] w fun e w' => e = .returned (.bool true) ∧ Below w.heap.size w w' := by
  obtain ⟨W, hW⟩ : ∃ W, W = w.alloc (.cells #[.int .i64 kind, .slice L.na L.n L.nc, .slice L.ea L.m L.ec, .string a, .string b, .int .i64 lev, .slice ra rn rc] 31) := ⟨_, rfl⟩
  have HL : Hid (∀ w', Below w.heap.size w w' → L.In w'.heap.size w') := fun w' hb => h.later hb
  have HBW : Hid (Below w.heap.size w W) := by show Below _ _ _; rw [hW]; exact below_one _
  have HWS : Hid (W.heap.size = w.heap.size + 1) := by show _ = _; rw [hW]; simp
  have HA : Hid (W.cell? ⟨w.heap.size, 1, none⟩ = some (.slice L.na L.n L.nc) ∧ W.cell? ⟨w.heap.size, 2, none⟩ = some (.slice L.ea L.m L.ec) ∧ W.cell? ⟨w.heap.size, 3, none⟩ = some (.string a)) := by
    show _ ∧ _ ∧ _
    rw [hW]
    refine ⟨?_, ?_, ?_⟩ <;> go_simp
  have hws := HWS.out
  have HLW : Hid (L.In W.heap.size W) := h.later HBW.out
  clear h
  obtain ⟨er, her⟩ : ∃ x, x = cmpEr L a := ⟨_, rfl⟩
  obtain ⟨ct, hct⟩ : ∃ x, x = cmpAt L a := ⟨_, rfl⟩
  have HER : Hid (er = cmpEr L a ∧ ct = cmpAt L a) := ⟨her, hct⟩
  clear her hct
  go_enter Tryz.func11, Tryz.ntmps11
  go_wp2_with fail
  rw [← hW]
  clear hW
  refine (lent_any L W HLW.out).mono ?_
  rintro e w1 ⟨g, gn, ge, gl, vo, vc, rfl, hlent⟩
  obtain ⟨x0, x1, xg⟩ := hlent.t01
  have HLT : Hid (LentIn L W g gn ge gl vo vc w1) := hlent
  have hz1 := hlent.below.size
  have HBD : Hid (gn < w1.heap.size ∧ ge < w1.heap.size ∧ ∀ j, j < L.m → gl j < w1.heap.size) := by
    obtain ⟨fn, n1, _⟩ := hlent.nodes
    obtain ⟨fe, e1, _⟩ := hlent.entries
    exact ⟨n1.lt, e1.lt, fun j hj => (hlent.rows j hj).lt⟩
  have a3 := cellTo hlent.below HA.out.2.2 (by show w.heap.size < _; omega)
  have hLW := hlent.lay HLW.out
  have HCC : Hid (∀ wz, Below w1.heap.size w1 wz → Calls Tryz.prog 34 #[.agg #[.slice (some ⟨gn, 0, none⟩) L.n (L.n + 8), .slice (some ⟨ge, 0, none⟩) L.m (L.m + 8)], .string a] wz fun e w' => ∃ M : Lay, e = .returned (.tuple #[.agg #[.slice M.na M.n M.nc, .slice M.ea M.m M.ec], .int .i64 er, .int .i64 (ct : Nat)]) ∧ Below wz.heap.size wz w' ∧ Hid (Lasts L a wz.heap.size w'.heap.size w' M)) := fun wz hb => by
    refine (compile_any (L.lent gn ge gl) a wz ((hLW.below hb).mono hb.size) ha).mono ?_
    intro e w' hans
    have hans' : CmpAns L a wz e w' := hans
    rw [HER.out.1, HER.out.2]
    exact lasts_of hans' (Nat.le_refl _)
  have hwz : w.heap.size < w1.heap.size := by omega
  have hgz : g ≠ w1.heap.size := by omega
  have hgz2 : w1.heap.size ≠ g := by omega
  have hwz1 : w.heap.size ≠ w1.heap.size := by omega
  have hwz2 : w1.heap.size ≠ w.heap.size := by omega
  have HTZ : Hid ((w1.alloc (.cells #[.slice none 0 0, .slice none 0 0] 28)).rowIs w1.heap.size 28 2 (fun j => #[Value.slice none 0 0, .slice none 0 0].getD j undef)) := row_new _ _ _ 2 rfl
  clear hlent hLW
  go_upto_region 2 with (fail)
  go_cut [4, 5, 6] from 13 (fun v4 v5 v6 wc => ∃ (gt : Nat) (M : Lay), v4 = .pointer (some ⟨gt, 0, none⟩) ∧ v5 = .int .i64 er ∧ v6 = .int .i64 (ct : Nat) ∧ w1.heap.size ≤ gt ∧ Hid (wc.rowIs gt 28 2 (fun j => #[Value.slice M.na M.n M.nc, .slice M.ea M.m M.ec].getD j undef)) ∧ Hid (Below w1.heap.size w1 wc) ∧ Hid (∀ wx, (∀ b, w1.heap.size ≤ b → b < wc.heap.size → b ≠ gt → wx.heap[b]? = wc.heap[b]?) → wc.heap.size ≤ wx.heap.size → ∃ (tx : Nat → ByteArray) (k : Nat → Nat) (z : Nat → Nat → Int) (vs : Nat → Option Addr) (cs : Nat → Nat), (comL L a).Twin M ∧ M.m ≤ 1000 ∧ (∀ i, i < M.m → 1 ≤ k i ∧ k i ≤ 1000) ∧ M.In wx.heap.size wx ∧ wx.ownsRow w1.heap.size 63 2 (.slice M.ea M.m M.ec) M.m (entC tx k vs cs M.m) ∧ EntsO w1.heap.size k z M.m vs cs wx))
  case first =>
    go_region_held3 (fun w' => w'.cell? ⟨g, 0, none⟩ = some (.slice (some ⟨gn, 0, none⟩) L.n (L.n + 8)) ∧ w'.cell? ⟨g, 1, none⟩ = some (.slice (some ⟨ge, 0, none⟩) L.m (L.m + 8)) ∧ w'.cell? ⟨w.heap.size, 3, none⟩ = some (.string a)) (first | go_keep | exact ⟨u0, u1, u2⟩ | (refine ⟨((OnlyRow.setCell _ _ _ _).trans (OnlyRow.setCell _ _ _ _)).cell u0 hgz, ((OnlyRow.setCell _ _ _ _).trans (OnlyRow.setCell _ _ _ _)).cell u1 hgz, ((OnlyRow.setCell _ _ _ _).trans (OnlyRow.setCell _ _ _ _)).cell u2 hwz1⟩)) (first
      | (go_at_call 34; refine (HCC.out w1.drew (Below.refl _ _).drew).mono ?_; rintro e wq ⟨M, rfl, hbq, HM⟩; have u0 := cellTo ((Below.refl w1.heap.size w1).drew.trans hbq) x0 xg; have u1 := cellTo ((Below.refl w1.heap.size w1).drew.trans hbq) x1 xg; have u2 := cellTo ((Below.refl w1.heap.size w1).drew.trans hbq) a3 hwz; have hzq : w1.heap.size ≤ wq.heap.size := hbq.size; have hzg : g < wq.heap.size := Nat.lt_of_lt_of_le xg hbq.size; have hzw : w.heap.size < wq.heap.size := Nat.lt_of_lt_of_le hwz hbq.size; dsimp only)
      | (go_at_call 34; refine (HCC.out (w1.alloc (.cells #[.slice none 0 0, .slice none 0 0] 28)).drew (below_one _).drew).mono ?_; rintro e wq ⟨M, rfl, hbq, HM⟩; have hbq1 : Below w1.heap.size w1 wq := (below_one (w := w1) (.cells #[.slice none 0 0, .slice none 0 0] 28)).drew.trans (hbq.mono (by simp)); have u0 := cellTo hbq1 x0 xg; have u1 := cellTo hbq1 x1 xg; have u2 := cellTo hbq1 a3 hwz; have hrq := (HTZ.out.drew).of_block (hbq.block _ (by simp)); have v0 := hrq.cell (i := 0) (by omega); have v1 := hrq.cell (i := 1) (by omega); have f0 := hrq.frozen 0; have f1 := hrq.frozen 1; dsimp only))
    · have HRW : Hid ((wq.alloc (.cells #[.slice M.na M.n M.nc, .slice M.ea M.m M.ec] 28)).rowIs wq.heap.size 28 2 (fun j => #[Value.slice M.na M.n M.nc, .slice M.ea M.m M.ec].getD j undef)) := row_new _ _ _ 2 rfl
      have HBX : Hid (Below w1.heap.size w1 (wq.alloc (.cells #[.slice M.na M.n M.nc, .slice M.ea M.m M.ec] 28))) := ((Below.refl w1.heap.size w1).drew.trans hbq).alloc hzq _
      have HLS : Hid (∀ wx : World, (∀ b, w1.heap.size ≤ b → b < (wq.alloc (.cells #[.slice M.na M.n M.nc, .slice M.ea M.m M.ec] 28)).heap.size → b ≠ wq.heap.size → wx.heap[b]? = (wq.alloc (.cells #[.slice M.na M.n M.nc, .slice M.ea M.m M.ec] 28)).heap[b]?) → (wq.alloc (.cells #[.slice M.na M.n M.nc, .slice M.ea M.m M.ec] 28)).heap.size ≤ wx.heap.size → ∃ (tx : Nat → ByteArray) (k : Nat → Nat) (z : Nat → Nat → Int) (vs : Nat → Option Addr) (cs : Nat → Nat), (comL L a).Twin M ∧ M.m ≤ 1000 ∧ (∀ i, i < M.m → 1 ≤ k i ∧ k i ≤ 1000) ∧ M.In wx.heap.size wx ∧ wx.ownsRow w1.heap.size 63 2 (.slice M.ea M.m M.ec) M.m (entC tx k vs cs M.m) ∧ EntsO w1.heap.size k z M.m vs cs wx) := fun wx hx hz => by
        obtain ⟨h1, h2, tx, k, z, vs, cs, h3, h4⟩ := HM.out
        obtain ⟨i1, i2, i3⟩ := h4 wx (fun b hb1 hb2 => by
          have hb1' : w1.heap.size ≤ b := hb1
          rw [hx b hb1' (by simp; omega) (by omega)]
          exact (below_one (w := wq) _).block b hb2) (by simp at hz; omega)
        exact ⟨tx, k, z, vs, cs, h1, h2, h3, i1, i2, i3⟩
      clear u0 u1 u2 hbq HM
      go_wp2
      go_meet
      exact ⟨wq.heap.size, M, rfl, rfl, rfl, hzq, HRW, HBX, HLS⟩
    · have hO : OnlyRow w1.heap.size wq ((wq.setCell ⟨w1.heap.size, 0, none⟩ (.slice M.na M.n M.nc)).setCell ⟨w1.heap.size, 1, none⟩ (.slice M.ea M.m M.ec)) := (OnlyRow.setCell _ _ _ _).trans (OnlyRow.setCell _ _ _ _)
      have HRW : Hid (((wq.setCell ⟨w1.heap.size, 0, none⟩ (.slice M.na M.n M.nc)).setCell ⟨w1.heap.size, 1, none⟩ (.slice M.ea M.m M.ec)).rowIs w1.heap.size 28 2 (fun j => #[Value.slice M.na M.n M.nc, .slice M.ea M.m M.ec].getD j undef)) := ((hrq.set 0 _).set 1 _).congr fun j hj => by
        have : j = 0 ∨ j = 1 := by omega
        rcases this with rfl | rfl <;> rfl
      have HBX : Hid (Below w1.heap.size w1 ((wq.setCell ⟨w1.heap.size, 0, none⟩ (.slice M.na M.n M.nc)).setCell ⟨w1.heap.size, 1, none⟩ (.slice M.ea M.m M.ec))) := hO.below hbq1 (Nat.le_refl _)
      have HLS : Hid (∀ wx : World, (∀ b, w1.heap.size ≤ b → b < ((wq.setCell ⟨w1.heap.size, 0, none⟩ (.slice M.na M.n M.nc)).setCell ⟨w1.heap.size, 1, none⟩ (.slice M.ea M.m M.ec)).heap.size → b ≠ w1.heap.size → wx.heap[b]? = ((wq.setCell ⟨w1.heap.size, 0, none⟩ (.slice M.na M.n M.nc)).setCell ⟨w1.heap.size, 1, none⟩ (.slice M.ea M.m M.ec)).heap[b]?) → ((wq.setCell ⟨w1.heap.size, 0, none⟩ (.slice M.na M.n M.nc)).setCell ⟨w1.heap.size, 1, none⟩ (.slice M.ea M.m M.ec)).heap.size ≤ wx.heap.size → ∃ (tx : Nat → ByteArray) (k : Nat → Nat) (z : Nat → Nat → Int) (vs : Nat → Option Addr) (cs : Nat → Nat), (comL L a).Twin M ∧ M.m ≤ 1000 ∧ (∀ i, i < M.m → 1 ≤ k i ∧ k i ≤ 1000) ∧ M.In wx.heap.size wx ∧ wx.ownsRow w1.heap.size 63 2 (.slice M.ea M.m M.ec) M.m (entC tx k vs cs M.m) ∧ EntsO w1.heap.size k z M.m vs cs wx) := fun wx hx hz => by
        obtain ⟨h1, h2, tx, k, z, vs, cs, h3, h4⟩ := HM.out
        have hsz : (w1.alloc (.cells #[.slice none 0 0, .slice none 0 0] 28)).drew.heap.size = w1.heap.size + 1 := by simp
        obtain ⟨i1, i2, i3⟩ := h4 wx (fun b hb1 hb2 => by
          rw [hsz] at hb1
          rw [hx b (by omega) (by rw [hO.size]; exact hb2) (by omega)]
          exact hO.block b (by omega)) (by rw [hO.size] at hz; exact hz)
        rw [hsz] at i2 i3
        exact ⟨tx, k, z, vs, cs, h1, h2, h3, i1, ownC_base i2 (by omega), i3.base (by omega)⟩
      clear u0 u1 u2 hbq HM hO hrq v0 v1 f0 f1 hbq1
      go_wp2
      go_meet
      exact ⟨w1.heap.size, M, rfl, rfl, rfl, Nat.le_refl _, HRW, HBX, HLS⟩
  case rest =>
    rename World => wc
    obtain ⟨gt, M, rfl, rfl, rfl, hgt, HRc, HBc, HLS⟩ := hcut
    have hzc := HBc.out.size
    have hgtc := HRc.out.lt
    have b1' := cellTo HBc.out (cellTo HLT.out.below HA.out.1 (by show w.heap.size < _; omega)) hwz
    have b2' := cellTo HBc.out (cellTo HLT.out.below HA.out.2.1 (by show w.heap.size < _; omega)) hwz
    clear x0 x1 a3 HCC HTZ
    have HCS : Hid (Calls Tryz.prog 24 #[.pointer (some ⟨g, 0, none⟩), .agg #[.slice L.na L.n L.nc, .slice L.ea L.m L.ec]] wc fun e w' => e = .returned (.bool true) ∧ Below W.heap.size W w' ∧ Hid (Kp w1.heap.size wc w')) := still_keep L W HLW.out g gn ge gl vo vc wc (HLT.out.later HBc.out) w1.heap.size HBD.out
    go_wp2_with fail
    refine (HCS.out).mono ?_
    rintro e w3 ⟨rfl, hb3, HKP⟩
    have hz3 : wc.heap.size ≤ w3.heap.size := by
      have h1 := HKP.out (wc.heap.size - 1) (by omega) (by omega)
      rw [Array.getElem?_eq_getElem (show wc.heap.size - 1 < wc.heap.size by omega)] at h1
      have h2 := (Array.getElem?_eq_some_iff.1 h1).1
      omega
    have HR3 : Hid (w3.rowIs gt 28 2 (fun j => #[Value.slice M.na M.n M.nc, .slice M.ea M.m M.ec].getD j undef)) := HRc.out.of_block (HKP.out gt hgt hgtc)
    have HB3 : Hid (Below w.heap.size w w3) := HBW.out.trans (hb3.mono (by omega))
    have hW3 : W.heap.size ≤ w3.heap.size := hb3.size
    have HL3 : Hid (∀ wx : World, (∀ b, w1.heap.size ≤ b → b < w3.heap.size → b ≠ gt → wx.heap[b]? = w3.heap[b]?) → w3.heap.size ≤ wx.heap.size → ∃ (tx : Nat → ByteArray) (k : Nat → Nat) (z : Nat → Nat → Int) (vs : Nat → Option Addr) (cs : Nat → Nat), (comL L a).Twin M ∧ M.m ≤ 1000 ∧ (∀ i, i < M.m → 1 ≤ k i ∧ k i ≤ 1000) ∧ M.In wx.heap.size wx ∧ wx.ownsRow w1.heap.size 63 2 (.slice M.ea M.m M.ec) M.m (entC tx k vs cs M.m) ∧ EntsO w1.heap.size k z M.m vs cs wx) := fun wx hx hz => HLS.out wx (fun b h1 h2 h3 => (hx b h1 (by omega) h3).trans (HKP.out b h1 h2)) (by omega)
    have o1 := cellTo hb3 HA.out.1 (by show w.heap.size < _; omega)
    have o2 := cellTo hb3 HA.out.2.1 (by show w.heap.size < _; omega)
    have o3 := cellTo hb3 HA.out.2.2 (by show w.heap.size < _; omega)
    have hgt3 := HR3.out.lt
    have HCR : Hid (Calls Tryz.prog 35 #[.agg #[.slice L.na L.n L.nc, .slice L.ea L.m L.ec], .string a] w3 fun e w' => ∃ N : Lay, e = .returned (.tuple #[.agg #[.slice N.na N.n N.nc, .slice N.ea N.m N.ec], .int .i64 er, .int .i64 (ct : Nat)]) ∧ Below w3.heap.size w3 w' ∧ Hid (Lasts L a w3.heap.size w'.heap.size w' N)) := by
      refine (refCompile_any L a w3 (HL.out w3 HB3.out) ha).mono ?_
      intro e w' hans
      rw [HER.out.1, HER.out.2]
      exact lasts_of hans (Nat.le_refl _)
    clear b1' b2' HCS HLS HRc HBc HKP hb3
    go_wp2_with fail
    refine (HCR.out).mono ?_
    rintro e w4 ⟨N, rfl, hb4, HN⟩
    have hz4 := hb4.size
    have HR4 : Hid (∀ wx, Below w4.heap.size w4 wx → wx.cell? ⟨gt, 0, none⟩ = some (.slice M.na M.n M.nc) ∧ wx.cell? ⟨gt, 1, none⟩ = some (.slice M.ea M.m M.ec)) := fun wx hb => by
      have hr : wx.rowIs gt 28 2 (fun j => #[Value.slice M.na M.n M.nc, .slice M.ea M.m M.ec].getD j undef) := (HR3.out.of_block (hb4.block _ hgt3)).of_block (hb.block _ (by omega))
      exact ⟨hr.cell (i := 0) (by omega), hr.cell (i := 1) (by omega)⟩
    have HM4 : Hid (∀ wx, Below w4.heap.size w4 wx → ∃ (tx : Nat → ByteArray) (k : Nat → Nat) (z : Nat → Nat → Int) (vs : Nat → Option Addr) (cs : Nat → Nat), (comL L a).Twin M ∧ M.m ≤ 1000 ∧ (∀ i, i < M.m → 1 ≤ k i ∧ k i ≤ 1000) ∧ M.In wx.heap.size wx ∧ wx.ownsRow w1.heap.size 63 2 (.slice M.ea M.m M.ec) M.m (entC tx k vs cs M.m) ∧ EntsO w1.heap.size k z M.m vs cs wx) := fun wx hb => HL3.out wx (fun b _ h2 _ => (hb.block b (by omega)).trans (hb4.block b h2)) (by have := hb.size; omega)
    have HN4 : Hid (∀ wx, Below w4.heap.size w4 wx → (comL L a).Twin N ∧ N.In wx.heap.size wx) := fun wx hb => by
      obtain ⟨h1, _, _, _, _, _, _, _, h4⟩ := HN.out
      exact ⟨h1, (h4 wx (fun b _ h2 => hb.block b h2) hb.size).1⟩
    have HB4 : Hid (Below w.heap.size w w4) := HB3.out.trans (hb4.mono (by omega))
    have hzz4 : w1.heap.size ≤ w4.heap.size := by omega
    clear o1 o2 o3 HCR hb4 HN HL3 HR3
    obtain ⟨W4, hW4⟩ : ∃ x, x = w4.alloc (.cells #[.slice N.na N.n N.nc, .slice N.ea N.m N.ec] 28) := ⟨_, rfl⟩
    have HB5 : Hid (Below w4.heap.size w4 W4) := by show Below _ _ _; rw [hW4]; exact below_one _
    have HCE : Hid (Calls Tryz.prog 27 #[.agg #[.slice M.na M.n M.nc, .slice M.ea M.m M.ec], .agg #[.slice N.na N.n N.nc, .slice N.ea N.m N.ec]] W4 fun e w' => e = .returned (.bool true) ∧ Below W4.heap.size W4 w') := by
      obtain ⟨_, _, _, _, _, h1, _, _, h2, _⟩ := HM4.out W4 HB5.out
      exact sameTable_any M N W4 h2 (HN4.out W4 HB5.out).2 (twin_two h1 (HN4.out W4 HB5.out).1)
    obtain ⟨p0, p1⟩ := HR4.out w4 (Below.refl _ _)
    have hgt4 : gt < w4.heap.size := by omega
    have hzW := HB5.out.size
    go_wp2_with fail
    rw [← hW4]
    clear hW4
    refine (HCE.out).mono ?_
    rintro e w5 ⟨rfl, hb5⟩
    have HB6 : Hid (Below w4.heap.size w4 w5) := HB5.out.trans (hb5.mono hzW)
    obtain ⟨p4, p5⟩ := HR4.out w5 HB6.out
    have hz5 := hb5.size
    have HCA : Hid (Calls Tryz.prog 28 #[.agg #[.slice M.na M.n M.nc, .slice M.ea M.m M.ec]] w5 fun e w' => e = .returned (.bool true) ∧ Below w1.heap.size w5 w') := by
      obtain ⟨tx, k, z, vs, cs, h1, h2, h3, h4, h5, h6⟩ := HM4.out w5 HB6.out
      exact asunder_any w1.heap.size M.m _ _ _ _ _ tx k z vs cs w5 (by omega) h2 h3 h5 h6
    clear p0 p1 HCE hb5
    go_wp2_with fail
    refine (HCA.out).mono ?_
    rintro e w6 ⟨rfl, hb6⟩
    have HBF : Hid (Below w.heap.size w w6) := (HB4.out.trans (HB6.out.mono (by omega))).trans (hb6.mono (by omega))
    clear p4 p5 HCA hb6
    have q1 : (er == er) = true := by simp
    go_wp2
    go_ret
    exact ⟨rfl, HBF.out⟩

set_option maxRecDepth 100000 in
set_option maxHeartbeats 1000000 in
theorem plays_compile (L : Lay) (a b : ByteArray) (lev : Int) (ra : Option Addr) (rn rc : Nat) (w : World) (h : L.In w.heap.size w) (ha : a.size ≤ 140737488351232) :
    Calls Tryz.prog 6 #[.agg #[.int .i64 9, .slice L.na L.n L.nc, .slice L.ea L.m L.ec, .string a, .string b, .int .i64 lev, .slice ra rn rc]] w fun e w' => e = .returned (.bool true) ∧ Below w.heap.size w w' := by
  have HL : Hid (∀ w', Below w.heap.size w w' → L.In w'.heap.size w') := fun w' hb => h.later hb
  clear h
  go_enter Tryz.func6, Tryz.ntmps6
  go_wp2_with fail
  refine (compiles_any L _ _ _ _ _ _ _ _ (HL.out _ (below_one _)) ha).mono ?_
  rintro e w1 ⟨rfl, hb1⟩
  go_wp2
  go_ret
  exact ⟨rfl, below_then (below_one _) hb1⟩

end Go.Proofs.YtpclldccjpncdabGreat

namespace Go.Proofs.YtpclldccjpncdabGreat
open Go.ChangeShapes Go.WideShapes Go.ChangeAt Go.RowKit
set_option linter.unusedVariables false

theorem compiles_own : ownKnob Tryz.prog.godebug = none := by kernel_rfl
theorem compiles_laidOut : laidOutB Tryz.prog = true := by kernel_rfl

set_option maxHeartbeats 400000 in
theorem compiles_walk (ao : Option Addr) (n cap b off : Nat) (kind : Nat → Int) (T : Nat → Lay) (sa sb : Nat → ByteArray) (lev : Nat → Int) (ra : Nat → Option Addr) (rn rc : Nat → Nat) (w : World)
    (h : OpsIn w.heap.size w ao n b off kind T sa sb lev ra rn rc) :
    Calls Tryz.prog 3 #[.slice ao n cap] w fun e w' => e = .returned (.bool true) ∧ Below w.heap.size w w' := by
  have HU : Hid (Calls Tryz.prog 5 #[.slice ao n cap, .int .i64 9, .int .i64 9] w fun e w' => e = .returned (.int .i64 (-1)) ∧ Below w.heap.size w w') :=
    upTo_any 9 9 ao n cap b off kind T sa sb lev ra rn rc w h fun i hi h1 h2 wr hb => by
      have hk : kind i = 9 := by omega
      rw [hk]
      exact plays_compile (T i) _ _ _ _ _ _ wr (((h.lay i hi).below hb).mono hb.size) (h.fit i hi)
  clear h
  go_enter Tryz.func3, Tryz.ntmps3
  go_wp2_with (go_at_call 5; refine HU.out.mono ?_; rintro e w1 ⟨rfl, hb1⟩)
  go_ret
  exact ⟨rfl, hb1⟩

set_option maxRecDepth 100000 in
theorem compiles_lifted (os : Os) (started : os.Started) (H : Type) (enc : TypeId × Value → H) :
    ReturnsInHanded {} Tryz.checked os 3 .any (Rows.compilesSpec.pre6 enc Tryz.prog Tryz.f3 Rows.compilesRow.domain false) (Rows.compilesSpec.post enc Tryz.prog Tryz.f3 false true false false) := by
  refine returnsInHanded_of_change_sized (C := Tryz.checked) compiles_own started (by kernel_rfl) Tryz.func3
    (ChangeSpec.witness6 (enc := enc) (C := Tryz.checked) false ⟨#[], #[.slice none 0 0], []⟩ 8 (by kernel_rfl) (by kernel_rfl) (by kernel_rfl) (by kernel_rfl)) ?_
  intro W base args ds gs before hval0 hW hcnd hsz0 _
  have hsz : (DataW.weightsEach Tryz.prog (Tryz.f3.params.toList ++ Rows.compilesSpec.plain.varTypes Tryz.prog) (ds ++ gs)).all (· ≤ reachBytes) = true := hsz0
  clear hsz0
  have hval : ∀ (j : Nat) t v, Tryz.f3.params[j]? = some t → args[j]? = some v → Value.okWide Tryz.prog W .any base t v := hval0
  have hW' := hW
  obtain ⟨p, q, hA0, hV, rfl, hfz, hnd⟩ := hW
  have hA : DataW.TrodAll enc Tryz.prog W 0 (fun _ => true) true Tryz.f3.params.toList args.toList ds p := hA0
  rw [Tryz.params3] at hA hval hsz
  obtain ⟨v0, vs0, d0, ds0, p0, q0, hargs, rfl, rfl, h0, r0⟩ := trodAll_cons hA
  obtain ⟨rfl, rfl, rfl⟩ := trodAll_nil r0
  obtain rfl : args = #[v0] := by cases args; simp_all
  obtain ⟨rfl, rfl⟩ := trodVars_none hV
  obtain ⟨a0, len0, cap0, rfl⟩ := okWide_slice Tryz.underlying22 (hval 0 22 v0 rfl rfl)
  have k0 := h0
  have lt0 : ∀ x ∈ p0, x.block < W.heap.size := by obtain ⟨m, hm⟩ := k0; exact DataW.trod_lt m _ _ _ hm
  have hfit : Fit 22 d0 := fun m hm => by
    have := List.all_eq_true.1 hsz m (DataW.weights_mem_each (j := 0) (t := 22) rfl rfl m hm)
    exact of_decide_eq_true this
  obtain ⟨fuel, hf⟩ := h0
  obtain ⟨ao, n, cap, b, off, kind, T, sa, sb, lev, ra, rn, rc, hcs, hops⟩ := open_ops hf hfit
  simp [Value.cells] at hcs
  obtain ⟨rfl, rfl, rfl⟩ := hcs
  clear hA0 hval0
  refine (compiles_walk _ _ _ b off kind T sa sb lev ra rn rc W hops).mono fun e W' ⟨he, bel⟩ => ?_
  subst he
  exact ⟨_, rfl, _, _, _, [], _, [], hW', trodAll_mk1 (shut_bool Tryz.underlying4 _), (trodAll_cons_mk (Below.trod compiles_laidOut (by kernel_rfl) (of_decide_eq_true (by kernel_rfl)) k0 bel lt0) trodAll_mk0), rfl, bel.frame _, fun h => by cases h⟩

theorem compiles_over : Rows.compilesRow.holds Tryz.pinned (OpenSpec.ofChange Rows.compilesSpec) :=
  OpenClaim.holds_of_wide 3 Tryz.f3 rfl rfl rfl rfl rfl rfl rfl ⟨rfl, rfl, rfl, rfl, rfl⟩ rfl rfl rfl rfl rfl (by kernel_rfl) Tryz.func3 (by kernel_rfl)
    (of_decide_eq_true (by kernel_rfl)) (by unfold Func.isWrapper; first | (rw [if_pos (by decide +kernel)]; kernel_rfl) | (rw [if_neg (by decide +kernel)]; exact ⟨rfl, rfl⟩))
    (fun os started H enc _ => compiles_lifted os started H enc)

theorem compiles_proved : Rows.CompilesSaid := compiles_over
#print axioms compiles_proved
end Go.Proofs.YtpclldccjpncdabGreat
