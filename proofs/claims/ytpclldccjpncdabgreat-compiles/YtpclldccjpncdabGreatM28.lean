import Derived.Test.YtpclldccjpncdabGreatM27
import Derived.Deep.RegionHeld3
namespace Go.Proofs.YtpclldccjpncdabGreat
open Go.RowKit

/-- what Compile answers -/
def CmpAns (L : Lay) (s : ByteArray) (w : World) (e : Ending) (w' : World) : Prop := Below w.heap.size w w' ∧
  ((∃ (x : Int) (a : Nat), compE L s = .error (x, a) ∧ e = .returned (.tuple #[.agg #[.slice none 0 0, .slice none 0 0], .int .i64 x, .int .i64 (a : Nat)])) ∨
   (∃ (ls : List Sp) (es : List En) (no : Option Addr) (nc : Nat) (eo : Option Addr) (ec : Nat) (vs : Nat → Option Addr) (cs : Nat → Nat), compE L s = .ok (ls, es) ∧ e = .returned (.tuple #[.agg #[.slice no ls.length nc, .slice eo es.length ec], .int .i64 0, .int .i64 0]) ∧ w'.ownsRow w.heap.size 65 3 (.slice no ls.length nc) ls.length (ndsC ls) ∧ w'.ownsRow w.heap.size 63 2 (.slice eo es.length ec) es.length (entC (txE es) (kE es) vs cs es.length) ∧ EntsO w.heap.size (kE es) (zE es) es.length vs cs w'))
theorem begD {L : Lay} {g : Nat} {a : Option Addr} {c gv : Nat} {w : World} (hrow : w.rowIs g 122 4 (drF a L.n c L.ea L.m L.ec (.slice none 0 0) 0)) (hm : MemIn w.heap.size w a gv (lsB L L.n)) (hf : 0 < L.n → gv ≠ g) (hin : EntriesIn w.heap.size w L.ea L.m L.eb L.eo L.tx L.la L.k L.lc L.lb L.lo L.z) (hfe : 0 < L.m → L.eb ≠ g) (hfi : ∀ i, i < L.m → 0 < L.k i → L.lb i ≠ g) : Dr g (begS L) w := by
  have hls : (begS L).ls.length = L.n := lsB_len L L.n
  refine ⟨emB L, a, L.ea, c, L.ec, gv, L.eb, L.eo, .slice none 0 0, ?_, esM_emB L, hm, emB_in hin, ?_, ?_, ?_, fun x hx h0 => ?_, fun h0 => absurd h0 (Nat.lt_irrefl 0)⟩
  · rw [hls, emB_len]
    exact hrow
  · exact SlIn.of (zs := []) (b := 0) (o := 0) ⟨fun h => absurd h (Nat.lt_irrefl 0), fun h => absurd h (Nat.lt_irrefl 0), fun i h => absurd h (Nat.not_lt_zero _), by decide⟩
  · rw [hls]; exact hf
  · rw [emB_len]; exact hfe
  · rw [emB, List.mem_map] at hx
    obtain ⟨j, hj, rfl⟩ := hx
    rw [List.mem_range] at hj
    have hk : (enB L j).zs.length = L.k j := by simp [enB]
    have h0' : 0 < L.k j := by rw [← hk]; exact h0
    have ha := (hin.ints j hj).addr h0'
    show aB (L.la j) ≠ g
    rw [ha]
    exact hfi j hj h0'

set_option maxRecDepth 100000 in
set_option maxHeartbeats 8000000 in
theorem compileP_any (L : Lay) (s : ByteArray) (w : World) (h : L.In w.heap.size w) (hs : s.size ≤ 140737488351232) :
    Calls Tryz.prog 60 #[.agg #[.slice L.na L.n L.nc, .slice L.ea L.m L.ec], .string s] w (CmpAns L s w) := by
  have HIN : Hid (∀ wx, Below w.heap.size w wx → L.In w.heap.size wx) := fun wx hb => h.below hb
  have HLA : Hid (∀ wx, Below w.heap.size w wx → L.In wx.heap.size wx) := fun wx hb => h.later hb
  clear h
  obtain ⟨W, hW⟩ : ∃ W, W = (w.alloc (.cells #[.slice L.na L.n L.nc, .slice L.ea L.m L.ec] 28)).alloc (.cells #[.slice none 0 0, .slice none 0 0] 28) := ⟨_, rfl⟩
  have HB0 : Hid (Below w.heap.size w W) := by show Below _ _ _; rw [hW]; exact below_then (below_one _) (below_one _)
  have HT0 : Hid (W.rowIs w.heap.size 28 2 (fun j => #[Value.slice L.na L.n L.nc, .slice L.ea L.m L.ec].getD j undef)) := by show World.rowIs _ _ _ _ _; rw [hW]; exact (row_new _ _ _ 2 rfl).alloc _
  have HR0 : Hid (W.rowIs (w.heap.size + 1) 28 2 (fun j => #[Value.slice none 0 0, .slice none 0 0].getD j undef)) := by show World.rowIs _ _ _ _ _; rw [hW]; exact row_at (row_new _ _ _ 2 rfl) (by simp) (fun _ _ => rfl)
  have HWS : Hid (W.heap.size = w.heap.size + 2) := by show _ = _; rw [hW]; simp
  have hws := HWS.out
  have t0 : W.cell? ⟨w.heap.size, 0, none⟩ = some (.slice L.na L.n L.nc) := HT0.out.cell (i := 0) (by omega)
  have t1 : W.cell? ⟨w.heap.size, 1, none⟩ = some (.slice L.ea L.m L.ec) := HT0.out.cell (i := 1) (by omega)
  have HCV : Hid (Calls Tryz.prog 36 #[.agg #[.slice L.na L.n L.nc, .slice L.ea L.m L.ec]] W fun e w' => e = .returned (.int .i64 L.err) ∧ Below W.heap.size W w') := tableValid_any L W (HLA.out W HB0.out)
  obtain ⟨er0, her0⟩ : ∃ x, x = L.err := ⟨_, rfl⟩
  have HER : Hid (er0 = L.err) := her0
  rw [← her0] at HCV
  clear her0
  go_enter Tryz.func60, Tryz.ntmps60
  go_wp2_with fail
  rw [← hW]
  clear hW
  refine (HCV.out).mono ?_
  rintro e w1 ⟨rfl, hb1⟩
  have HB1 : Hid (Below W.heap.size W w1) := hb1
  have hz1 := hb1.size
  have HR1 : Hid (w1.rowIs (w.heap.size + 1) 28 2 (fun j => #[Value.slice none 0 0, .slice none 0 0].getD j undef)) := HR0.out.of_block (hb1.block _ (by omega))
  have HT1 : Hid (w1.rowIs w.heap.size 28 2 (fun j => #[Value.slice L.na L.n L.nc, .slice L.ea L.m L.ec].getD j undef)) := HT0.out.of_block (hb1.block _ (by omega))
  have HBW1 : Hid (Below w.heap.size w w1) := HB0.out.trans (hb1.mono (by omega))
  clear t0 t1 hb1 HCV
  by_cases he0 : er0 = 0
  · subst he0
    have HL0 : Hid (L.err = 0) := HER.out.symm
    have HCR : Hid (Calls Tryz.prog 53 #[.string s] w1 fun e w' => ∃ (R : List Rl) (v : Value) (a : Nat) (er : Int), e = .returned (.tuple #[v, .int .i64 er, .int .i64 (a : Nat)]) ∧ Hid (rdAll s = (R, er, a) ∧ R.length ≤ 120) ∧ Hid (w'.ownsRow w1.heap.size 57 5 v R.length (rulC R)) ∧ Below w1.heap.size w1 w') := ruleRead_any s w1 hs
    go_wp2_with fail
    refine (HCR.out).mono ?_
    rintro e w2 ⟨R, v, a, er, rfl, HRD, HRO, hb2⟩
    have hz2 := hb2.size
    have HR2 : Hid (w2.rowIs (w.heap.size + 1) 28 2 (fun j => #[Value.slice none 0 0, .slice none 0 0].getD j undef)) := HR1.out.of_block (hb2.block _ (by omega))
    have HT2 : Hid (w2.rowIs w.heap.size 28 2 (fun j => #[Value.slice L.na L.n L.nc, .slice L.ea L.m L.ec].getD j undef)) := HT1.out.of_block (hb2.block _ (by omega))
    have HBW2 : Hid (Below w.heap.size w w2) := HBW1.out.trans (hb2.mono (by omega))
    have HSM : Hid (∀ x ∈ R, x.small) := by have := rdAll_small s; rw [HRD.out.1] at this; exact this
    obtain ⟨ro, rb, rc, hv, hri⟩ := rules_in HRO.out (by have := HRD.out.2; omega) HSM.out
    subst hv
    have HRI : Hid (RulesIn w2.heap.size w2 ro R.length rb 0 (fun i => R.getD i default)) := hri
    clear hri hb2 HCR
    by_cases her : er = 0
    · subst her
      have HLN : Hid (R.length ≤ 120) := HRD.out.2
      have HGD : Hid ((∀ r ∈ R, r.ok) ∧ (∀ r, R.head? = some r → r.reset.size ≠ 0)) := ⟨(rdAll_good HRD.out.1).1, (rdAll_good HRD.out.1).2.1⟩
      have t0 : w2.cell? ⟨w.heap.size, 0, none⟩ = some (.slice L.na L.n L.nc) := HT2.out.cell (i := 0) (by omega)
      have t1 : w2.cell? ⟨w.heap.size, 1, none⟩ = some (.slice L.ea L.m L.ec) := HT2.out.cell (i := 1) (by omega)
      have HCM : Hid (∀ wz, Below w2.heap.size w2 wz → Calls Tryz.prog 85 #[.slice L.na L.n L.nc] wz fun e w' => ∃ (a : Option Addr) (c : Nat), e = .returned (.slice a L.n c) ∧ Hid (w'.ownsRow wz.heap.size 145 6 (.slice a L.n c) L.n (memC (lsB L L.n))) ∧ Below wz.heap.size wz w') := fun wz hb => membersOf_any L wz (HLA.out wz (below_then HBW2.out hb)).nodes (err_zero HL0.out).n
      have hzz : w.heap.size < w2.heap.size := by omega
      have hne1 : w.heap.size ≠ w2.heap.size := by omega
      have hne2 : w2.heap.size ≠ w.heap.size := by omega
      have HDZ : Hid ((w2.alloc (.cells #[.slice none 0 0, .slice none 0 0, .slice none 0 0, .int .i64 0] 122)).rowIs w2.heap.size 122 4 (fun j => #[Value.slice none 0 0, .slice none 0 0, .slice none 0 0, .int .i64 0].getD j undef)) := row_new _ _ _ 4 rfl
      go_upto_region 7 with (fail)
      go_cut [10] from 14 (fun v10 wd => ∃ g : Nat, v10 = .pointer (some ⟨g, 0, none⟩) ∧ w2.heap.size ≤ g ∧ Hid (Dr g (begS L) wd) ∧ Hid (Below w2.heap.size w2 wd))
      case first =>
        go_region_held3 (fun w' => w'.cell? ⟨w.heap.size, 0, none⟩ = some (.slice L.na L.n L.nc) ∧ w'.cell? ⟨w.heap.size, 1, none⟩ = some (.slice L.ea L.m L.ec)) (first | go_keep | (simp [hne1, hne2, u0, u1]; done) | (refine ⟨(((((OnlyRow.setCell _ _ _ _).trans (OnlyRow.setCell _ _ _ _)).trans (OnlyRow.setCell _ _ _ _)).trans (OnlyRow.setCell _ _ _ _)).cell u0 hne1), (((((OnlyRow.setCell _ _ _ _).trans (OnlyRow.setCell _ _ _ _)).trans (OnlyRow.setCell _ _ _ _)).trans (OnlyRow.setCell _ _ _ _)).cell u1 hne1)⟩)) (first
          | (go_at_call 85; refine (HCM.out w2.drew (Below.refl _ _).drew).mono ?_; rintro e wq ⟨a', c', rfl, HOq, hbq⟩; have u0 := cellTo ((Below.refl w2.heap.size w2).drew.trans hbq) t0 hzz; have u1 := cellTo ((Below.refl w2.heap.size w2).drew.trans hbq) t1 hzz; have hzq : w.heap.size < wq.heap.size := Nat.lt_of_lt_of_le hzz hbq.size; dsimp only)
          | (go_at_call 85; refine (HCM.out (w2.alloc (.cells #[.slice none 0 0, .slice none 0 0, .slice none 0 0, .int .i64 0] 122)).drew (below_one _).drew).mono ?_; rintro e wq ⟨a', c', rfl, HOq, hbq⟩; have u0 := cellTo ((below_one (w := w2) (.cells #[.slice none 0 0, .slice none 0 0, .slice none 0 0, .int .i64 0] 122)).drew.trans (hbq.mono (by simp))) t0 hzz; have u1 := cellTo ((below_one (w := w2) (.cells #[.slice none 0 0, .slice none 0 0, .slice none 0 0, .int .i64 0] 122)).drew.trans (hbq.mono (by simp))) t1 hzz; have hrq := (HDZ.out.drew).of_block (hbq.block _ (by simp)); have v0 := hrq.cell (i := 0) (by omega); have v1 := hrq.cell (i := 1) (by omega); have v2 := hrq.cell (i := 2) (by omega); have v3 := hrq.cell (i := 3) (by omega); have f0 := hrq.frozen 0; have f1 := hrq.frozen 1; have f2 := hrq.frozen 2; have f3 := hrq.frozen 3; dsimp only))
        · have hl0 : lsB L L.n = (begS L).ls := rfl
          have hoo := HOq.out
          obtain ⟨gm, hm⟩ := mem_in (lsB_len L L.n).symm hoo
          have hbX : Below w2.heap.size w2 (wq.alloc (.cells #[.slice a' L.n c', .slice L.ea L.m L.ec, .slice none 0 0, .int .i64 0] 122)) := ((Below.refl w2.heap.size w2).drew.trans hbq).alloc hbq.size _
          have hzq2 : w2.heap.size ≤ wq.heap.size := hbq.size
          have HD : Hid (Dr wq.heap.size (begS L) (wq.alloc (.cells #[.slice a' L.n c', .slice L.ea L.m L.ec, .slice none 0 0, .int .i64 0] 122))) := by
            have hin := (HIN.out _ (HBW2.out.trans (hbX.mono (by omega)))).entries
            refine begD (gv := gm) (row_new _ _ _ 4 rfl) ((hm.below (below_one _)).mono (below_one _).size) (fun h0 => ?_) (HLA.out _ (HBW2.out.trans (hbX.mono (by omega)))).entries (fun h0 => ?_) (fun i hi h0 => ?_)
            · have := hm.lt (by rw [lsB_len]; exact h0)
              omega
            · have := hin.lt h0
              omega
            · have := (hin.ints i hi).lt h0
              omega
          have HBX : Hid (Below w2.heap.size w2 (wq.alloc (.cells #[.slice a' L.n c', .slice L.ea L.m L.ec, .slice none 0 0, .int .i64 0] 122))) := hbX
          clear hoo hm hbX u0 u1 hbq HOq hl0
          go_wp2
          go_meet
          exact ⟨wq.heap.size, rfl, hzq2, HD, HBX⟩
        · have hoo := HOq.out
          obtain ⟨gm, hm⟩ := mem_in (lsB_len L L.n).symm hoo
          have hOX : OnlyRow w2.heap.size wq ((((wq.setCell ⟨w2.heap.size, 0, none⟩ (.slice a' L.n c')).setCell ⟨w2.heap.size, 1, none⟩ (.slice L.ea L.m L.ec)).setCell ⟨w2.heap.size, 2, none⟩ (.slice none 0 0)).setCell ⟨w2.heap.size, 3, none⟩ (.int .i64 0)) := (((OnlyRow.setCell _ _ _ _).trans (OnlyRow.setCell _ _ _ _)).trans (OnlyRow.setCell _ _ _ _)).trans (OnlyRow.setCell _ _ _ _)
          have hbq2 : Below w2.heap.size w2 wq := (below_one (w := w2) (.cells #[.slice none 0 0, .slice none 0 0, .slice none 0 0, .int .i64 0] 122)).drew.trans (hbq.mono (by simp))
          have hbX : Below w2.heap.size w2 ((((wq.setCell ⟨w2.heap.size, 0, none⟩ (.slice a' L.n c')).setCell ⟨w2.heap.size, 1, none⟩ (.slice L.ea L.m L.ec)).setCell ⟨w2.heap.size, 2, none⟩ (.slice none 0 0)).setCell ⟨w2.heap.size, 3, none⟩ (.int .i64 0)) := hOX.below hbq2 (Nat.le_refl _)
          have HD : Hid (Dr w2.heap.size (begS L) ((((wq.setCell ⟨w2.heap.size, 0, none⟩ (.slice a' L.n c')).setCell ⟨w2.heap.size, 1, none⟩ (.slice L.ea L.m L.ec)).setCell ⟨w2.heap.size, 2, none⟩ (.slice none 0 0)).setCell ⟨w2.heap.size, 3, none⟩ (.int .i64 0))) := by
            have hin := (HIN.out _ (HBW2.out.trans (hbX.mono (by omega)))).entries
            have hgm : 0 < L.n → gm ≠ w2.heap.size := fun h0 => by
              have ha := hm.addr (by rw [lsB_len]; exact h0)
              have := (ownC_lt hoo (b := gm) (by rw [ha]; rfl)).2
              simp at this
              omega
            refine begD (c := c') (gv := gm) ?_ (hm.keep (.only hOX) (by rw [lsB_len]; exact hgm)) hgm (HLA.out _ (HBW2.out.trans (hbX.mono (by omega)))).entries (fun h0 => ?_) (fun i hi h0 => ?_)
            · exact ((((hrq.set 0 _).set 1 _).set 2 _).set 3 _).congr fun j hj => by
                have : j = 0 ∨ j = 1 ∨ j = 2 ∨ j = 3 := by omega
                rcases this with rfl | rfl | rfl | rfl <;> rfl
            · have := hin.lt h0
              omega
            · have := (hin.ints i hi).lt h0
              omega
          have HBX : Hid (Below w2.heap.size w2 ((((wq.setCell ⟨w2.heap.size, 0, none⟩ (.slice a' L.n c')).setCell ⟨w2.heap.size, 1, none⟩ (.slice L.ea L.m L.ec)).setCell ⟨w2.heap.size, 2, none⟩ (.slice none 0 0)).setCell ⟨w2.heap.size, 3, none⟩ (.int .i64 0))) := hbX
          clear hoo hm hbX hOX hbq2 u0 u1 hbq HOq hrq v0 v1 v2 v3 f0 f1 f2 f3
          go_wp2
          go_meet
          exact ⟨w2.heap.size, rfl, Nat.le_refl _, HD, HBX⟩
      case rest =>
        rename World => wd
        obtain ⟨g, rfl, hg2, HDR, HBd⟩ := hcut
        clear t0 t1 HCM HDZ
        obtain ⟨N, hN⟩ : ∃ N, N = R.length := ⟨_, rfl⟩
        have HN : Hid (N = R.length) := hN
        rw [← hN] at HLN HRI HRO ⊢
        have hN120 := HLN.out
        clear hN
        have HRS : Hid (compE L s = match rulesE insE (begS L) R 0 with
            | .error x => .error x
            | .ok K => match weigh K.ls 0 0 0 with
              | none => .error (14, 0)
              | some ls' => .ok (ls', K.es.map fun e => ⟨e.tx, e.zs.map (plc K.ls)⟩)) := by
          show _ = _
          unfold compE
          rw [if_neg (by rw [HL0.out]; simp), HRD.out.1, if_neg (by simp)]
          rfl
        have HR3 : Hid (∀ wx, Below w2.heap.size w2 wx → wx.rowIs (w.heap.size + 1) 28 2 (fun j => #[Value.slice none 0 0, .slice none 0 0].getD j undef)) := fun wx hb => HR2.out.of_block (hb.block _ (by omega))
        go_wp2
        go_loopw [7, 11] (fun ev iv wr => ∃ (i : Nat) (K : Wk), ev = .int .i64 0 ∧ i ≤ N ∧ iv = .int .i64 (i : Nat) ∧ Hid (rulesE insE (begS L) R 0 = rulesE insE K (R.drop i) i) ∧ Hid (GoodK K ∧ SortE K.es ∧ (i = 0 ∨ Anch K)) ∧ Hid (Dr g K wr) ∧ Below w2.heap.size w2 wr) (fun _ iv _ => N - (intOf iv).toNat)
        case atStart => exact ⟨0, begS L, rfl, Nat.zero_le _, rfl, rfl, ⟨begS_good HL0.out, esB_sort HL0.out, .inl rfl⟩, HDR, HBd.out⟩
        case round =>
          obtain ⟨i, K, rfl, hi, rfl, HRU, HGK, HDK, hbel⟩ := hrel
          have hsz := hbel.size
          by_cases hlt : i < N
          · have hlt' : i < R.length := by rw [← HN.out]; exact hlt
            have hltI : (i : Int) < (N : Int) := by omega
            have hri := HRI.out.below hbel
            have hro := hri.addr (by omega)
            have hrb := hri.lt (by omega)
            have c0 := hri.c0 i hlt
            have c1 := hri.c1 i hlt
            have c2 := hri.c2 i hlt
            have c3 := hri.c3 i hlt
            have c4 := hri.c4 i hlt
            simp only [Nat.zero_add] at c0 c1 c2 c3 c4
            subst hro
            obtain ⟨r, hr⟩ : ∃ r, r = R.getD i default := ⟨_, rfl⟩
            rw [← hr] at c0 c1 c2 c3 c4
            have hrm : r ∈ R := by rw [hr, getD_at hlt']; exact List.getElem_mem hlt'
            have HROK : Hid (r.ok) := HGD.out.1 r hrm
            have HDROP : Hid (R.drop i = r :: R.drop (i + 1)) := by show _ = _; rw [List.drop_eq_getElem_cons hlt', hr, getD_at hlt']
            have HAN : Hid (r.reset.size ≠ 0 ∨ Anch K) := by
              rcases HGK.out.2.2 with h0 | h0
              · left
                refine HGD.out.2 r ?_
                rw [hr, h0]
                cases R with
                | nil => simp at hlt'
                | cons a b => rfl
              · exact .inr h0
            obtain ⟨em, la, ea, lc, ec, gv, eb, eo, sv, hD⟩ := HDK.out
            have HCA : Hid (Calls Tryz.prog 86 #[.pointer (some ⟨g, 0, none⟩), .agg #[.string r.reset, .int .i64 r.before, .int .i64 r.level, .string r.text, .string r.more]] wr fun e w' => ∃ er : Int, e = .returned (.int .i64 er) ∧ Hid (AppR g K r er w') ∧ Hid (Below w2.heap.size wr w')) := apply_any w2.heap.size g K em la ea lc ec gv eb eo sv wr r HGK.out.1 HGK.out.2.1 HROK.out HAN.out hD hg2
            have HNEXT : Hid (∀ K', ruleE insE K r = .ok K' → GoodK K' ∧ SortE K'.es ∧ Anch K') := fun K' hq => by
              obtain ⟨g2, a2⟩ := ruleE_good HGK.out.1 (upd_ins HGK.out.2.1) HROK.out HAN.out hq
              refine ⟨g2, ?_, a2⟩
              have h1 : rulesE insE K [r] 0 = .ok K' := by
                unfold rulesE
                rw [hq]
                rfl
              exact (rulesE_good [r] K K' 0 HGK.out.1 HGK.out.2.1 (fun x hx => by rw [List.mem_singleton] at hx; rw [hx]; exact HROK.out) (HAN.out.imp (fun h x hx => by simp at hx; rw [← hx]; exact h) id) h1).2
            clear hr hrm hri hlt' hD
            go_wp2_with fail
            refine (HCA.out).mono ?_
            rintro e we ⟨er, rfl, HAP, HBe⟩
            have HBwe : Hid (Below w2.heap.size w2 we) := hbel.trans HBe.out
            clear c0 c1 c2 c3 c4 HCA
            cases hq : ruleE insE K r with
            | error x =>
              have hx := ruleE_err hq
              have hex : er = x := by
                have := HAP.out
                unfold AppR at this
                rw [hq] at this
                exact this
              subst hex
              have HE : Hid (compE L s = .error (er, i)) := by
                show _ = _
                rw [HRS.out, HRU.out, HDROP.out, rulesE, hq]
              have hne' : (er == 0) = false := by simp; omega
              have hne3 : (er != 0) = true := by simp; omega
              have HR4 : Hid (we.rowIs (w.heap.size + 1) 28 2 (fun j => #[Value.slice none 0 0, .slice none 0 0].getD j undef)) := HR3.out we HBwe.out
              have r0 := HR4.out.cell (i := 0) (by omega)
              have r1 := HR4.out.cell (i := 1) (by omega)
              have f0 := HR4.out.frozen 0
              have f1 := HR4.out.frozen 1
              clear hq hx HAP
              go_wp2
              refine bodyPost_ret (resC3 rfl _ (w.heap.size + 1) _ _ (by rfl) ((HR4.out.set 0 (.slice none 0 0)).set 1 (.slice none 0 0)) Tryz.underlying28 rfl sizeTabC) rfl ?_
              have hO : OnlyRow (w.heap.size + 1) we ((we.setCell ⟨w.heap.size + 1, 0, none⟩ (.slice none 0 0)).setCell ⟨w.heap.size + 1, 1, none⟩ (.slice none 0 0)) := (OnlyRow.setCell _ _ _ _).trans (OnlyRow.setCell _ _ _ _)
              exact ⟨hO.below (HBW2.out.trans (HBwe.out.mono (by omega))) (by omega), .inl ⟨er, i, HE.out, rfl⟩⟩
            | ok K' =>
              have hAP := HAP.out
              unfold AppR at hAP
              rw [hq] at hAP
              obtain ⟨hex, hdr⟩ := hAP
              subst hex
              have HD' : Hid (Dr g K' we) := hdr
              have HG' : Hid (GoodK K' ∧ SortE K'.es ∧ (i + 1 = 0 ∨ Anch K')) := ⟨(HNEXT.out K' hq).1, (HNEXT.out K' hq).2.1, .inr (HNEXT.out K' hq).2.2⟩
              have HRU' : Hid (rulesE insE (begS L) R 0 = rulesE insE K' (R.drop (i + 1)) (i + 1)) := by
                show _ = _
                rw [HRU.out, HDROP.out, rulesE, hq]
              clear hq hdr HAP
              go_wp2
              go_roundw
              case rel => exact ⟨i + 1, K', rfl, by omega, by go_num, HRU', HG', HD', HBwe.out⟩
              case measure => simp [intOf]; omega
          · have HRK : Hid (rulesE insE (begS L) R 0 = .ok K) := by
              show _ = _
              rw [HRU.out, List.drop_of_length_le (by rw [← HN.out]; omega)]
              rfl
            have hge : (N : Int) ≤ (i : Int) := by omega
            obtain ⟨em, la, ea, lc, ec, gv, eb, eo, sv, hD⟩ := HDK.out
            have HD : Hid (DrA g K em la ea lc ec gv eb eo sv wr) := hD
            have hn48 := HGK.out.1.ls
            have hm48 := HGK.out.1.es
            have hml : em.length = K.es.length := by rw [← hD.es]; exact (List.length_map _).symm
            obtain ⟨⟨d0, d1, _, _⟩, _⟩ := row4F hD.row
            simp only [drF] at d0 d1
            have HCW : Hid (Calls Tryz.prog 87 #[.slice la K.ls.length lc] wr fun e w' => ∃ (a : Option Addr) (n c : Nat) (b : Bool), e = .returned (.tuple #[.slice a n c, .bool b]) ∧ Hid ((weigh K.ls 0 0 0 = none ∧ b = false) ∨ (∃ ls', weigh K.ls 0 0 0 = some ls' ∧ b = true ∧ n = ls'.length ∧ w'.ownsRow wr.heap.size 65 3 (.slice a n c) n (ndsC ls'))) ∧ Below wr.heap.size wr w') := weighedP_any la lc gv K.ls wr (by omega) hD.list HGK.out.1.str
            obtain ⟨nk, hnk⟩ : ∃ n, n = K.ls.length := ⟨_, rfl⟩
            have HNK : Hid (nk = K.ls.length) := hnk
            rw [← hnk] at d0 HCW hn48
            obtain ⟨mk, hmk⟩ : ∃ n, n = em.length := ⟨_, rfl⟩
            have HMK : Hid (mk = em.length) := hmk
            rw [← hmk] at d1 hml
            have d0' : wr.cell? ⟨g, 0, none⟩ = some (.slice la nk lc) := d0
            have d1' : wr.cell? ⟨g, 1, none⟩ = some (.slice ea mk ec) := d1
            have hgr := hD.row.lt
            have HML : Hid (mk = K.es.length) := hml
            clear hD d0 d1 hnk hmk hml
            go_wp2_with fail
            refine (HCW.out).mono ?_
            rintro e we ⟨a', n', c', b, rfl, HWE, hbw⟩
            have HBwe : Hid (Below w2.heap.size w2 we) := hbel.trans (hbw.mono hsz)
            have hze := hbw.size
            have HR4 : Hid (we.rowIs (w.heap.size + 1) 28 2 (fun j => #[Value.slice none 0 0, .slice none 0 0].getD j undef)) := HR3.out we HBwe.out
            have e0 := cellTo hbw d0' hgr
            have e1 := cellTo hbw d1' hgr
            clear d0' d1' HCW
            cases b
            · have HE : Hid (compE L s = .error (14, 0)) := by
                show _ = _
                rw [HRS.out, HRK.out]
                rcases HWE.out with ⟨hn, _⟩ | ⟨_, _, hb, _⟩
                · simp only
                  rw [hn]
                · cases hb
              have r0 := HR4.out.cell (i := 0) (by omega)
              have r1 := HR4.out.cell (i := 1) (by omega)
              have f0 := HR4.out.frozen 0
              have f1 := HR4.out.frozen 1
              go_wp2
              refine bodyPost_ret (resC3 rfl _ (w.heap.size + 1) _ _ (by rfl) ((HR4.out.set 0 (.slice none 0 0)).set 1 (.slice none 0 0)) Tryz.underlying28 rfl sizeTabC) rfl ?_
              have hO : OnlyRow (w.heap.size + 1) we ((we.setCell ⟨w.heap.size + 1, 0, none⟩ (.slice none 0 0)).setCell ⟨w.heap.size + 1, 1, none⟩ (.slice none 0 0)) := (OnlyRow.setCell _ _ _ _).trans (OnlyRow.setCell _ _ _ _)
              exact ⟨hO.below (HBW2.out.trans (HBwe.out.mono (by omega))) (by omega), .inl ⟨14, 0, HE.out, rfl⟩⟩
            · have HWY : ∃ ls', weigh K.ls 0 0 0 = some ls' ∧ n' = ls'.length ∧ we.ownsRow wr.heap.size 65 3 (.slice a' n' c') n' (ndsC ls') := by
                rcases HWE.out with ⟨_, hb⟩ | ⟨ls', h1, _, h2, h3⟩
                · cases hb
                · exact ⟨ls', h1, h2, h3⟩
              obtain ⟨ls', hw1, hw2, hw3⟩ := HWY
              have HE : Hid (compE L s = .ok (ls', K.es.map fun e => ⟨e.tx, e.zs.map (plc K.ls)⟩)) := by
                show _ = _
                rw [HRS.out, HRK.out]
                simp only
                rw [hw1]
              have HWO : Hid (n' = ls'.length ∧ we.ownsRow wr.heap.size 65 3 (.slice a' n' c') n' (ndsC ls')) := ⟨hw2, hw3⟩
              have HDe : Hid (DrA g K em la ea lc ec gv eb eo sv we) := HD.out.below hbw
              have HCP : Hid (Calls Tryz.prog 88 #[.slice la nk lc, .slice ea mk ec] we fun e w' => ∃ (a : Option Addr) (c : Nat) (vs : Nat → Option Addr) (cs : Nat → Nat), e = .returned (.slice a mk c) ∧ Hid (w'.ownsRow we.heap.size 63 2 (.slice a mk c) mk (entC (txM em) (kM em) vs cs mk) ∧ EntsO we.heap.size (kM em) (zP K.ls em) mk vs cs w') ∧ Below we.heap.size we w') := by
                show Calls _ _ _ _ _
                rw [HNK.out, HMK.out]
                refine placedEntries_any la ea lc ec gv eb eo K.ls em we (by have := HNK.out; omega) (by have := HMK.out; have := HML.out; omega) HDe.out.list HDe.out.ents (fun x hx => ?_)
                have hxe : x.1 ∈ K.es := by rw [← HD.out.es]; exact List.mem_map_of_mem hx
                have hxg := HGK.out.1.ent _ hxe
                exact ⟨hxg.2.1.2, fun z hz => HGK.out.1.name z (hxg.2.2 z hz).1 (hxg.2.2 z hz).2⟩
              clear hw1 hw2 hw3 HWE
              go_wp2_with fail
              refine (HCP.out).mono ?_
              rintro e wf ⟨pa, pc, vs, cs, rfl, HPE, hbf⟩
              have HBwf : Hid (Below w2.heap.size w2 wf) := HBwe.out.trans (hbf.mono (by omega))
              have HR5 : Hid (wf.rowIs (w.heap.size + 1) 28 2 (fun j => #[Value.slice none 0 0, .slice none 0 0].getD j undef)) := HR3.out wf HBwf.out
              have r0 := HR5.out.cell (i := 0) (by omega)
              have r1 := HR5.out.cell (i := 1) (by omega)
              have f0 := HR5.out.frozen 0
              have f1 := HR5.out.frozen 1
              have HNO : Hid (wf.ownsRow wr.heap.size 65 3 (.slice a' n' c') n' (ndsC ls')) := ownC_below HWO.out.2 hbf
              have hze2 := hbf.size
              clear e0 e1 HCP hbf
              go_wp2
              refine bodyPost_ret (resC3 rfl _ (w.heap.size + 1) _ _ (by rfl) ((HR5.out.set 0 (.slice a' n' c')).set 1 (.slice pa mk pc)) Tryz.underlying28 rfl sizeTabC) rfl ?_
              have hO : OnlyRow (w.heap.size + 1) wf ((wf.setCell ⟨w.heap.size + 1, 0, none⟩ (.slice a' n' c')).setCell ⟨w.heap.size + 1, 1, none⟩ (.slice pa mk pc)) := (OnlyRow.setCell _ _ _ _).trans (OnlyRow.setCell _ _ _ _)
              have hel : (K.es.map fun e => (⟨e.tx, e.zs.map (plc K.ls)⟩ : En)).length = mk := by rw [List.length_map]; exact HML.out.symm
              have hat : ∀ j, j < mk → (K.es.map fun e => (⟨e.tx, e.zs.map (plc K.ls)⟩ : En)).getD j default = ⟨txM em j, (em.getD j default).1.zs.map (plc K.ls)⟩ := fun j hj => by
                have h1 : j < em.length := by rw [← HMK.out]; exact hj
                have h2 : j < (K.es.map fun e => (⟨e.tx, e.zs.map (plc K.ls)⟩ : En)).length := by rw [hel]; exact hj
                rw [getD_at h2, List.getElem_map]
                have h5 : j < K.es.length := by rw [← HML.out]; exact hj
                have h3 : K.es[j]'h5 = em[j].1 := by
                  have h4 := esM_at h1
                  rw [HD.out.es, getD_at h5, getD_at h1] at h4
                  exact h4
                rw [h3, txM, getD_at h1]
              refine ⟨hO.below (HBW2.out.trans (HBwf.out.mono (by omega))) (by omega), .inr ⟨ls', _, a', c', pa, pc, vs, cs, HE.out, ?_, ?_, ?_, ?_⟩⟩
              · rw [hel, ← HWO.out.1]
                rfl
              · rw [← HWO.out.1]
                exact ownC_base (own_only hO HNO.out (fun e => by have := (ownC_lt HNO.out e).2; omega)) (by omega)
              · rw [hel]
                have hec : entC (txE (K.es.map fun e => (⟨e.tx, e.zs.map (plc K.ls)⟩ : En))) (kE (K.es.map fun e => (⟨e.tx, e.zs.map (plc K.ls)⟩ : En))) vs cs mk = entC (txM em) (kM em) vs cs mk := by
                  unfold entC
                  rw [List.flatMap_def, List.flatMap_def]
                  congr 1
                  refine List.map_congr_left fun j hj => ?_
                  rw [List.mem_range] at hj
                  rw [txE, kE, hat j hj]
                  simp only [List.length_map]
                  rfl
                rw [hec]
                exact ownC_base (own_only hO HPE.out.1 (fun e => by have := (ownC_lt HPE.out.1 e).2; omega)) (by omega)
              · rw [hel]
                refine ⟨fun j hj => ?_, HPE.out.2.apart⟩
                have ho := HPE.out.2.own j hj
                have hk1 : kE (K.es.map fun e => (⟨e.tx, e.zs.map (plc K.ls)⟩ : En)) j = kM em j := by rw [kE, hat j hj, List.length_map]; rfl
                have hz1 : (List.range (kM em j)).map (fun q => Value.int .i64 (zE (K.es.map fun e => (⟨e.tx, e.zs.map (plc K.ls)⟩ : En)) j q)) = (List.range (kM em j)).map (fun q => Value.int .i64 (zP K.ls em j q)) := by
                  refine List.map_congr_left fun q hq => ?_
                  rw [List.mem_range] at hq
                  rw [zE, hat j hj, zP]
                  have hq' : q < (em.getD j default).1.zs.length := hq
                  simp only
                  generalize (em.getD j default).1.zs = zz at hq' ⊢
                  rw [List.getD_eq_getElem?_getD, List.getElem?_map, List.getD_eq_getElem?_getD, List.getElem?_eq_getElem hq']
                  rfl
                rw [hk1, hz1]
                exact ownC_base (own_only hO ho (fun e => by have := (ownC_lt ho e).2; omega)) (by omega)
    · have HE : Hid (compE L s = .error (er, a)) := by
        show _ = _
        unfold compE
        rw [if_neg (by rw [HL0.out]; simp), HRD.out.1, if_pos her]
      have her' : (er == 0) = false := beq_eq_false_iff_ne.2 her
      have her2 : (er != 0) = true := by simp [her]
      have r0 := HR2.out.cell (i := 0) (by omega)
      have r1 := HR2.out.cell (i := 1) (by omega)
      have f0 := HR2.out.frozen 0
      have f1 := HR2.out.frozen 1
      go_wp2
      refine bodyPost_ret (resC3 rfl _ (w.heap.size + 1) _ _ (by rfl) ((HR2.out.set 0 (.slice none 0 0)).set 1 (.slice none 0 0)) Tryz.underlying28 rfl sizeTabC) rfl ?_
      have hO : OnlyRow (w.heap.size + 1) w2 ((w2.setCell ⟨w.heap.size + 1, 0, none⟩ (.slice none 0 0)).setCell ⟨w.heap.size + 1, 1, none⟩ (.slice none 0 0)) := (OnlyRow.setCell _ _ _ _).trans (OnlyRow.setCell _ _ _ _)
      exact ⟨hO.below HBW2.out (by omega), .inl ⟨er, a, HE.out, rfl⟩⟩
  · have HE : Hid (compE L s = .error (er0, 0)) := by
      show _ = _
      unfold compE
      rw [← HER.out, if_pos he0]
    have her' : (er0 == 0) = false := beq_eq_false_iff_ne.2 he0
    have her2 : (er0 != 0) = true := by simp [he0]
    have r0 := HR1.out.cell (i := 0) (by omega)
    have r1 := HR1.out.cell (i := 1) (by omega)
    have f0 := HR1.out.frozen 0
    have f1 := HR1.out.frozen 1
    go_wp2
    refine bodyPost_ret (resC3 rfl _ (w.heap.size + 1) _ _ (by rfl) ((HR1.out.set 0 (.slice none 0 0)).set 1 (.slice none 0 0)) Tryz.underlying28 rfl sizeTabC) rfl ?_
    have hO : OnlyRow (w.heap.size + 1) w1 ((w1.setCell ⟨w.heap.size + 1, 0, none⟩ (.slice none 0 0)).setCell ⟨w.heap.size + 1, 1, none⟩ (.slice none 0 0)) := (OnlyRow.setCell _ _ _ _).trans (OnlyRow.setCell _ _ _ _)
    exact ⟨hO.below HBW1.out (by omega), .inl ⟨er0, 0, HE.out, rfl⟩⟩

set_option maxRecDepth 100000 in
set_option maxHeartbeats 1000000 in
theorem compile_any (L : Lay) (s : ByteArray) (w : World) (h : L.In w.heap.size w) (hs : s.size ≤ 140737488351232) :
    Calls Tryz.prog 34 #[.agg #[.slice L.na L.n L.nc, .slice L.ea L.m L.ec], .string s] w (CmpAns L s w) := by
  obtain ⟨W, hW⟩ : ∃ W, W = (w.alloc (.cells #[.slice L.na L.n L.nc, .slice L.ea L.m L.ec] 28)).alloc (.cells #[.slice none 0 0, .slice none 0 0] 28) := ⟨_, rfl⟩
  have HB0 : Hid (Below w.heap.size w W) := by show Below _ _ _; rw [hW]; exact below_then (below_one _) (below_one _)
  have HT0 : Hid (W.rowIs w.heap.size 28 2 (fun j => #[Value.slice L.na L.n L.nc, .slice L.ea L.m L.ec].getD j undef)) := by show World.rowIs _ _ _ _ _; rw [hW]; exact (row_new _ _ _ 2 rfl).alloc _
  have HR0 : Hid (W.rowIs (w.heap.size + 1) 28 2 (fun j => #[Value.slice none 0 0, .slice none 0 0].getD j undef)) := by show World.rowIs _ _ _ _ _; rw [hW]; exact row_at (row_new _ _ _ 2 rfl) (by simp) (fun _ _ => rfl)
  have HWS : Hid (W.heap.size = w.heap.size + 2) := by show _ = _; rw [hW]; simp
  have hws := HWS.out
  have HC : Hid (Calls Tryz.prog 60 #[.agg #[.slice L.na L.n L.nc, .slice L.ea L.m L.ec], .string s] W (CmpAns L s W)) := compileP_any L s W (h.later HB0.out) hs
  have t0 : W.cell? ⟨w.heap.size, 0, none⟩ = some (.slice L.na L.n L.nc) := HT0.out.cell (i := 0) (by omega)
  have t1 : W.cell? ⟨w.heap.size, 1, none⟩ = some (.slice L.ea L.m L.ec) := HT0.out.cell (i := 1) (by omega)
  clear h
  go_enter Tryz.func34, Tryz.ntmps34
  go_wp2_with fail
  rw [← hW]
  clear hW
  refine Calls.mono HC.out ?_
  rintro e w1 ⟨hb1, hor⟩
  have hz1 := hb1.size
  have HR1 : Hid (w1.rowIs (w.heap.size + 1) 28 2 (fun i => #[Value.slice none 0 0, .slice none 0 0].getD i undef)) := HR0.out.of_block (hb1.block _ (by omega))
  have HB1 : Hid (Below w.heap.size w w1) := HB0.out.trans (hb1.mono (by omega))
  have r0 := HR1.out.cell (i := 0) (by omega)
  have r1 := HR1.out.cell (i := 1) (by omega)
  have f0 := HR1.out.frozen 0
  have f1 := HR1.out.frozen 1
  clear hb1 HC t0 t1
  rcases hor with ⟨x, a, hE, rfl⟩ | ⟨ls, es, no, nc, eo, ec, vs, cs, hE, rfl, hn, he, hi⟩
  · have HE : Hid (compE L s = .error (x, a)) := hE
    clear hE
    go_wp2
    refine bodyPost_ret (resC3 rfl _ (w.heap.size + 1) _ _ (by rfl) ((HR1.out.set 0 (.slice none 0 0)).set 1 (.slice none 0 0)) Tryz.underlying28 rfl sizeTabC) rfl ?_
    have hO : OnlyRow (w.heap.size + 1) w1 ((w1.setCell ⟨w.heap.size + 1, 0, none⟩ (.slice none 0 0)).setCell ⟨w.heap.size + 1, 1, none⟩ (.slice none 0 0)) := (OnlyRow.setCell _ _ _ _).trans (OnlyRow.setCell _ _ _ _)
    exact ⟨hO.below HB1.out (by omega), .inl ⟨x, a, HE.out, rfl⟩⟩
  · rw [HWS.out] at hn he hi
    have HE : Hid (compE L s = .ok (ls, es)) := hE
    have HA : Hid (w1.ownsRow (w.heap.size + 2) 65 3 (.slice no ls.length nc) ls.length (ndsC ls) ∧ w1.ownsRow (w.heap.size + 2) 63 2 (.slice eo es.length ec) es.length (entC (txE es) (kE es) vs cs es.length) ∧ EntsO (w.heap.size + 2) (kE es) (zE es) es.length vs cs w1) := ⟨hn, he, hi⟩
    obtain ⟨n1, hn1⟩ : ∃ n, n = ls.length := ⟨_, rfl⟩
    obtain ⟨m1, hm1⟩ : ∃ n, n = es.length := ⟨_, rfl⟩
    have HN1 : Hid (n1 = ls.length ∧ m1 = es.length) := ⟨hn1, hm1⟩
    rw [← hn1, ← hm1]
    clear hE hn he hi hn1 hm1
    go_wp2
    refine bodyPost_ret (resC3 rfl _ (w.heap.size + 1) _ _ (by rfl) ((HR1.out.set 0 (.slice no n1 nc)).set 1 (.slice eo m1 ec)) Tryz.underlying28 rfl sizeTabC) rfl ?_
    have hO : OnlyRow (w.heap.size + 1) w1 ((w1.setCell ⟨w.heap.size + 1, 0, none⟩ (.slice no n1 nc)).setCell ⟨w.heap.size + 1, 1, none⟩ (.slice eo m1 ec)) := (OnlyRow.setCell _ _ _ _).trans (OnlyRow.setCell _ _ _ _)
    obtain ⟨hn, he, hi⟩ := HA.out
    refine ⟨hO.below HB1.out (by omega), .inr ⟨ls, es, no, nc, eo, ec, vs, cs, HE.out, ?_, ownC_base (own_only hO hn (fun e => by have := (ownC_lt hn e).2; omega)) (by omega), ownC_base (own_only hO he (fun e => by have := (ownC_lt he e).2; omega)) (by omega), fun j hj => ownC_base (own_only hO (hi.own j hj) (fun e => by have := (ownC_lt (hi.own j hj) e).2; omega)) (by omega), hi.apart⟩⟩
    rw [← HN1.out.1, ← HN1.out.2]
    rfl

end Go.Proofs.YtpclldccjpncdabGreat

namespace Go.Proofs.YtpclldccjpncdabGreat
open Go.RowKit

theorem weigh_names : ∀ (l : List Sp) (p s t : Int) (l' : List Sp), weigh l p s t = some l' → l'.map (·.name) = l.map (·.name)
  | [], _, _, _, l', h => by
    have h' : some [] = some l' := h
    injection h' with h'
    rw [← h']
  | x :: l, p, s, t, l', h => by
    unfold weigh at h
    split at h
    · cases hw : weigh l (wgt p s t x).p (wgt p s t x).s (wgt p s t x).t with
      | none => rw [hw] at h; cases h
      | some r =>
        rw [hw] at h
        simp only [Option.map_some, Option.some.injEq] at h
        rw [← h, List.map_cons, List.map_cons, weigh_names l _ _ _ r hw, (wgt_str p s t x).2]
    · cases h
theorem plc_names {l l' : List Sp} (h : l'.map (·.name) = l.map (·.name)) (nm : Int) : plc l' nm = plc l nm := by
  have e : ∀ l : List Sp, l.findIdx? (fun x => x.name == nm) = (l.map (·.name)).findIdx? (fun x => x == nm) := fun l => by
    rw [List.findIdx?_map]
    rfl
  unfold plc
  rw [e, e, h]
theorem begS_alike {L : Lay} (h : L.err = 0) : Alike (begS L) (begS L) := ⟨rfl, rfl, rfl, rfl, List.Perm.refl _, esB_sort h⟩
/-- the rules by the one way and by the other -/
theorem rules_both {L : Lay} (h : L.err = 0) (R : List Rl) : AlikeS (rulesE repE (begS L) R 0) (rulesE insE (begS L) R 0) := rulesE_alike R _ _ 0 (begS_alike h)

set_option maxRecDepth 100000 in
set_option maxHeartbeats 8000000 in
theorem refCompile_any (L : Lay) (s : ByteArray) (w : World) (h : L.In w.heap.size w) (hs : s.size ≤ 140737488351232) :
    Calls Tryz.prog 35 #[.agg #[.slice L.na L.n L.nc, .slice L.ea L.m L.ec], .string s] w (CmpAns L s w) := by
  have HLA : Hid (∀ wx, Below w.heap.size w wx → L.In wx.heap.size wx) := fun wx hb => h.later hb
  clear h
  obtain ⟨W, hW⟩ : ∃ W, W = (w.alloc (.cells #[.slice L.na L.n L.nc, .slice L.ea L.m L.ec] 28)).alloc (.cells #[.slice none 0 0, .slice none 0 0] 28) := ⟨_, rfl⟩
  have HB0 : Hid (Below w.heap.size w W) := by show Below _ _ _; rw [hW]; exact below_then (below_one _) (below_one _)
  have HT0 : Hid (W.rowIs w.heap.size 28 2 (fun j => #[Value.slice L.na L.n L.nc, .slice L.ea L.m L.ec].getD j undef)) := by show World.rowIs _ _ _ _ _; rw [hW]; exact (row_new _ _ _ 2 rfl).alloc _
  have HR0 : Hid (W.rowIs (w.heap.size + 1) 28 2 (fun j => #[Value.slice none 0 0, .slice none 0 0].getD j undef)) := by show World.rowIs _ _ _ _ _; rw [hW]; exact row_at (row_new _ _ _ 2 rfl) (by simp) (fun _ _ => rfl)
  have HWS : Hid (W.heap.size = w.heap.size + 2) := by show _ = _; rw [hW]; simp
  have hws := HWS.out
  have t0 : W.cell? ⟨w.heap.size, 0, none⟩ = some (.slice L.na L.n L.nc) := HT0.out.cell (i := 0) (by omega)
  have t1 : W.cell? ⟨w.heap.size, 1, none⟩ = some (.slice L.ea L.m L.ec) := HT0.out.cell (i := 1) (by omega)
  have HCV : Hid (Calls Tryz.prog 14 #[.agg #[.slice L.na L.n L.nc, .slice L.ea L.m L.ec]] W fun e w' => e = .returned (.int .i64 L.err) ∧ Below W.heap.size W w') := refValid_any L W (HLA.out W HB0.out)
  obtain ⟨er0, her0⟩ : ∃ x, x = L.err := ⟨_, rfl⟩
  have HER : Hid (er0 = L.err) := her0
  rw [← her0] at HCV
  clear her0
  go_enter Tryz.func35, Tryz.ntmps35
  go_wp2_with fail
  rw [← hW]
  clear hW
  refine (HCV.out).mono ?_
  rintro e w1 ⟨rfl, hb1⟩
  have hz1 := hb1.size
  have HR1 : Hid (w1.rowIs (w.heap.size + 1) 28 2 (fun j => #[Value.slice none 0 0, .slice none 0 0].getD j undef)) := HR0.out.of_block (hb1.block _ (by omega))
  have HT1 : Hid (w1.rowIs w.heap.size 28 2 (fun j => #[Value.slice L.na L.n L.nc, .slice L.ea L.m L.ec].getD j undef)) := HT0.out.of_block (hb1.block _ (by omega))
  have HBW1 : Hid (Below w.heap.size w w1) := HB0.out.trans (hb1.mono (by omega))
  clear t0 t1 hb1 HCV
  by_cases he0 : er0 = 0
  · subst he0
    have HL0 : Hid (L.err = 0) := HER.out.symm
    have HCR : Hid (Calls Tryz.prog 30 #[.string s] w1 fun e w' => ∃ (R : List Rl) (v : Value) (a : Nat) (er : Int), e = .returned (.tuple #[v, .int .i64 er, .int .i64 (a : Nat)]) ∧ Hid (rdAll s = (R, er, a) ∧ R.length ≤ 120) ∧ Hid (w'.ownsRow w1.heap.size 57 5 v R.length (rulC R)) ∧ Below w1.heap.size w1 w') := refRead_any s w1 hs
    go_wp2_with fail
    refine (HCR.out).mono ?_
    rintro e w2 ⟨R, v, a, er, rfl, HRD, HRO, hb2⟩
    have hz2 := hb2.size
    have HR2 : Hid (w2.rowIs (w.heap.size + 1) 28 2 (fun j => #[Value.slice none 0 0, .slice none 0 0].getD j undef)) := HR1.out.of_block (hb2.block _ (by omega))
    have HT2 : Hid (w2.rowIs w.heap.size 28 2 (fun j => #[Value.slice L.na L.n L.nc, .slice L.ea L.m L.ec].getD j undef)) := HT1.out.of_block (hb2.block _ (by omega))
    have HBW2 : Hid (Below w.heap.size w w2) := HBW1.out.trans (hb2.mono (by omega))
    have HSM : Hid (∀ x ∈ R, x.small) := by have := rdAll_small s; rw [HRD.out.1] at this; exact this
    obtain ⟨ro, rb, rc, hv, hri⟩ := rules_in HRO.out (by have := HRD.out.2; omega) HSM.out
    subst hv
    have HRI : Hid (RulesIn w2.heap.size w2 ro R.length rb 0 (fun i => R.getD i default)) := hri
    clear hri hb2 HCR
    by_cases her : er = 0
    · subst her
      have HLN : Hid (R.length ≤ 120) := HRD.out.2
      have HGD : Hid ((∀ r ∈ R, r.ok) ∧ (∀ r, R.head? = some r → r.reset.size ≠ 0)) := ⟨(rdAll_good HRD.out.1).1, (rdAll_good HRD.out.1).2.1⟩
      have t0 : w2.cell? ⟨w.heap.size, 0, none⟩ = some (.slice L.na L.n L.nc) := HT2.out.cell (i := 0) (by omega)
      have t1 : w2.cell? ⟨w.heap.size, 1, none⟩ = some (.slice L.ea L.m L.ec) := HT2.out.cell (i := 1) (by omega)
      have HCB : Hid (Calls Tryz.prog 61 #[.agg #[.slice L.na L.n L.nc, .slice L.ea L.m L.ec]] w2 fun e w' => ∃ (g : Nat) (la ea sa : Option Addr) (lc ec sc : Nat) (vs : Nat → Option Addr) (cs : Nat → Nat), e = .returned (.pointer (some ⟨g, 0, none⟩)) ∧ Hid (WkA w2.heap.size g (begS L) la ea sa lc ec sc vs cs w') ∧ Below w2.heap.size w2 w') := begun_any L w2 (HLA.out w2 HBW2.out) (err_zero HL0.out).n (err_zero HL0.out).m (fun i hi => ((err_zero HL0.out).k i hi).2)
      go_wp2_with fail
      refine (HCB.out).mono ?_
      rintro e wd ⟨g, la0, ea0, sa0, lc0, ec0, sc0, vs0, cs0, rfl, HWd, hbd⟩
      have hg2 : w2.heap.size ≤ g := HWd.out.base
      have HDR : Hid (Wr w2.heap.size g (begS L) wd) := ⟨_, _, _, _, _, _, _, _, HWd.out⟩
      have HBd : Hid (Below w2.heap.size w2 wd) := hbd
      clear t0 t1 HCB HWd hbd
      obtain ⟨N, hN⟩ : ∃ N, N = R.length := ⟨_, rfl⟩
      have HN : Hid (N = R.length) := hN
      rw [← hN] at HLN HRI HRO ⊢
      have hN120 := HLN.out
      clear hN
      have HRS : Hid (compE L s = match rulesE insE (begS L) R 0 with
          | .error x => .error x
          | .ok K => match weigh K.ls 0 0 0 with
            | none => .error (14, 0)
            | some ls' => .ok (ls', K.es.map fun e => ⟨e.tx, e.zs.map (plc K.ls)⟩)) := by
        show _ = _
        unfold compE
        rw [if_neg (by rw [HL0.out]; simp), HRD.out.1, if_neg (by simp)]
        rfl
      have HR3 : Hid (∀ wx, Below w2.heap.size w2 wx → wx.rowIs (w.heap.size + 1) 28 2 (fun j => #[Value.slice none 0 0, .slice none 0 0].getD j undef)) := fun wx hb => HR2.out.of_block (hb.block _ (by omega))
      have HBOTH : Hid (AlikeS (rulesE repE (begS L) R 0) (rulesE insE (begS L) R 0)) := rules_both HL0.out R
      go_wp2
      go_loopw [7, 11] (fun ev iv wr => ∃ (i : Nat) (K : Wk), ev = .int .i64 0 ∧ i ≤ N ∧ iv = .int .i64 (i : Nat) ∧ Hid (rulesE repE (begS L) R 0 = rulesE repE K (R.drop i) i) ∧ Hid (GoodK K ∧ (i = 0 ∨ Anch K)) ∧ Hid (Wr w2.heap.size g K wr) ∧ Below w2.heap.size w2 wr) (fun _ iv _ => N - (intOf iv).toNat)
      case atStart => exact ⟨0, begS L, rfl, Nat.zero_le _, rfl, rfl, ⟨begS_good HL0.out, .inl rfl⟩, HDR, HBd.out⟩
      case round =>
        obtain ⟨i, K, rfl, hi, rfl, HRU, HGK, HDK, hbel⟩ := hrel
        have hsz := hbel.size
        by_cases hlt : i < N
        · have hlt' : i < R.length := by rw [← HN.out]; exact hlt
          have hltI : (i : Int) < (N : Int) := by omega
          have hri := HRI.out.below hbel
          have hro := hri.addr (by omega)
          have hrb := hri.lt (by omega)
          have c0 := hri.c0 i hlt
          have c1 := hri.c1 i hlt
          have c2 := hri.c2 i hlt
          have c3 := hri.c3 i hlt
          have c4 := hri.c4 i hlt
          simp only [Nat.zero_add] at c0 c1 c2 c3 c4
          subst hro
          obtain ⟨r, hr⟩ : ∃ r, r = R.getD i default := ⟨_, rfl⟩
          rw [← hr] at c0 c1 c2 c3 c4
          have hrm : r ∈ R := by rw [hr, getD_at hlt']; exact List.getElem_mem hlt'
          have HROK : Hid (r.ok) := HGD.out.1 r hrm
          have HDROP : Hid (R.drop i = r :: R.drop (i + 1)) := by show _ = _; rw [List.drop_eq_getElem_cons hlt', hr, getD_at hlt']
          have HAN : Hid (r.reset.size ≠ 0 ∨ Anch K) := by
            rcases HGK.out.2 with h0 | h0
            · left
              refine HGD.out.2 r ?_
              rw [hr, h0]
              cases R with
              | nil => simp at hlt'
              | cons a b => rfl
            · exact .inr h0
          obtain ⟨la, ea, sa, lc, ec, sc, vs, cs, hD⟩ := HDK.out
          have HCA : Hid (Calls Tryz.prog 62 #[.pointer (some ⟨g, 0, none⟩), .agg #[.string r.reset, .int .i64 r.before, .int .i64 r.level, .string r.text, .string r.more]] wr fun e w' => ∃ er : Int, e = .returned (.int .i64 er) ∧ Hid (RefR w2.heap.size g K r er w') ∧ Hid (Below w2.heap.size wr w')) := rule_any w2.heap.size g K la ea sa lc ec sc vs cs wr r HGK.out.1 HROK.out HAN.out hD
          have HNEXT : Hid (∀ K', ruleE repE K r = .ok K' → GoodK K' ∧ Anch K') := fun K' hq => ruleE_good HGK.out.1 (upd_rep HGK.out.1.once) HROK.out HAN.out hq
          clear hr hrm hri hlt' hD
          go_wp2_with fail
          refine (HCA.out).mono ?_
          rintro e we ⟨er, rfl, HAP, HBe⟩
          have HBwe : Hid (Below w2.heap.size w2 we) := hbel.trans HBe.out
          clear c0 c1 c2 c3 c4 HCA
          cases hq : ruleE repE K r with
          | error x =>
            have hx := ruleE_err hq
            have hex : er = x := by
              have := HAP.out
              unfold RefR at this
              rw [hq] at this
              exact this
            subst hex
            have HE : Hid (compE L s = .error (er, i)) := by
              show _ = _
              have hb := HBOTH.out
              rw [HRU.out, HDROP.out, rulesE, hq] at hb
              rw [HRS.out]
              cases hz : rulesE insE (begS L) R 0 with
              | error y =>
                rw [hz] at hb
                have hb : (er, i) = y := hb
                rw [hb]
              | ok _ =>
                rw [hz] at hb
                exact hb.elim
            have hne' : (er == 0) = false := by simp; omega
            have hne3 : (er != 0) = true := by simp; omega
            have HR4 : Hid (we.rowIs (w.heap.size + 1) 28 2 (fun j => #[Value.slice none 0 0, .slice none 0 0].getD j undef)) := HR3.out we HBwe.out
            have r0 := HR4.out.cell (i := 0) (by omega)
            have r1 := HR4.out.cell (i := 1) (by omega)
            have f0 := HR4.out.frozen 0
            have f1 := HR4.out.frozen 1
            clear hq hx HAP
            go_wp2
            refine bodyPost_ret (resC3 rfl _ (w.heap.size + 1) _ _ (by rfl) ((HR4.out.set 0 (.slice none 0 0)).set 1 (.slice none 0 0)) Tryz.underlying28 rfl sizeTabC) rfl ?_
            have hO : OnlyRow (w.heap.size + 1) we ((we.setCell ⟨w.heap.size + 1, 0, none⟩ (.slice none 0 0)).setCell ⟨w.heap.size + 1, 1, none⟩ (.slice none 0 0)) := (OnlyRow.setCell _ _ _ _).trans (OnlyRow.setCell _ _ _ _)
            exact ⟨hO.below (HBW2.out.trans (HBwe.out.mono (by omega))) (by omega), .inl ⟨er, i, HE.out, rfl⟩⟩
          | ok K' =>
            have hAP := HAP.out
            unfold RefR at hAP
            rw [hq] at hAP
            obtain ⟨hex, hdr⟩ := hAP
            subst hex
            have HD' : Hid (Wr w2.heap.size g K' we) := hdr
            have HG' : Hid (GoodK K' ∧ (i + 1 = 0 ∨ Anch K')) := ⟨(HNEXT.out K' hq).1, .inr (HNEXT.out K' hq).2⟩
            have HRU' : Hid (rulesE repE (begS L) R 0 = rulesE repE K' (R.drop (i + 1)) (i + 1)) := by
              show _ = _
              rw [HRU.out, HDROP.out, rulesE, hq]
            clear hq hdr HAP
            go_wp2
            go_roundw
            case rel => exact ⟨i + 1, K', rfl, by omega, by go_num, HRU', HG', HD', HBwe.out⟩
            case measure => simp [intOf]; omega
        · have HRK : Hid (∃ K', rulesE insE (begS L) R 0 = .ok K' ∧ Alike K K') := by
            have hb := HBOTH.out
            rw [HRU.out, List.drop_of_length_le (by rw [← HN.out]; omega)] at hb
            cases hz : rulesE insE (begS L) R 0 with
            | error y =>
              rw [hz] at hb
              exact hb.elim
            | ok K' =>
              rw [hz] at hb
              exact ⟨K', rfl, hb⟩
          obtain ⟨K', hK', hal⟩ := HRK.out
          have HK' : Hid (rulesE insE (begS L) R 0 = .ok K') := hK'
          have HAL : Hid (Alike K K') := hal
          have hge : (N : Int) ≤ (i : Int) := by omega
          obtain ⟨la, ea, sa, lc, ec, sc, vs, cs, hD⟩ := HDK.out
          have hn48 := HGK.out.1.ls
          have hm48 := HGK.out.1.es
          have HCW : Hid (Calls Tryz.prog 63 #[.pointer (some ⟨g, 0, none⟩)] wr fun e w' => ∃ v, e = .returned v ∧ Hid ((weigh K.ls 0 0 0 = none ∧ v = .bool false) ∨ (∃ ls', weigh K.ls 0 0 0 = some ls' ∧ v = .bool true ∧ WkA w2.heap.size g { K with ls := ls' } la ea sa lc ec sc vs cs w')) ∧ Below w2.heap.size wr w') := weighed_any w2.heap.size g K la ea sa lc ec sc vs cs wr hD (by omega) HGK.out.1.str
          clear hK' hal hD
          go_wp2_with fail
          refine (HCW.out).mono ?_
          rintro e we ⟨bv, rfl, HWE, hbw⟩
          have HBwe : Hid (Below w2.heap.size w2 we) := hbel.trans hbw
          have HR4 : Hid (we.rowIs (w.heap.size + 1) 28 2 (fun j => #[Value.slice none 0 0, .slice none 0 0].getD j undef)) := HR3.out we HBwe.out
          have r0 := HR4.out.cell (i := 0) (by omega)
          have r1 := HR4.out.cell (i := 1) (by omega)
          have f0 := HR4.out.frozen 0
          have f1 := HR4.out.frozen 1
          clear HCW hbw
          rcases HWE.out with ⟨hw0, rfl⟩ | ⟨ls', hw1, rfl, hwk⟩
          · have HE : Hid (compE L s = .error (14, 0)) := by
              show _ = _
              rw [HRS.out, HK'.out]
              simp only
              rw [← HAL.out.ls, hw0]
            clear hw0 HWE
            go_wp2
            refine bodyPost_ret (resC3 rfl _ (w.heap.size + 1) _ _ (by rfl) ((HR4.out.set 0 (.slice none 0 0)).set 1 (.slice none 0 0)) Tryz.underlying28 rfl sizeTabC) rfl ?_
            have hO : OnlyRow (w.heap.size + 1) we ((we.setCell ⟨w.heap.size + 1, 0, none⟩ (.slice none 0 0)).setCell ⟨w.heap.size + 1, 1, none⟩ (.slice none 0 0)) := (OnlyRow.setCell _ _ _ _).trans (OnlyRow.setCell _ _ _ _)
            exact ⟨hO.below (HBW2.out.trans (HBwe.out.mono (by omega))) (by omega), .inl ⟨14, 0, HE.out, rfl⟩⟩
          · have HE : Hid (compE L s = .ok (ls', K'.es.map (plE ls'))) := by
              show _ = _
              rw [HRS.out, HK'.out]
              simp only
              rw [← HAL.out.ls, hw1]
              simp only
              congr 2
              refine List.map_congr_left fun e _ => ?_
              unfold plE
              congr 1
              refine List.map_congr_left fun z _ => ?_
              exact (plc_names (weigh_names _ _ _ _ _ hw1) z).symm
            have hlen : ls'.length = K.ls.length := by
              have := congrArg List.length (weigh_names _ _ _ _ _ hw1)
              simpa using this
            have HCT : Hid (Calls Tryz.prog 64 #[.pointer (some ⟨g, 0, none⟩)] we fun e w' => ∃ (no : Option Addr) (nc : Nat) (eo : Option Addr) (ec' : Nat) (vs' : Nat → Option Addr) (cs' : Nat → Nat), e = .returned (.agg #[.slice no ls'.length nc, .slice eo K.es.length ec']) ∧ Hid (w'.ownsRow we.heap.size 65 3 (.slice no ls'.length nc) ls'.length (ndsC ls') ∧ w'.ownsRow we.heap.size 63 2 (.slice eo K.es.length ec') K.es.length (entC (txE (K'.es.map (plE ls'))) (kE (K'.es.map (plE ls'))) vs' cs' K.es.length) ∧ EntsO we.heap.size (kE (K'.es.map (plE ls'))) (zE (K'.es.map (plE ls'))) K.es.length vs' cs' w') ∧ Below we.heap.size we w') := refTable_any w2.heap.size g { K with ls := ls' } la ea sa lc ec sc vs cs K'.es we hwk (by show ls'.length ≤ 48; omega) hm48 (fun e he => (HGK.out.1.ent e he).2.1) HAL.out.perm HAL.out.sort
            have HML : Hid (K.es.length = (K'.es.map (plE ls')).length) := by show _ = _; rw [List.length_map]; exact HAL.out.perm.length_eq
            obtain ⟨n1, hn1⟩ : ∃ n, n = ls'.length := ⟨_, rfl⟩
            obtain ⟨m1, hm1⟩ : ∃ n, n = K.es.length := ⟨_, rfl⟩
            have HN1 : Hid (n1 = ls'.length ∧ m1 = K.es.length) := ⟨hn1, hm1⟩
            rw [← hn1, ← hm1] at HCT
            clear hw1 hwk HWE hn1 hm1 hlen
            go_wp2_with fail
            refine (HCT.out).mono ?_
            rintro e wf ⟨no, nc, eo, ec', vs', cs', rfl, HA, hbf⟩
            have hze := hbf.size
            have HBwf : Hid (Below w2.heap.size w2 wf) := HBwe.out.trans (hbf.mono (by have := HBwe.out.size; omega))
            have HR5 : Hid (wf.rowIs (w.heap.size + 1) 28 2 (fun j => #[Value.slice none 0 0, .slice none 0 0].getD j undef)) := HR3.out wf HBwf.out
            have s0 := HR5.out.cell (i := 0) (by omega)
            have s1 := HR5.out.cell (i := 1) (by omega)
            have g0 := HR5.out.frozen 0
            have g1 := HR5.out.frozen 1
            have hze2 := HBwe.out.size
            clear r0 r1 f0 f1 HCT hbf
            go_wp2
            refine bodyPost_ret (resC3 rfl _ (w.heap.size + 1) _ _ (by rfl) ((HR5.out.set 0 (.slice no n1 nc)).set 1 (.slice eo m1 ec')) Tryz.underlying28 rfl sizeTabC) rfl ?_
            have hO : OnlyRow (w.heap.size + 1) wf ((wf.setCell ⟨w.heap.size + 1, 0, none⟩ (.slice no n1 nc)).setCell ⟨w.heap.size + 1, 1, none⟩ (.slice eo m1 ec')) := (OnlyRow.setCell _ _ _ _).trans (OnlyRow.setCell _ _ _ _)
            obtain ⟨hn, he, hi'⟩ := HA.out
            have hml := HML.out
            rw [← HN1.out.2] at hml
            refine ⟨hO.below (HBW2.out.trans (HBwf.out.mono (by omega))) (by omega), .inr ⟨ls', _, no, nc, eo, ec', vs', cs', HE.out, ?_, ?_, ?_, ?_⟩⟩
            · rw [← hml, ← HN1.out.1]
              rfl
            · rw [← HN1.out.1]
              exact ownC_base (own_only hO hn (fun e => by have := (ownC_lt hn e).2; omega)) (by omega)
            · rw [← hml]
              exact ownC_base (own_only hO he (fun e => by have := (ownC_lt he e).2; omega)) (by omega)
            · rw [← hml]
              exact ⟨fun j hj => ownC_base (own_only hO (hi'.own j hj) (fun e => by have := (ownC_lt (hi'.own j hj) e).2; omega)) (by omega), hi'.apart⟩
    · have HE : Hid (compE L s = .error (er, a)) := by
        show _ = _
        unfold compE
        rw [if_neg (by rw [HL0.out]; simp), HRD.out.1, if_pos her]
      have her' : (er == 0) = false := beq_eq_false_iff_ne.2 her
      have her2 : (er != 0) = true := by simp [her]
      have r0 := HR2.out.cell (i := 0) (by omega)
      have r1 := HR2.out.cell (i := 1) (by omega)
      have f0 := HR2.out.frozen 0
      have f1 := HR2.out.frozen 1
      go_wp2
      refine bodyPost_ret (resC3 rfl _ (w.heap.size + 1) _ _ (by rfl) ((HR2.out.set 0 (.slice none 0 0)).set 1 (.slice none 0 0)) Tryz.underlying28 rfl sizeTabC) rfl ?_
      have hO : OnlyRow (w.heap.size + 1) w2 ((w2.setCell ⟨w.heap.size + 1, 0, none⟩ (.slice none 0 0)).setCell ⟨w.heap.size + 1, 1, none⟩ (.slice none 0 0)) := (OnlyRow.setCell _ _ _ _).trans (OnlyRow.setCell _ _ _ _)
      exact ⟨hO.below HBW2.out (by omega), .inl ⟨er, a, HE.out, rfl⟩⟩
  · have HE : Hid (compE L s = .error (er0, 0)) := by
      show _ = _
      unfold compE
      rw [← HER.out, if_pos he0]
    have her' : (er0 == 0) = false := beq_eq_false_iff_ne.2 he0
    have her2 : (er0 != 0) = true := by simp [he0]
    have r0 := HR1.out.cell (i := 0) (by omega)
    have r1 := HR1.out.cell (i := 1) (by omega)
    have f0 := HR1.out.frozen 0
    have f1 := HR1.out.frozen 1
    go_wp2
    refine bodyPost_ret (resC3 rfl _ (w.heap.size + 1) _ _ (by rfl) ((HR1.out.set 0 (.slice none 0 0)).set 1 (.slice none 0 0)) Tryz.underlying28 rfl sizeTabC) rfl ?_
    have hO : OnlyRow (w.heap.size + 1) w1 ((w1.setCell ⟨w.heap.size + 1, 0, none⟩ (.slice none 0 0)).setCell ⟨w.heap.size + 1, 1, none⟩ (.slice none 0 0)) := (OnlyRow.setCell _ _ _ _).trans (OnlyRow.setCell _ _ _ _)
    exact ⟨hO.below HBW1.out (by omega), .inl ⟨er0, 0, HE.out, rfl⟩⟩

end Go.Proofs.YtpclldccjpncdabGreat

namespace Go.Proofs.YtpclldccjpncdabGreat
open Go.RowKit

/-! still, once more: what is younger than all that was lent stays -/
def Kp (Z : Nat) (w0 ws : World) : Prop := ∀ b, Z ≤ b → b < w0.heap.size → ws.heap[b]? = w0.heap[b]?
theorem Kp.only {Z : Nat} {w0 ws w' : World} (h : Kp Z w0 ws) {g : Nat} (hO : OnlyRow g ws w') (hg : g < Z) : Kp Z w0 w' := fun b h1 h2 => (hO.block b (by omega)).trans (h b h1 h2)
theorem Kp.below {Z : Nat} {w0 ws : World} (h : Below w0.heap.size w0 ws) : Kp Z w0 ws := fun b _ h2 => h.block b h2
structure StillK (L : Lay) (w : World) (Z : Nat) (w0 : World) (g gn ge : Nat) (gl : Nat → Nat) (vo : Option Addr) (vc b1 i : Nat) (ws : World) : Prop where
  below : Below w.heap.size w ws
  x : ∃ f, ws.rowIs g 39 5 f ∧ f 0 = .slice (some ⟨gn, 0, none⟩) L.n (L.n + 8) ∧ f 1 = .slice (some ⟨ge, 0, none⟩) L.m (L.m + 8) ∧ f 2 = .slice (some ⟨gn, 0, none⟩) (L.n + 8) (L.n + 8) ∧ f 3 = .slice (some ⟨ge, 0, none⟩) (L.m + 8) (L.m + 8) ∧ f 4 = .slice vo L.m vc
  nodes : ∃ f, ws.rowIs gn 65 ((L.n + 8) * 3) f ∧ (∀ j, j < L.n * 3 → f j = nodeC L j) ∧ ∀ a, a < 8 → f ((L.n + a) * 3) = .int .i64 (-77)
  entries : ∃ f, ws.rowIs ge 63 ((L.m + 8) * 2) f ∧ (∀ j, j < L.m → f (j * 2) = .string (L.tx j) ∧ f (j * 2 + 1) = .slice (some ⟨gl j, 0, none⟩) (L.k j) (L.k j + 8)) ∧ ∀ a, a < 8 → f ((L.m + a) * 2) = .string beyondS
  own : ws.ownsRow (w.heap.size + 1) 61 1 (.slice vo L.m vc) L.m ((List.range L.m).map fun j => .slice (some ⟨gl j, 0, none⟩) (L.k j + 8) (L.k j + 8))
  rows : ∀ j, i ≤ j → j < L.m → ws.rowIs (gl j) 3 (L.k j + 8) (fun q => .int .i64 (markZ (L.k j) (L.z j) q))
  inj : ∀ j j', j < L.m → j' < L.m → gl j = gl j' → j = j'
  old : w.heap.size < g ∧ w.heap.size < gn ∧ w.heap.size < ge ∧ ∀ j, j < L.m → w.heap.size < gl j
  box : ws.rowIs b1 28 2 (boxF L)
  boxOld : w.heap.size < b1
  kp : Kp Z w0 ws
  bd : gn < Z ∧ ge < Z ∧ ∀ j, j < L.m → gl j < Z

theorem LentIn.stillK {L : Lay} {w : World} {Z : Nat} {w0 : World} {g gn ge : Nat} {gl : Nat → Nat} {vo : Option Addr} {vc b1 : Nat} {wr : World} (h : LentIn L w g gn ge gl vo vc wr) (hbox : wr.rowIs b1 28 2 (boxF L)) (hb1 : w.heap.size < b1) (hk : Kp Z w0 wr) (hbd : gn < Z ∧ ge < Z ∧ ∀ j, j < L.m → gl j < Z) : StillK L w Z w0 g gn ge gl vo vc b1 0 wr :=
  ⟨h.below, h.x, h.nodes, h.entries, h.own, fun j _ hj => h.rows j hj, h.inj, h.old, hbox, hb1, hk, hbd⟩

theorem StillK.drew {L : Lay} {w : World} {Z : Nat} {w0 : World} {g gn ge : Nat} {gl : Nat → Nat} {vo : Option Addr} {vc b1 i : Nat} {ws : World} (h : StillK L w Z w0 g gn ge gl vo vc b1 i ws) : StillK L w Z w0 g gn ge gl vo vc b1 i ws.drew :=
  ⟨h.below.drew, let ⟨f, a, b⟩ := h.x; ⟨f, a.drew, b⟩, let ⟨f, a, b⟩ := h.nodes; ⟨f, a.drew, b⟩, let ⟨f, a, b⟩ := h.entries; ⟨f, a.drew, b⟩, h.own.drew, fun j h1 hj => (h.rows j h1 hj).drew, h.inj, h.old, h.box.drew, h.boxOld, h.kp, h.bd⟩
theorem StillK.drewN {L : Lay} {w : World} {Z : Nat} {w0 : World} {g gn ge : Nat} {gl : Nat → Nat} {vo : Option Addr} {vc b1 i : Nat} {ws : World} (h : StillK L w Z w0 g gn ge gl vo vc b1 i ws) : ∀ n, StillK L w Z w0 g gn ge gl vo vc b1 i (ws.drewN n) := fun n =>
  ⟨below_drewN h.below n, let ⟨f, a, b⟩ := h.x; ⟨f, a.of_block rfl, b⟩, let ⟨f, a, b⟩ := h.nodes; ⟨f, a.of_block rfl, b⟩, let ⟨f, a, b⟩ := h.entries; ⟨f, a.of_block rfl, b⟩, own_of_block h.own (fun _ _ => rfl), fun j h1 hj => (h.rows j h1 hj).of_block rfl, h.inj, h.old, h.box.of_block rfl, h.boxOld, h.kp, h.bd⟩

/-- the row of list i is written: from i + 1 on all is as it was -/
theorem StillK.only {L : Lay} {w : World} {Z : Nat} {w0 : World} {g gn ge : Nat} {gl : Nat → Nat} {vo : Option Addr} {vc b1 i : Nat} {ws w' : World} (h : StillK L w Z w0 g gn ge gl vo vc b1 (i + 1) ws) (hi : i < L.m) {n : Nat} {f : Nat → Value} (hr : ws.rowIs (gl i) 3 n f) (hO : OnlyRow (gl i) ws w') : StillK L w Z w0 g gn ge gl vo vc b1 (i + 1) w' := by
  obtain ⟨fx, x1, x2⟩ := h.x
  obtain ⟨fn, n1, n2⟩ := h.nodes
  obtain ⟨fe, e1, e2⟩ := h.entries
  exact ⟨hO.below h.below (by have := h.old.2.2.2 i hi; omega), ⟨fx, hO.row x1 (row_ne x1 hr (by decide)), x2⟩, ⟨fn, hO.row n1 (row_ne n1 hr (by decide)), n2⟩, ⟨fe, hO.row e1 (row_ne e1 hr (by decide)), e2⟩, own_only hO h.own (own_ne h.own hr (by decide)).symm,
    fun j h1 hj => hO.row (h.rows j h1 hj) (fun e => by have := h.inj j i hj hi e; omega), h.inj, h.old, hO.row h.box (row_ne h.box hr (by decide)), h.boxOld, h.kp.only hO (h.bd.2.2 i hi), h.bd⟩
theorem StillK.next {L : Lay} {w : World} {Z : Nat} {w0 : World} {g gn ge : Nat} {gl : Nat → Nat} {vo : Option Addr} {vc b1 i : Nat} {ws : World} (h : StillK L w Z w0 g gn ge gl vo vc b1 i ws) : StillK L w Z w0 g gn ge gl vo vc b1 (i + 1) ws :=
  ⟨h.below, h.x, h.nodes, h.entries, h.own, fun j h1 hj => h.rows j (by omega) hj, h.inj, h.old, h.box, h.boxOld, h.kp, h.bd⟩

/-- what the last two loops want -/
structure WipeK (L : Lay) (w : World) (Z : Nat) (w0 : World) (g gn ge : Nat) (ws : World) : Prop where
  below : Below w.heap.size w ws
  x : ∃ f, ws.rowIs g 39 5 f ∧ f 2 = .slice (some ⟨gn, 0, none⟩) (L.n + 8) (L.n + 8) ∧ f 3 = .slice (some ⟨ge, 0, none⟩) (L.m + 8) (L.m + 8)
  nodes : ∃ f, ws.rowIs gn 65 ((L.n + 8) * 3) f
  entries : ∃ f, ws.rowIs ge 63 ((L.m + 8) * 2) f
  old : w.heap.size < gn ∧ w.heap.size < ge
  kp : Kp Z w0 ws
  bd : gn < Z ∧ ge < Z
theorem StillK.wiping {L : Lay} {w : World} {Z : Nat} {w0 : World} {g gn ge : Nat} {gl : Nat → Nat} {vo : Option Addr} {vc b1 i : Nat} {ws : World} (h : StillK L w Z w0 g gn ge gl vo vc b1 i ws) : WipeK L w Z w0 g gn ge ws :=
  ⟨h.below, let ⟨f, a, _, _, b, c, _⟩ := h.x; ⟨f, a, b, c⟩, let ⟨f, a, _⟩ := h.nodes; ⟨f, a⟩, let ⟨f, a, _⟩ := h.entries; ⟨f, a⟩, ⟨h.old.2.1, h.old.2.2.1⟩, h.kp, h.bd.1, h.bd.2.1⟩
theorem WipeK.node {L : Lay} {w : World} {Z : Nat} {w0 : World} {g gn ge : Nat} {ws w' : World} (h : WipeK L w Z w0 g gn ge ws) (o1 o2 o3 : Nat) (v1 v2 v3 : Value) (hw : w' = ((ws.setCell ⟨gn, o1, none⟩ v1).setCell ⟨gn, o2, none⟩ v2).setCell ⟨gn, o3, none⟩ v3) : WipeK L w Z w0 g gn ge w' := by
  obtain ⟨fx, x1, x2⟩ := h.x
  obtain ⟨fn, n1⟩ := h.nodes
  obtain ⟨fe, e1⟩ := h.entries
  have hO : OnlyRow gn ws w' := by rw [hw]; exact ((OnlyRow.setCell _ _ _ _).trans (OnlyRow.setCell _ _ _ _)).trans (OnlyRow.setCell _ _ _ _)
  have n1' := ((n1.set o1 v1).set o2 v2).set o3 v3
  rw [← hw] at n1'
  exact ⟨hO.below h.below (by have := h.old.1; omega), ⟨fx, hO.row x1 (row_ne x1 n1 (by decide)), x2⟩, ⟨_, n1'⟩, ⟨fe, hO.row e1 (row_ne e1 n1 (by decide))⟩, h.old, h.kp.only hO h.bd.1, h.bd⟩
theorem WipeK.entry {L : Lay} {w : World} {Z : Nat} {w0 : World} {g gn ge : Nat} {ws w' : World} (h : WipeK L w Z w0 g gn ge ws) (o1 o2 : Nat) (v1 v2 : Value) (hw : w' = (ws.setCell ⟨ge, o1, none⟩ v1).setCell ⟨ge, o2, none⟩ v2) : WipeK L w Z w0 g gn ge w' := by
  obtain ⟨fx, x1, x2⟩ := h.x
  obtain ⟨fn, n1⟩ := h.nodes
  obtain ⟨fe, e1⟩ := h.entries
  have hO : OnlyRow ge ws w' := by rw [hw]; exact (OnlyRow.setCell _ _ _ _).trans (OnlyRow.setCell _ _ _ _)
  have e1' := (e1.set o1 v1).set o2 v2
  rw [← hw] at e1'
  exact ⟨hO.below h.below (by have := h.old.2; omega), ⟨fx, hO.row x1 (row_ne x1 e1 (by decide)), x2⟩, ⟨fn, hO.row n1 (row_ne n1 e1 (by decide))⟩, ⟨_, e1'⟩, h.old, h.kp.only hO h.bd.2, h.bd⟩


set_option maxRecDepth 100000 in
set_option maxHeartbeats 2000000 in
theorem still_keep (L : Lay) (w : World) (h : L.In w.heap.size w) (g gn ge : Nat) (gl : Nat → Nat) (vo : Option Addr) (vc : Nat) (wr : World) (hlent : LentIn L w g gn ge gl vo vc wr) (Z : Nat) (hZ : gn < Z ∧ ge < Z ∧ ∀ j, j < L.m → gl j < Z) :
    Calls Tryz.prog 24 #[.pointer (some ⟨g, 0, none⟩), .agg #[.slice L.na L.n L.nc, .slice L.ea L.m L.ec]] wr fun e w' => e = .returned (.bool true) ∧ Below w.heap.size w w' ∧ Hid (Kp Z wr w') := by
  have hn := h.nodes.le
  have hm := h.entries.le
  have HL : Hid (L.In w.heap.size w) := h
  have HT : Hid (LentIn L w g gn ge gl vo vc wr) := hlent
  have HZ : Hid (gn < Z ∧ ge < Z ∧ ∀ j, j < L.m → gl j < Z) := hZ
  clear h hlent hZ
  obtain ⟨fx, x1, z0, z1, _⟩ := HT.out.x
  have hgl := x1.lt
  have k0 := x1.cell (i := 0) (by omega)
  have k1 := x1.cell (i := 1) (by omega)
  rw [z0] at k0
  rw [z1] at k1
  have HBX : Hid ((wr.alloc (.cells #[.slice L.na L.n L.nc, .slice L.ea L.m L.ec] 28)).rowIs wr.heap.size 28 2 (boxF L)) := row_at (row_new wr _ _ 2 rfl) rfl (fun i hi => by
    match i, hi with
    | 0, _ => rfl
    | 1, _ => rfl)
  have k0' := Wb.cell (w := wr.alloc (.cells #[.slice L.na L.n L.nc, .slice L.ea L.m L.ec] 28)) (B := wr.heap.size + 1) (by show g < _; omega) (cellTo (below_one _) k0 hgl)
  have k1' := Wb.cell (w := wr.alloc (.cells #[.slice L.na L.n L.nc, .slice L.ea L.m L.ec] 28)) (B := wr.heap.size + 1) (by show g < _; omega) (cellTo (below_one _) k1 hgl)
  have k2' := Wb.cell (B := wr.heap.size + 1) (by show wr.heap.size < _; omega) (HBX.out.cell (i := 0) (by omega))
  have k3' := Wb.cell (B := wr.heap.size + 1) (by show wr.heap.size < _; omega) (HBX.out.cell (i := 1) (by omega))
  simp only [boxF] at k2' k3'
  simp only [Nat.one_ne_zero, if_true, if_false] at k2' k3'
  have HI : Hid (∀ x : Wb (wr.heap.size + 1) (wr.alloc (.cells #[.slice L.na L.n L.nc, .slice L.ea L.m L.ec] 28)), (L.lent gn ge gl).In x.val.heap.size x.val ∧ L.In x.val.heap.size x.val ∧ LentIn L w g gn ge gl vo vc x.val ∧ x.val.rowIs wr.heap.size 28 2 (boxF L)) := fun x => by
    have hb : Below wr.heap.size wr x.val := (below_one _).trans (x.below.mono (by omega))
    have hlt := HT.out.later hb
    exact ⟨hlt.lay HL.out, (HL.out.below hlt.below).mono hlt.below.size, hlt, row_below x.below HBX.out (by omega)⟩
  clear k0 k1 x1
  go_enter Tryz.func24, Tryz.ntmps24
  go_wp2
  refine wp_region_below (wr.heap.size + 1) (by kernel_rfl) (by kernel_rfl) ?_
  repeat (go_big_quiet_step ((go_at_call 27; exact Wb.ofCall _ (by simp) (sameTable_any (L.lent gn ge gl) L _ (HI.out _).1 (HI.out _).2.1 ⟨rfl, rfl, rfl, rfl, rfl, rfl, rfl, rfl⟩))))
  refine wpQuiet_nil ?_
  rintro _ ⟨x, rfl⟩
  have HS : Hid (StillK L w Z wr g gn ge gl vo vc wr.heap.size 0 x.val) := (HI.out x).2.2.1.stillK (HI.out x).2.2.2 (by have := HT.out.old.1; omega) (Kp.below ((below_one _).trans (x.below.mono (by omega)))) HZ.out
  generalize x.val = w2 at HS
  clear k0' k1' k2' k3' HI HT HBX
  have c0 := HS.out.box.cell (i := 0) (by omega)
  have c1 := HS.out.box.cell (i := 1) (by omega)
  simp only [boxF] at c0 c1
  simp only [Nat.one_ne_zero, if_true, if_false] at c0 c1
  go_wp2
  clear c0 c1
  go_loop [5, 8] (fun o q => ∃ a : Nat, a ≤ 8 ∧ q = .int .i64 a ∧ o = .bool true) (fun _ q => 8 - (intOf q).toNat)
  case atStart => exact ⟨0, by omega, rfl, rfl⟩
  case round =>
    obtain ⟨a, ha, rfl, rfl⟩ := hrel
    by_cases ha8 : a < 8
    · obtain ⟨fx, x1, _, _, z2, z3, _⟩ := HS.out.x
      obtain ⟨fn, n1, _, n3⟩ := HS.out.nodes
      obtain ⟨fe, e1, _, e3⟩ := HS.out.entries
      have c2 := x1.cell (i := 2) (by omega)
      have c3 := x1.cell (i := 3) (by omega)
      rw [z2] at c2
      rw [z3] at c3
      have d1 := n1.cell (i := (L.n + a) * 3) (by omega)
      have d2 := e1.cell (i := (L.m + a) * 2) (by omega)
      rw [n3 a ha8] at d1
      rw [e3 a ha8] at d2
      unfold beyondS at d2
      clear z2 z3 x1 n1 n3 e1 e3
      go_wp2
      go_round
      case rel => exact ⟨a + 1, by omega, by go_num, rfl⟩
      case measure => simp [intOf]; omega
    · go_wp2
      go_loopw [5, 9] (fun o iv ws => ∃ i : Nat, i ≤ L.m ∧ iv = .int .i64 i ∧ o = .bool true ∧ StillK L w Z wr g gn ge gl vo vc wr.heap.size i ws) (fun _ iv _ => L.m - (intOf iv).toNat)
      case atStart => exact ⟨0, by omega, rfl, rfl, HS.out⟩
      case round =>
        clear HS ha8 ha
        rename World => wi
        obtain ⟨i, hi, rfl, rfl, hst⟩ := hrel
        have HS : Hid (StillK L w Z wr g gn ge gl vo vc wr.heap.size i wi) := hst
        clear hst
        by_cases hlt : i < L.m
        · obtain ⟨fx, x1, _, _, _, _, z4⟩ := HS.out.x
          have c4 := x1.cell (i := 4) (by omega)
          rw [z4] at c4
          obtain ⟨gv, hvo, cv⟩ := own_cell HS.out.own hlt (v := .slice (some ⟨gl i, 0, none⟩) (L.k i + 8) (L.k i + 8)) (by simp [hlt])
          rw [hvo] at c4
          have c1 := HS.out.box.cell (i := 1) (by omega)
          simp only [boxF] at c1
          simp only [Nat.one_ne_zero, if_false] at c1
          rw [HL.out.entries.addr (by omega)] at c1
          have hbb := HL.out.entries.lt (by omega)
          have l1 := cellTo HS.out.below (HL.out.entries.list i hlt) hbb
          have hk := (HL.out.entries.ints i hlt).le
          have HR : Hid (wi.rowIs (gl i) 3 (L.k i + 8) (wipeF (L.k i) (L.z i) 0)) := wipe_start (HS.out.rows i (by omega) hlt)
          have HS1 : Hid (StillK L w Z wr g gn ge gl vo vc wr.heap.size (i + 1) wi) := HS.out.next
          clear z4 x1 hvo
          go_wp2
          clear HS c4 cv c1 l1
          rename World => wj
          go_loopw [5, 12] (fun o jv ws => ∃ j : Nat, j ≤ L.k i + 8 ∧ jv = .int .i64 j ∧ o = .bool true ∧ StillK L w Z wr g gn ge gl vo vc wr.heap.size (i + 1) ws ∧ ws.rowIs (gl i) 3 (L.k i + 8) (wipeF (L.k i) (L.z i) j)) (fun _ jv _ => L.k i + 8 - (intOf jv).toNat)
          case atStart => exact ⟨0, by omega, rfl, rfl, HS1.out, HR.out⟩
          case round =>
            clear HS1 HR
            rename World => wk
            obtain ⟨j, hj, rfl, rfl, hst, hrow⟩ := hrel
            have HS : Hid (StillK L w Z wr g gn ge gl vo vc wr.heap.size (i + 1) wk) := hst
            have HR : Hid (wk.rowIs (gl i) 3 (L.k i + 8) (wipeF (L.k i) (L.z i) j)) := hrow
            clear hst hrow
            by_cases hjk : j < L.k i + 8
            · have cj := HR.out.cell hjk
              have fj := HR.out.frozen j
              by_cases hjj : j < L.k i
              · rw [wipe_at _ _ _ hjj] at cj
                have c1 := HS.out.box.cell (i := 1) (by omega)
                simp only [boxF] at c1
                simp only [Nat.one_ne_zero, if_false] at c1
                rw [HL.out.entries.addr (by omega)] at c1
                have l1 := cellTo HS.out.below (HL.out.entries.list i hlt) hbb
                rw [(HL.out.entries.ints i hlt).addr (by omega)] at l1
                have l2 := cellTo HS.out.below ((HL.out.entries.ints i hlt).cell j hjj) ((HL.out.entries.ints i hlt).lt (by omega))
                go_wp2
                go_quiet (fail)
                go_wp2
                go_roundw
                case rel => exact ⟨j + 1, by omega, by go_num, by simp, (HS.out.drewN _).only hlt (HR.out.of_block rfl) (OnlyRow.setCell _ _ _ _), wipe_step (HR.out.of_block rfl)⟩
                case measure => simp [intOf]; omega
              · rw [wipe_at' _ _ _ hjj] at cj
                go_wp2
                go_roundw
                case rel => exact ⟨j + 1, by omega, by go_num, by simp, HS.out.only hlt HR.out (OnlyRow.setCell _ _ _ _), wipe_step HR.out⟩
                case measure => simp [intOf]; omega
            · go_wp2
              go_roundw
              case rel => exact ⟨i + 1, by omega, by go_num, rfl, HS.out⟩
              case measure => simp [intOf]; omega
        · have HW : Hid (WipeK L w Z wr g gn ge wi) := HS.out.wiping
          clear HS
          go_wp2
          go_loopw [13] (fun av ws => ∃ a : Nat, a ≤ L.n + 8 ∧ av = .int .i64 a ∧ WipeK L w Z wr g gn ge ws) (fun av _ => L.n + 8 - (intOf av).toNat)
          case atStart => exact ⟨0, by omega, rfl, HW.out⟩
          case round =>
            clear HW
            rename World => wa
            obtain ⟨a, ha, rfl, hwp⟩ := hrel
            have HW : Hid (WipeK L w Z wr g gn ge wa) := hwp
            clear hwp
            by_cases han : a < L.n + 8
            · obtain ⟨fx, x1, z2, z3⟩ := HW.out.x
              obtain ⟨fn, n1⟩ := HW.out.nodes
              have y1 : ¬ gn = g := row_ne n1 x1 (by decide)
              have y2 : ¬ g = gn := fun h => y1 h.symm
              have c2 := x1.cell (i := 2) (by omega)
              rw [z2] at c2
              have d0 := n1.cell (i := a * 3) (by omega)
              have d1 := n1.cell (i := a * 3 + 1) (by omega)
              have d2 := n1.cell (i := a * 3 + 2) (by omega)
              have f0 := n1.frozen (a * 3)
              have f1 := n1.frozen (a * 3 + 1)
              have f2 := n1.frozen (a * 3 + 2)
              clear z2 z3 x1 n1
              go_wp2
              go_roundw
              case rel => exact ⟨a + 1, by omega, by go_num, HW.out.node _ _ _ _ _ _ rfl⟩
              case measure => simp [intOf]; omega
            · go_wp2
              go_loopw [14] (fun av ws => ∃ a : Nat, a ≤ L.m + 8 ∧ av = .int .i64 a ∧ WipeK L w Z wr g gn ge ws) (fun av _ => L.m + 8 - (intOf av).toNat)
              case atStart => exact ⟨0, by omega, rfl, HW.out⟩
              case round =>
                clear HW ha han
                rename World => wb
                obtain ⟨a, ha, rfl, hwp⟩ := hrel
                have HW : Hid (WipeK L w Z wr g gn ge wb) := hwp
                clear hwp
                by_cases han : a < L.m + 8
                · obtain ⟨fx, x1, z2, z3⟩ := HW.out.x
                  obtain ⟨fn, n1⟩ := HW.out.entries
                  have y1 : ¬ ge = g := row_ne n1 x1 (by decide)
                  have y2 : ¬ g = ge := fun h => y1 h.symm
                  have c3 := x1.cell (i := 3) (by omega)
                  rw [z3] at c3
                  have d0 := n1.cell (i := a * 2) (by omega)
                  have d1 := n1.cell (i := a * 2 + 1) (by omega)
                  have f0 := n1.frozen (a * 2)
                  have f1 := n1.frozen (a * 2 + 1)
                  clear z2 z3 x1 n1
                  go_wp2
                  go_roundw
                  case rel => exact ⟨a + 1, by omega, by go_num, HW.out.entry _ _ _ _ rfl⟩
                  case measure => simp [intOf]; omega
                · go_wp2
                  go_ret
                  exact ⟨rfl, HW.out.below, HW.out.kp⟩


end Go.Proofs.YtpclldccjpncdabGreat
