import Derived.Test.YtpclldccjpncdabGreatM34
import Derived.Deep.RegionLaw
import Derived.BigQuiet
namespace Go.Proofs.YtpclldccjpncdabGreat
open Go.RowKit

theorem numsW_of {es : List En} {L : Lay} (hm : L.m = es.length) (htx : L.tx = txE es) (hk : L.k = kE es) (hz : L.z = zE es) (s : ByteArray) : ∀ q, (∀ j, j < q → 0 < lenAt es.length (txE es) s (pos es.length (txE es) s j)) → numsW L s q = numsQ es s q
  | 0, _ => rfl
  | q + 1, h => by
    have ih := numsW_of hm htx hk hz s q fun j hj => h j (by omega)
    have ht := lenAt_text (h q (by omega))
    have hq : numsQ es s (q + 1) = numsQ es s q ++ look es (piece es.length (txE es) s q) := by simp [numsQ, List.range_succ]
    rw [numsW_succ, ih, hq, hm, htx, hk, hz]
    congr 1
    rw [piece, look_idx ht]
    show (List.range (es.getD (pidx es.length (txE es) s q) default).zs.length).map (fun i => (es.getD (pidx es.length (txE es) s q) default).zs.getD i 0) = _
    rw [range_getD]
    rfl
/-- the work's entries, to read -/
theorem WkA.entries {B g : Nat} {K : Wk} {la ea sa : Option Addr} {lc ec sc : Nat} {vs : Nat → Option Addr} {cs : Nat → Nat} {w : World} (h : WkA B g K la ea sa lc ec sc vs cs w) (hm : K.es.length ≤ 1000) (hz : ∀ e ∈ K.es, e.zs.length ≤ 1000) : ∃ eb, EntriesIn w.heap.size w ea K.es.length eb 0 (txE K.es) vs (kE K.es) cs (fun i => aB (vs i)) (fun _ => 0) (zE K.es) := by
  obtain ⟨vo, vc, gv, hv, ha, hc⟩ := ownC_cells h.ents
  injection hv with hv1 _ _
  refine ⟨gv, fun h0 => by rw [hv1]; exact (ha h0).1, fun h0 => (ha h0).2.1, fun i hi => ?_, fun i hi => ?_, fun i hi => ?_, by omega⟩
  · rw [Nat.zero_add]
    exact hc _ _ (by omega) (entC_at _ _ _ _ _ i hi).1
  · rw [Nat.zero_add]
    exact hc _ _ (by omega) (entC_at _ _ _ _ _ i hi).2
  · obtain ⟨vo', vc', gv', hv', ha', hc'⟩ := ownC_cells (h.ints i hi)
    injection hv' with hv1' _ _
    have hl := hz (K.es.getD i default) (by rw [getD_at hi]; exact List.getElem_mem hi)
    refine ⟨fun h0 => ?_, fun h0 => ?_, fun j hj => ?_, ?_⟩
    · have := (ha' h0).1
      rw [hv1', this]; rfl
    · have := ha' h0
      rw [hv1', this.1]; exact this.2.1
    · have hj' : j < (K.es.getD i default).zs.length := hj
      have := (ha' (by omega)).1
      rw [hv1', this, Nat.zero_add]
      refine hc' j _ (by omega) ?_
      unfold intsC zE
      rw [List.getElem?_map, List.getElem?_eq_getElem hj', List.getD_eq_getElem?_getD (l := (K.es.getD i default).zs), List.getElem?_eq_getElem hj']
      rfl
    · show kE K.es i * 8 ≤ _
      have : kE K.es i ≤ 1000 := hl
      omega
/-- what nodes tells -/
def NodR (es : List En) (s : ByteArray) (B : Nat) (w' : World) (v : Value) (b : Bool) : Prop :=
  (∃ l, numsE es s = some l ∧ b = true ∧ w'.ownsRow B 3 1 v l.length (l.map (Value.int .i64))) ∨ (numsE es s = none ∧ b = false)
theorem nodV_of {B g : Nat} {K : Wk} {la ea sa : Option Addr} {lc ec sc : Nat} {vs : Nat → Option Addr} {cs : Nat → Nat} {w : World} (hK : GoodK K) (h : WkA B g K la ea sa lc ec sc vs cs w) (s : ByteArray) (hs : s.size ≤ 24) :
    Calls Tryz.prog 75 #[.slice ea K.es.length ec, .string s] w fun e w' => ∃ (v : Value) (b : Bool), e = .returned (.tuple #[v, .bool b]) ∧ Below w.heap.size w w' ∧ Hid (NodR K.es s w.heap.size w' v b) := by
  obtain ⟨eb, hE⟩ := h.entries (by have := hK.es; omega) (fun e he => by have := (hK.ent e he).2.1.2; omega)
  have hc := refNodesW_any { n := 0, m := K.es.length, na := none, ea := ea, nc := 0, ec := ec, nb := 0, no := 0, eb := eb, eo := 0, p := fun _ => 0, s := fun _ => 0, t := fun _ => 0, tx := txE K.es, la := vs, k := kE K.es, lc := cs, lb := fun i => aB (vs i), lo := fun _ => 0, z := zE K.es } s ea ec w hE hK.es hK.kE hs
  refine hc.mono ?_
  rintro e w' ⟨q, hq, hb, hor⟩
  have hq' : Cut K.es.length (txE K.es) s q := hq
  rcases hor with ⟨hp, ao, c, he, hown⟩ | ⟨hp, v, he⟩
  · rw [numsW_of (es := K.es) rfl rfl rfl rfl s q hq'.go] at he hown
    exact ⟨_, true, he, hb, .inl ⟨_, numsE_some hq' hp, rfl, hown.out⟩⟩
  · exact ⟨v, false, he, hb, .inr ⟨numsE_none hq' hp, rfl⟩⟩
theorem own_pre {w : World} {base : Nat} {a : Option Addr} {n c : Nat} {l : List Int} (ho : w.ownsRow base 3 1 (.slice a n c) n (l.map (Value.int .i64))) (hn : n = l.length) (h0 : 0 < n) : w.ownsRow base 3 1 (.slice a (n - 1) c) (n - 1) (intsC l.dropLast) := by
  obtain ⟨h1, h2⟩ := ho
  rcases h2 with ⟨_, h⟩ | ⟨g, cap, cur, hv, hb, hh, hnc, hcm, hcs, ht⟩
  · omega
  · injection hv with hv1 hv2 hv3
    refine ⟨by unfold intsC; rw [List.length_map, List.length_dropLast]; omega, .inr ⟨g, cap, cur, ?_, hb, hh, by omega, hcm, hcs, ?_⟩⟩
    · rw [hv1, hv3]
    · have e : intsC l.dropLast = (l.map (Value.int .i64)).take (n - 1) := by
        unfold intsC
        rw [List.dropLast_eq_take, List.map_take, hn]
      rw [e, ← ht, List.take_take]
      congr 1
      omega
def Wr (B g : Nat) (K : Wk) (w : World) : Prop := ∃ (la ea sa : Option Addr) (lc ec sc : Nat) (vs : Nat → Option Addr) (cs : Nat → Nat), WkA B g K la ea sa lc ec sc vs cs w
def RefR (B g : Nat) (K : Wk) (r : Rl) (er : Int) (w' : World) : Prop := match ruleE repE K r with
  | .error x => er = x
  | .ok K' => er = 0 ∧ Wr B g K' w'
/-- two cells of the work are written: stem and anchor -/
theorem WkA.reset {B g : Nat} {K : Wk} {la ea sa : Option Addr} {lc ec sc : Nat} {vs : Nat → Option Addr} {cs : Nat → Nat} {w : World} (h : WkA B g K la ea sa lc ec sc vs cs w) {sa' : Option Addr} {sc' : Nat} {st : List Int} {an : Int} (hs : w.ownsRow B 3 1 (.slice sa' st.length sc') st.length (intsC st)) :
    WkA B g { K with stem := st, anchor := an } la ea sa' lc ec sc' vs cs ((w.setCell ⟨g, 2, none⟩ (.slice sa' st.length sc')).setCell ⟨g, 3, none⟩ (.int .i64 an)) := by
  have hO : OnlyRow g w ((w.setCell ⟨g, 2, none⟩ (.slice sa' st.length sc')).setCell ⟨g, 3, none⟩ (.int .i64 an)) := (OnlyRow.setCell _ _ _ _).trans (OnlyRow.setCell _ _ _ _)
  refine ⟨((h.row.set 2 _).set 3 _).congr fun j hj => ?_, h.base, own_only hO h.list (own_far h.row h.list (by decide)), own_only hO h.ents (own_far h.row h.ents (by decide)), fun j hj => own_only hO (h.ints j hj) (own_far h.row (h.ints j hj) (by decide)), own_only hO hs (own_far h.row hs (by decide))⟩
  have : j = 0 ∨ j = 1 ∨ j = 2 ∨ j = 3 ∨ j = 4 := by omega
  rcases this with rfl | rfl | rfl | rfl | rfl <;> rfl

set_option maxRecDepth 100000 in
set_option maxHeartbeats 2000000 in
theorem put_keep (B g : Nat) (K : Wk) (la ea sa : Option Addr) (lc ec sc : Nat) (vs : Nat → Option Addr) (cs : Nat → Nat) (w : World) (a : Nat) (lev : Int) (h : WkA B g K la ea sa lc ec sc vs cs w) (ha : a ≤ K.ls.length) (h0 : 0 < K.ls.length) (hn : K.ls.length ≤ 1000) (hnm : 0 ≤ K.names ∧ K.names ≤ 1000) :
    Calls Tryz.prog 93 #[.pointer (some ⟨g, 0, none⟩), .int .i64 (a : Nat), .int .i64 lev] w fun e w' => ∃ (v : Value) (la' : Option Addr) (lc' : Nat), e = .returned v ∧ Hid (WkA B g (putS K a lev) la' ea sa lc' ec sc vs cs w') ∧ Below B w w' ∧ Hid (KeepH g w w') := by
  obtain ⟨i0, hi0, hq0, hq1, hq2⟩ := info_parts infoSpC
  have HK : Hid (WkA B g K la ea sa lc ec sc vs cs w) := h
  obtain ⟨⟨c0, c1, c2, c3, c4⟩, f0, f1, f2, f3, f4⟩ := row5K h.row
  have hcap := ownC_cap h.list
  obtain ⟨vo, vc, gv, hv, hva, hvc⟩ := ownC_cells h.list
  have hvo := hva h0
  injection hv with hv1 _ hv3
  obtain ⟨hvo1, hvo2, hvo3⟩ := hvo
  rw [← hv1] at hvo1
  subst hvo1
  obtain ⟨n, hnn⟩ : ∃ n, n = K.ls.length := ⟨_, rfl⟩
  obtain ⟨nm, hnme⟩ : ∃ n, n = K.names := ⟨_, rfl⟩
  rw [← hnn] at c0 ha h0 hn hcap
  rw [← hnme] at c4 hnm
  have hgl : g < w.heap.size := h.row.lt
  have HN1 : Hid (∀ (j : Nat) (u : Value), (spsC (K.ls.take a))[j]? = some u → w.cell? ((⟨gv, 0, none⟩ : Addr).add j) = some u) := fun j u hu => by
    rw [spsC_take, List.getElem?_take] at hu
    split at hu
    · have hj : j < K.ls.length * 6 := by omega
      have := hvc j u hj hu
      by_cases hj0 : j = 0
      · subst hj0
        simpa [Addr.add] using this
      · simpa [Addr.add, hj0] using this
    · cases hu
  have HL1 : Hid ((spsC (K.ls.take a)).length = a * 6) := by show _ = _; rw [spsC_len, List.length_take, Nat.min_eq_left (by omega)]
  clear h hva hv1 hv3
  have HVC : Hid (∀ c u, c < K.ls.length * 6 → (spsC K.ls)[c]? = some u → w.cell? ⟨gv, c, none⟩ = some u) := hvc
  clear hvc
  have HNN : Hid (n = K.ls.length ∧ nm = K.names) := ⟨hnn, hnme⟩
  clear hnn hnme
  go_enter Tryz.func93, Tryz.ntmps93
  go_wp2_with (first
    | (at_builtin; refine wpList_append_all _ (by rfl) (.tmp 7) (.tmp 13) 125 (by rfl) w.heap.size 129 i0 (.agg #[.int .i64 0, .int .i64 0, .bool false, .int .i64 0, .int .i64 0, .int .i64 0]) 6 48 Tryz.underlying125 hi0 hq0 hq1 hq2 rfl (by omega) _ 0 [] (by rfl) (World.ownsRow_nil _ _ _ _) _ ⟨gv, 0, none⟩ a lc (spsC (K.ls.take a)) (by rfl) ?a0 HL1.out HN1.out ?a1 ?a2 ?a3 (Nat.le_refl _) ?_))
  case a1 => exact spsC_one _
  case a2 => unfold maxLen; omega
  case a3 => omega
  · intro v1 w1 hown1 hgrow1
    obtain ⟨l1, lc1, hl1⟩ := ownC_shape hown1
    subst hl1
    have HB1 : Hid (Below w.heap.size w w1) := (Below.refl w.heap.size w).grown hgrow1 (Nat.le_refl _) (fun _ hr => by simp [Value.ownBlock] at hr)
    have HO1 : Hid (w1.ownsRow w.heap.size 129 6 (.slice l1 a lc1) a (spsC (K.ls.take a))) := hown1
    have hz1 := HB1.out.size
    have e0 := cellTo HB1.out c0 hgl
    have e4 := cellTo HB1.out c4 hgl
    clear hown1 hgrow1
    go_wp2_with (first
      | (at_builtin; refine wpList_append_lies _ (by rfl) (.tmp 15) (.tmp 22) 125 (by rfl) w.heap.size 129 i0 (.agg #[.int .i64 0, .int .i64 0, .bool false, .int .i64 0, .int .i64 0, .int .i64 0]) 6 48 Tryz.underlying125 hi0 hq0 hq1 hq2 rfl (by omega) _ a _ (by rfl) (HO1.out.alloc _) ⟨w1.heap.size, 0, none⟩ 1 1 [.int .i64 nm, .int .i64 lev, .bool false, .int .i64 0, .int .i64 0, .int .i64 0] (by rfl) (by rfl) ?b1 ?b2 (by omega) ?b3 ?b5 ?b4 (w1.heap.size + 1) (by simp) ?_))
    case b1 => exact hB6 _ rfl _ _ _ _ _ _ _
    case b2 => intro u hu; simp at hu; rcases hu with rfl | rfl | rfl | rfl <;> rfl
    case b3 => unfold maxLen; omega
    case b5 => omega
    case b4 => simp; omega
    · intro g2 lc2 w2 hown2 hgrow2 _ _
      have HB2 : Hid (Below w.heap.size w w2) := ownC_grown_below (below_then HB1.out (below_one _)) (by simp; omega) (HO1.out.alloc _) (Nat.le_refl _) hgrow2
      have HO2 : Hid (w2.ownsRow w.heap.size 129 6 (.slice (some ⟨g2, 0, none⟩) (a + 1) lc2) (a + 1) (spsC (K.ls.take a ++ [Sp.mk nm lev false 0 0 0]))) := by
        show World.ownsRow _ _ _ _ _ _ _
        rw [spsC_app]
        exact hown2
      have hz2 := HB2.out.size
      have d0 := cellTo HB2.out c0 hgl
      clear hown2 hgrow2 e0 e4
      have HN2 : Hid (∀ (j : Nat) (u : Value), (spsC (K.ls.drop a))[j]? = some u → w2.cell? ((⟨gv, a * 6, none⟩ : Addr).add j) = some u) := fun j u hu => by
        rw [spsC_drop, List.getElem?_drop] at hu
        have hj : a * 6 + j < K.ls.length * 6 := by rw [← spsC_len]; exact (List.getElem?_eq_some_iff.1 hu).1
        have := cellTo HB2.out (HVC.out _ u hj hu) hvo2
        by_cases hj0 : j = 0
        · subst hj0
          simpa [Addr.add] using this
        · simpa [Addr.add, hj0] using this
      have HL2 : Hid ((spsC (K.ls.drop a)).length = (n - a) * 6) := by show _ = _; rw [spsC_len, List.length_drop, HNN.out.1]
      go_wp2_with (first
        | (at_builtin; refine wpList_append_all _ (by rfl) (.tmp 24) (.tmp 30) 125 (by rfl) w.heap.size 129 i0 (.agg #[.int .i64 0, .int .i64 0, .bool false, .int .i64 0, .int .i64 0, .int .i64 0]) 6 48 Tryz.underlying125 hi0 hq0 hq1 hq2 rfl (by omega) _ (a + 1) _ (by rfl) HO2.out _ ⟨gv, a * 6, none⟩ (n - a) _ (spsC (K.ls.drop a)) (by rfl) ?x0 HL2.out HN2.out ?x1 ?x2 ?x3 ?x4 ?_))
      any_goals first
        | (exact spsC_one _)
        | (unfold maxLen; omega)
        | omega
        | (intro _; rfl)
      all_goals
        intro v3 w3 hown3 hgrow3
        have hlen3 : a + 1 + (n - a) = (putS K a lev).ls.length := by
          show _ = (K.ls.take a ++ [Sp.mk K.names lev false 0 0 0] ++ K.ls.drop a).length
          rw [List.length_append, List.length_append, List.length_take, List.length_drop, ← HNN.out.1, Nat.min_eq_left ha]
          rfl
        have HO3 : Hid (w3.ownsRow w.heap.size 129 6 v3 (putS K a lev).ls.length (spsC (putS K a lev).ls)) := by
          show World.ownsRow _ _ _ _ _ _ _
          rw [← hlen3]
          show World.ownsRow _ _ _ _ _ _ (spsC (K.ls.take a ++ [Sp.mk K.names lev false 0 0 0] ++ K.ls.drop a))
          rw [spsC_app, ← HNN.out.2]
          exact hown3
        obtain ⟨n3, hn3⟩ : ∃ x, x = (putS K a lev).ls.length := ⟨_, rfl⟩
        rw [← hn3] at HO3
        have HN3 : Hid (n3 = (putS K a lev).ls.length) := hn3
        obtain ⟨l3, lc3, hl3⟩ := ownC_shape HO3.out
        subst hl3
        have HB3 : Hid (Below w.heap.size w w3) := ownC_grown_below HB2.out hz2 HO2.out (Nat.le_refl _) hgrow3
        have HRW : Hid (w3.rowIs g 127 5 (wkF (some ⟨gv, 0, none⟩) K.ls.length lc ea K.es.length ec sa K.stem.length sc K.anchor K.names)) := HK.out.row.of_block (HB3.out.block _ hgl)
        obtain ⟨⟨k0, k1, k2, k3, k4⟩, q0, q1, q2, q3, q4⟩ := row5K HRW.out
        rw [← HNN.out.2] at k4
        have r1 := HRW.out.set 0 (.slice l3 n3 lc3)
        have r2 := r1.set 3 (.int .i64 nm)
        have r3 := r2.set 4 (.int .i64 (nm + 1))
        have y4 : (w3.setCell ⟨g, 0, none⟩ (.slice l3 n3 lc3)).cell? ⟨g, 4, none⟩ = some (.int .i64 nm) := by have := r1.cell (i := 4) (by omega); rw [HNN.out.2]; exact this
        have y3 := r1.cell (i := 3) (by omega)
        have z3 := r1.frozen 3
        have y4b : ((w3.setCell ⟨g, 0, none⟩ (.slice l3 n3 lc3)).setCell ⟨g, 3, none⟩ (.int .i64 nm)).cell? ⟨g, 4, none⟩ = some (.int .i64 nm) := by have := r2.cell (i := 4) (by omega); rw [HNN.out.2]; rw [HNN.out.2] at this; exact this
        have z4 := r2.frozen 4
        have HR3 : Hid ((((w3.setCell ⟨g, 0, none⟩ (.slice l3 n3 lc3)).setCell ⟨g, 3, none⟩ (.int .i64 nm)).setCell ⟨g, 4, none⟩ (.int .i64 (nm + 1))).rowIs g 127 5 (wkF l3 n3 lc3 ea K.es.length ec sa K.stem.length sc nm (nm + 1))) := r3.congr fun j hj => by
          have : j = 0 ∨ j = 1 ∨ j = 2 ∨ j = 3 ∨ j = 4 := by omega
          rcases this with rfl | rfl | rfl | rfl | rfl <;> rfl
        have HOn : Hid (OnlyRow g w3 (((w3.setCell ⟨g, 0, none⟩ (.slice l3 n3 lc3)).setCell ⟨g, 3, none⟩ (.int .i64 nm)).setCell ⟨g, 4, none⟩ (.int .i64 (nm + 1)))) := ((OnlyRow.setCell _ _ _ _).trans (OnlyRow.setCell _ _ _ _)).trans (OnlyRow.setCell _ _ _ _)
        have HBB : Hid (Below B w3 (((w3.setCell ⟨g, 0, none⟩ (.slice l3 n3 lc3)).setCell ⟨g, 3, none⟩ (.int .i64 nm)).setCell ⟨g, 4, none⟩ (.int .i64 (nm + 1)))) := HOn.out.below (Below.refl _ _) HK.out.base
        simp only [wkF] at y3
        clear hown3 hgrow3 r1 r2 r3 hn3 hlen3 d0
        go_wp2
        have hBw : B ≤ w.heap.size := by have := HK.out.base; omega
        refine bodyPost_end (results_none rfl _ _ _) rfl ⟨_, l3, lc3, rfl, ?_, (HB3.out.mono hBw).trans HBB.out, (KeepH.below HB3.out).trans (.only HOn.out)⟩
        have hrow := HR3.out
        rw [HN3.out, HNN.out.2] at hrow
        have hlist := own_only HOn.out HO3.out (own_far HRW.out HO3.out (by decide))
        rw [HN3.out, HNN.out.2] at hlist
        refine ⟨?_, HK.out.base, ?_, ?_, fun j hj => ?_, ?_⟩
        · rw [HN3.out, HNN.out.2]
          exact hrow
        · rw [HN3.out, HNN.out.2]
          exact ownC_base hlist hBw
        · have ho := ownC_below HK.out.ents HB3.out
          exact own_only HOn.out ho (own_far HRW.out ho (by decide))
        · have ho := ownC_below (HK.out.ints j hj) HB3.out
          exact own_only HOn.out ho (own_far HRW.out ho (by decide))
        · have ho := ownC_below HK.out.stem HB3.out
          exact own_only HOn.out ho (own_far HRW.out ho (by decide))


theorem entC_set (tx tx' : Nat → ByteArray) (k k' : Nat → Nat) (vs vs' : Nat → Option Addr) (cs cs' : Nat → Nat) {m q : Nat} (hq : q < m) (h : ∀ j, j < m → j ≠ q → tx j = tx' j ∧ k j = k' j ∧ vs j = vs' j ∧ cs j = cs' j) (ht : tx q = tx' q) : (entC tx k vs cs m).set (q * 2 + 1) (.slice (vs' q) (k' q) (cs' q)) = entC tx' k' vs' cs' m := by
  refine List.ext_getElem? fun c => ?_
  by_cases hc : c < m * 2
  · have hcm : c / 2 < m := by omega
    have e1 := entC_at tx k vs cs m (c / 2) hcm
    have e2 := entC_at tx' k' vs' cs' m (c / 2) hcm
    rw [List.getElem?_set]
    by_cases hq2 : q * 2 + 1 = c
    · rw [if_pos hq2, if_pos (by rw [entC_len]; omega)]
      have hcq : c / 2 = q := by omega
      rw [hcq] at e2
      rw [← hq2]
      exact e2.2.symm
    · rw [if_neg hq2]
      by_cases hpar : c % 2 = 0
      · have hcc : c = c / 2 * 2 := by omega
        rw [hcc, e1.1, e2.1]
        by_cases hcq : c / 2 = q
        · rw [hcq, ht]
        · rw [(h _ hcm hcq).1]
      · have hcc : c = c / 2 * 2 + 1 := by omega
        have hcq : c / 2 ≠ q := fun e => hq2 (by omega)
        have h3 := h _ hcm hcq
        rw [hcc, e1.2, e2.2, h3.2.1, h3.2.2.1, h3.2.2.2]
  · rw [List.getElem?_eq_none (by rw [List.length_set, entC_len]; omega), List.getElem?_eq_none (by rw [entC_len]; omega)]
theorem repE_at {es : List En} (ho : OnceE es) {e : En} {q : Nat} (hq : q < es.length) (ht : (es.getD q default).tx = e.tx) : repE es e = es.set q e := by
  have hx : ∃ x ∈ es, x.tx = e.tx := ⟨es[q], List.getElem_mem hq, by rw [getD_at hq] at ht; exact ht⟩
  unfold repE
  rw [if_pos hx]
  refine List.ext_getElem (by simp) fun j h1 h2 => ?_
  rw [List.getElem_map, List.getElem_set]
  have hj : j < es.length := by simpa using h1
  by_cases hjq : q = j
  · subst hjq
    rw [if_pos rfl, if_pos (by rw [getD_at hq] at ht; exact ht)]
  · rw [if_neg hjq, if_neg]
    intro he
    rw [getD_at hq] at ht
    have hp := List.pairwise_iff_getElem.1 ho
    rcases Nat.lt_or_gt_of_ne hjq with h3 | h3
    · exact hp q j hq hj h3 (ht.trans he.symm)
    · exact hp j q hj hq h3 (he.trans ht.symm)
/-- an entry's numbers are replaced -/
theorem WkA.setE {B g : Nat} {K : Wk} {la sa : Option Addr} {lc ec sc ge : Nat} {vs : Nat → Option Addr} {cs : Nat → Nat} {w : World} (h : WkA B g K la (some ⟨ge, 0, none⟩) sa lc ec sc vs cs w) {q : Nat} (hq : q < K.es.length) {l4 : Option Addr} {lc4 : Nat} {zs : List Int} (hz : w.ownsRow B 3 1 (.slice l4 zs.length lc4) zs.length (intsC zs)) :
    WkA B g { K with es := K.es.set q ⟨(K.es.getD q default).tx, zs⟩ } la (some ⟨ge, 0, none⟩) sa lc ec sc (upd vs q l4) (upd cs q lc4) (w.setCell ⟨ge, q * 2 + 1, none⟩ (.slice l4 zs.length lc4)) := by
  have hO : OnlyRow ge w (w.setCell ⟨ge, q * 2 + 1, none⟩ (.slice l4 zs.length lc4)) := OnlyRow.setCell _ _ _ _
  have hgg : g ≠ ge := fun e => own_far h.row h.ents (by decide) (by rw [e]; rfl)
  have far : ∀ {e : TypeId} {size : Nat} {v : Value} {m : Nat} {xs : List Value}, w.ownsRow B e size v m xs → e ≠ 63 → v.ownBlock ≠ some ge := fun ho ht hb => ownC_two ho h.ents ht hb rfl
  have hlen : (K.es.set q ⟨(K.es.getD q default).tx, zs⟩).length = K.es.length := List.length_set
  have hat : ∀ j, (K.es.set q ⟨(K.es.getD q default).tx, zs⟩).getD j default = if q = j then ⟨(K.es.getD q default).tx, zs⟩ else K.es.getD j default := fun j => by
    rw [List.getD_eq_getElem?_getD, List.getElem?_set]
    by_cases hj : q = j
    · subst hj
      rw [if_pos rfl, if_pos hq, if_pos rfl]; rfl
    · rw [if_neg hj, if_neg hj, List.getD_eq_getElem?_getD]
  refine ⟨?_, h.base, own_only hO h.list (far h.list (by decide)), ?_, fun j hj => ?_, own_only hO h.stem (far h.stem (by decide))⟩
  · show World.rowIs _ _ _ _ (wkF _ _ _ _ (K.es.set q ⟨(K.es.getD q default).tx, zs⟩).length _ _ _ _ _ _)
    rw [hlen]
    exact hO.row h.row hgg
  · show World.ownsRow _ _ _ _ (.slice _ (K.es.set q ⟨(K.es.getD q default).tx, zs⟩).length _) (K.es.set q ⟨(K.es.getD q default).tx, zs⟩).length _
    rw [hlen]
    have hs := own_setN h.ents (q := q * 2 + 1) (.slice l4 zs.length lc4)
    have he := entC_set (fun j => (K.es.getD j default).tx) (fun j => ((K.es.set q ⟨(K.es.getD q default).tx, zs⟩).getD j default).tx) (fun j => (K.es.getD j default).zs.length) (fun j => ((K.es.set q ⟨(K.es.getD q default).tx, zs⟩).getD j default).zs.length) vs (upd vs q l4) cs (upd cs q lc4) hq (fun j _ hj => by
      rw [hat, if_neg (Ne.symm hj), upd_ne _ _ _ hj, upd_ne _ _ _ hj]
      exact ⟨rfl, rfl, rfl, rfl⟩) (by rw [hat, if_pos rfl])
    simp only [upd_at] at he
    rw [hat, if_pos rfl] at he
    rw [← he]
    exact hs
  · have hj : j < (K.es.set q ⟨(K.es.getD q default).tx, zs⟩).length := hj
    rw [hlen] at hj
    show World.ownsRow _ _ _ _ (.slice _ ((K.es.set q ⟨(K.es.getD q default).tx, zs⟩).getD j default).zs.length _) ((K.es.set q ⟨(K.es.getD q default).tx, zs⟩).getD j default).zs.length (intsC ((K.es.set q ⟨(K.es.getD q default).tx, zs⟩).getD j default).zs)
    rw [hat]
    by_cases hjq : q = j
    · subst hjq
      rw [if_pos rfl, upd_at, upd_at]
      exact own_only hO hz (far hz (by decide))
    · rw [if_neg hjq, upd_ne _ _ _ (Ne.symm hjq), upd_ne _ _ _ (Ne.symm hjq)]
      exact own_only hO (h.ints j hj) (far (h.ints j hj) (by decide))
/-- an entry more -/
theorem WkA.addE {B g : Nat} {K : Wk} {la ea sa : Option Addr} {lc ec sc : Nat} {vs : Nat → Option Addr} {cs : Nat → Nat} {w0 w w' : World} {X : Obj} (h : WkA B g K la ea sa lc ec sc vs cs w0) (hw : w = w0.drew.alloc X) (hB : B ≤ w.heap.size) {ea' : Option Addr} {ec' : Nat} {l4 : Option Addr} {lc4 : Nat} {e : En} (hz : w0.ownsRow B 3 1 (.slice l4 e.zs.length lc4) e.zs.length (intsC e.zs))
    (hgr : w.grownBy w' (Value.slice ea K.es.length ec).ownBlock) (hown : w'.ownsRow B 63 2 (.slice ea' (K.es.length + 1) ec') (K.es.length + 1) (entC (fun j => (K.es.getD j default).tx) (fun j => (K.es.getD j default).zs.length) vs cs K.es.length ++ [.string e.tx, .slice l4 e.zs.length lc4])) :
    WkA B g { K with es := K.es ++ [e] } la ea' sa lc ec' sc (upd vs K.es.length l4) (upd cs K.es.length lc4) (w'.setCell ⟨g, 1, none⟩ (.slice ea' (K.es.length + 1) ec')) := by
  subst hw
  have hE := h.ents.drew.alloc X
  have grow : ∀ {t : TypeId} {size : Nat} {v : Value} {m : Nat} {xs : List Value}, w0.ownsRow B t size v m xs → t ≠ 63 → w'.ownsRow B t size v m xs := fun ho ht => ownC_grown (ho.drew.alloc X) hE ht hgr
  have hr0 := h.row.drew.alloc X
  have hr : w'.rowIs g 127 5 (wkF la K.ls.length lc ea K.es.length ec sa K.stem.length sc K.anchor K.names) := hr0.of_block (hgr.block _ hr0.lt (fun e => own_far hr0 hE (by decide) e.symm))
  have hO : OnlyRow g w' (w'.setCell ⟨g, 1, none⟩ (.slice ea' (K.es.length + 1) ec')) := OnlyRow.setCell _ _ _ _
  have hlen : (K.es ++ [e]).length = K.es.length + 1 := by simp
  have hat : ∀ j, j < K.es.length → (K.es ++ [e]).getD j default = K.es.getD j default := fun j hj => by
    rw [List.getD_eq_getElem?_getD, List.getElem?_append_left hj, List.getD_eq_getElem?_getD]
  have hatn : (K.es ++ [e]).getD K.es.length default = e := by
    rw [List.getD_eq_getElem?_getD, List.getElem?_append_right (Nat.le_refl _), Nat.sub_self]; rfl
  have hl := grow h.list (by decide)
  have hs := grow h.stem (by decide)
  refine ⟨?_, h.base, own_only hO hl (own_far hr hl (by decide)), ?_, fun j hj => ?_, own_only hO hs (own_far hr hs (by decide))⟩
  · show World.rowIs _ _ _ _ (wkF _ _ _ _ (K.es ++ [e]).length _ _ _ _ _ _)
    rw [hlen]
    exact (hr.set 1 _).congr fun j hj => by
      have : j = 0 ∨ j = 1 ∨ j = 2 ∨ j = 3 ∨ j = 4 := by omega
      rcases this with rfl | rfl | rfl | rfl | rfl <;> rfl
  · show World.ownsRow _ _ _ _ (.slice _ (K.es ++ [e]).length _) (K.es ++ [e]).length _
    rw [hlen]
    have he : entC (fun j => ((K.es ++ [e]).getD j default).tx) (fun j => ((K.es ++ [e]).getD j default).zs.length) (upd vs K.es.length l4) (upd cs K.es.length lc4) (K.es.length + 1) = entC (fun j => (K.es.getD j default).tx) (fun j => (K.es.getD j default).zs.length) vs cs K.es.length ++ [.string e.tx, .slice l4 e.zs.length lc4] := by
      rw [entC_snoc]
      simp only [upd_at]
      rw [hatn]
      congr 1
      unfold entC
      rw [List.flatMap_def, List.flatMap_def]
      congr 1
      refine List.map_congr_left fun j hj => ?_
      rw [List.mem_range] at hj
      simp only
      rw [hat j hj, upd_ne _ _ _ (by omega), upd_ne _ _ _ (by omega)]
    show World.ownsRow _ _ _ _ _ _ (entC (fun j => ((K.es ++ [e]).getD j default).tx) (fun j => ((K.es ++ [e]).getD j default).zs.length) (upd vs K.es.length l4) (upd cs K.es.length lc4) (K.es.length + 1))
    rw [he]
    exact own_only hO hown (own_far hr hown (by decide))
  · have hj : j < (K.es ++ [e]).length := hj
    rw [hlen] at hj
    show World.ownsRow _ _ _ _ (.slice _ ((K.es ++ [e]).getD j default).zs.length _) ((K.es ++ [e]).getD j default).zs.length (intsC ((K.es ++ [e]).getD j default).zs)
    by_cases hjq : j = K.es.length
    · subst hjq
      rw [hatn, upd_at, upd_at]
      have hz' := grow hz (by decide)
      exact own_only hO hz' (own_far hr hz' (by decide))
    · rw [hat j (by omega), upd_ne _ _ _ hjq, upd_ne _ _ _ hjq]
      have hi := grow (h.ints j (by omega)) (by decide)
      exact own_only hO hi (own_far hr hi (by decide))

end Go.Proofs.YtpclldccjpncdabGreat

namespace Go.Proofs.YtpclldccjpncdabGreat
open Go.RowKit

/-- an entry with the places of its nodes -/
def plE (l : List Sp) (e : En) : En := ⟨e.tx, e.zs.map (plc l)⟩
theorem plE_at (l : List Sp) (E : List En) {j : Nat} (h : j < E.length) : (E.map (plE l)).getD j default = plE l (E.getD j default) := by
  rw [getD_at (by rw [List.length_map]; exact h), getD_at h, List.getElem_map]
/-- is it behind what was laid -/
def lat (E : List En) (r : Nat) (u : ByteArray) : Prop := r = 0 ∨ lessB (E.getD (r - 1) default).tx u = true
theorem lat_iff {E : List En} (hs : SortE E) {r k : Nat} (hr' : r ≤ E.length) (hk : k < E.length) : lat E r (E.getD k default).tx ↔ r ≤ k := by
  have hp := List.pairwise_iff_getElem.1 hs
  unfold lat
  constructor
  · rintro (h | h)
    · omega
    · by_cases hr : r - 1 < E.length
      · rw [getD_at hr, getD_at hk] at h
        rcases Nat.lt_trichotomy (r - 1) k with h1 | h1 | h1
        · omega
        · subst h1
          rw [lessB_irr] at h
          cases h
        · have := hp k (r - 1) hk hr h1
          rw [lessB_asym this] at h
          cases h
      · omega
  · intro h
    by_cases h0 : r = 0
    · exact .inl h0
    · right
      rw [getD_at (by omega), getD_at hk]
      exact hp (r - 1) k (by omega) hk (by omega)
/-- the least of the first i that is behind -/
def LeastR (es E : List En) (r i : Nat) (q : Int) : Prop :=
  (q = -1 ∧ ∀ j, j < i → ¬ lat E r (es.getD j default).tx) ∨
  (∃ p : Nat, q = (p : Nat) ∧ p < i ∧ lat E r (es.getD p default).tx ∧ ∀ j, j < i → lat E r (es.getD j default).tx → lessB (es.getD j default).tx (es.getD p default).tx = false)
theorem least_end {es E : List En} (hp : es.Perm E) (hs : SortE E) {r : Nat} (hr : r < E.length) {q : Int} (h : LeastR es E r es.length q) : ∃ p : Nat, q = (p : Nat) ∧ p < es.length ∧ es.getD p default = E.getD r default := by
  have ho : OnceE es := (once_perm hp).2 (sort_once hs)
  have hrm : E.getD r default ∈ es := by rw [getD_at hr]; exact hp.mem_iff.2 (List.getElem_mem hr)
  obtain ⟨j, hj, hje⟩ := List.getElem_of_mem hrm
  have hjl : lat E r (es.getD j default).tx := by rw [getD_at hj, hje]; exact (lat_iff hs (by omega) hr).2 (Nat.le_refl _)
  rcases h with ⟨_, hno⟩ | ⟨p, rfl, hpl, hlat, hmin⟩
  · exact absurd hjl (hno j hj)
  · refine ⟨p, rfl, hpl, ?_⟩
    have hpm : es.getD p default ∈ E := by rw [getD_at hpl]; exact hp.mem_iff.1 (List.getElem_mem hpl)
    obtain ⟨k, hk, hke⟩ := List.getElem_of_mem hpm
    have hlk : r ≤ k := (lat_iff hs (by omega) hk).1 (by rw [getD_at hk, hke]; exact hlat)
    by_cases hrk : r = k
    · subst hrk
      rw [← hke, getD_at hr]
    · have hlt := List.pairwise_iff_getElem.1 hs r k hr hk (by omega)
      have := hmin j hj hjl
      rw [getD_at hj, hje, ← hke, getD_at hr, hlt] at this
      cases this

def sLen (o : Option Value) : Nat := match o with
  | some (.slice _ n _) => n
  | _ => 0

set_option maxRecDepth 100000 in
set_option maxHeartbeats 8000000 in
theorem refTable_any (B g : Nat) (K : Wk) (la ea sa : Option Addr) (lc ec sc : Nat) (vs : Nat → Option Addr) (cs : Nat → Nat) (E : List En) (w : World) (h : WkA B g K la ea sa lc ec sc vs cs w) (hn : K.ls.length ≤ 48) (hm : K.es.length ≤ 48) (hk : ∀ e ∈ K.es, 1 ≤ e.zs.length ∧ e.zs.length ≤ 4) (hp : K.es.Perm E) (hs : SortE E) :
    Calls Tryz.prog 64 #[.pointer (some ⟨g, 0, none⟩)] w fun e w' => ∃ (no : Option Addr) (nc : Nat) (eo : Option Addr) (ec' : Nat) (vs' : Nat → Option Addr) (cs' : Nat → Nat), e = .returned (.agg #[.slice no K.ls.length nc, .slice eo K.es.length ec']) ∧ Hid (w'.ownsRow w.heap.size 65 3 (.slice no K.ls.length nc) K.ls.length (ndsC K.ls) ∧ w'.ownsRow w.heap.size 63 2 (.slice eo K.es.length ec') K.es.length (entC (txE (E.map (plE K.ls))) (kE (E.map (plE K.ls))) vs' cs' K.es.length) ∧ EntsO w.heap.size (kE (E.map (plE K.ls))) (zE (E.map (plE K.ls))) K.es.length vs' cs' w') ∧ Below w.heap.size w w' := by
  obtain ⟨i0, hi0, hq0, hq1, hq2⟩ := info_parts infoNodeC
  have HK : Hid (∀ wx, Below w.heap.size w wx → WkA B g K la ea sa lc ec sc vs cs wx) := fun wx hb => h.below hb
  have HKZ : Hid (∀ e ∈ K.es, 1 ≤ e.zs.length ∧ e.zs.length ≤ 4) := hk
  have HPM : Hid (K.es.Perm E) := hp
  have HST : Hid (SortE E) := hs
  have hg := h.row.lt
  obtain ⟨W, hW⟩ : ∃ W, W = (w.alloc (.cells #[.slice none 0 0, .slice none 0 0] 28)).alloc (.cells #[.slice none 0 0, .slice none 0 0] 28) := ⟨_, rfl⟩
  have HB0 : Hid (Below w.heap.size w W) := by show Below _ _ _; rw [hW]; exact below_then (below_one _) (below_one _)
  have HR0 : Hid (W.rowIs w.heap.size 28 2 (fun j => #[Value.slice none 0 0, .slice none 0 0].getD j undef)) := by show World.rowIs _ _ _ _ _; rw [hW]; exact (row_new _ _ _ 2 rfl).alloc _
  have HT0 : Hid (W.rowIs (w.heap.size + 1) 28 2 (fun j => #[Value.slice none 0 0, .slice none 0 0].getD j undef)) := by show World.rowIs _ _ _ _ _; rw [hW]; exact row_at (row_new _ _ _ 2 rfl) (by simp) (fun _ _ => rfl)
  have HWS : Hid (W.heap.size = w.heap.size + 2) := by show _ = _; rw [hW]; simp
  have hws := HWS.out
  obtain ⟨n, hnn⟩ : ∃ n, n = K.ls.length := ⟨_, rfl⟩
  obtain ⟨m, hmm⟩ : ∃ m, m = K.es.length := ⟨_, rfl⟩
  have HN : Hid (n = K.ls.length ∧ m = K.es.length) := ⟨hnn, hmm⟩
  rw [← hnn] at hn
  rw [← hmm] at hm
  rw [← hnn, ← hmm]
  obtain ⟨EP, hEP⟩ : ∃ l, l = E.map (plE K.ls) := ⟨_, rfl⟩
  have HEP : Hid (EP = E.map (plE K.ls)) := hEP
  rw [← hEP]
  clear h hk hp hs hnn hmm hEP
  go_enter Tryz.func64, Tryz.ntmps64
  go_wp2
  rw [← hW]
  clear hW
  go_loopw [4] (fun iv wr => ∃ (i : Nat) (no : Option Addr) (nc : Nat), i ≤ n ∧ iv = .int .i64 (i : Nat) ∧ Below (w.heap.size + 1) W wr ∧ Hid (wr.rowIs (w.heap.size + 1) 28 2 (fun j => #[Value.slice no i nc, .slice none 0 0].getD j undef)) ∧ Hid (wr.ownsRow (w.heap.size + 2) 65 3 (.slice no i nc) i (ndsC (K.ls.take i)))) (fun iv _ => n - (intOf iv).toNat)
  case atStart => exact ⟨0, none, 0, Nat.zero_le _, rfl, Below.refl _ _, HT0, World.ownsRow_nil _ _ _ _⟩
  case round =>
    obtain ⟨i, no, nc, hi, rfl, hbel, HT, HO⟩ := hrel
    have hzt := HT.out.lt
    have HBW : Hid (Below w.heap.size w wr) := HB0.out.trans (hbel.mono (by omega))
    have HKw := HK.out wr HBW.out
    have hgr := HKw.row.lt
    obtain ⟨⟨c0, c1, _, _, _⟩, _⟩ := row5K HKw.row
    rw [← HN.out.1] at c0
    rw [← HN.out.2] at c1
    have hgw : g ≠ w.heap.size + 1 := by omega
    have hgw2 : w.heap.size + 1 ≠ g := by omega
    by_cases hlt : i < n
    · have hltI : (i : Int) < (n : Int) := by omega
      have hlt' : i < K.ls.length := by rw [← HN.out.1]; exact hlt
      obtain ⟨gv, hli⟩ := list_in HKw.list
      have had := hli.addr (by omega)
      have hgv : gv < w.heap.size := by
        obtain ⟨gv0, hli0⟩ := list_in (HK.out w (Below.refl _ _)).list
        have h1 := hli0.addr (by omega)
        rw [had] at h1
        have h2 := (ownC_lt (HK.out w (Below.refl _ _)).list (b := gv) (by rw [had]; rfl)).1
        exact h2
      have e3 := hli.p i hlt'
      have e4 := hli.s i hlt'
      have e5 := hli.t i hlt'
      obtain ⟨x, hx⟩ : ∃ x, x = K.ls.getD i default := ⟨_, rfl⟩
      rw [← hx] at e3 e4 e5
      have HTK : Hid (ndsC (K.ls.take (i + 1)) = ndsC (K.ls.take i) ++ [.int .i64 x.p, .int .i64 x.s, .int .i64 x.t]) := by show _ = _; rw [take_snocS K.ls i hlt', ndsC_app, hx]; rfl
      rw [had] at c0
      have t0 : wr.cell? ⟨w.heap.size + 1, 0, none⟩ = some (.slice no i nc) := HT.out.cell (i := 0) (by omega)
      have HGW : Hid (∀ (w5 : World) (X : Obj), (wr.drew.alloc X).grownBy w5 (Value.slice no i nc).ownBlock → w5.rowIs (w.heap.size + 1) 28 2 (fun j => #[Value.slice no i nc, .slice none 0 0].getD j undef)) := fun w5 X hg5 => by
        have h1 := HT.out.drew.alloc X
        exact h1.of_block (hg5.block _ h1.lt (fun e => by have := (ownC_lt HO.out e.symm).2; omega))
      have hgvr : gv < wr.heap.size := by omega
      clear hx hli hlt' had HKw c1
      go_wp2
      go_region_law ((refine step_append_lies _ (by rfl) (.tmp 21) (.tmp 30) 25 (by rfl) (w.heap.size + 2) 65 i0 (.agg #[.int .i64 0, .int .i64 0, .int .i64 0]) 3 24 Tryz.underlying25 hi0 hq0 hq1 hq2 rfl (by omega) (.slice no i nc) i (ndsC (K.ls.take i)) (by rfl) (HO.out.drew.alloc _) ⟨wr.heap.size, 0, none⟩ 1 1 [.int .i64 x.p, .int .i64 x.s, .int .i64 x.t] (by rfl) (by rfl) (newC3 _ rfl _ _ _ _) (by intro u hu; simp at hu; rcases hu with rfl | rfl | rfl <;> rfl) (by omega) (by unfold maxLen; omega) (by omega) (by simp; omega) (wr.heap.size + 1) (by simp) ?_; intro g5 cap5 w5 hown5 hgrow5 _ _; have rw5 := HGW.out _ _ hgrow5; have rf := rw5.frozen 0; have rc := rw5.cell (i := 0) (by omega)))
      all_goals
        have hOS : OnlyRow (w.heap.size + 1) w5 (w5.setCell ⟨w.heap.size + 1, 0, none⟩ (.slice (some ⟨g5, 0, none⟩) (i + 1) cap5)) := OnlyRow.setCell _ _ _ _
        have HNX : Hid (Below (w.heap.size + 1) W (w5.setCell ⟨w.heap.size + 1, 0, none⟩ (.slice (some ⟨g5, 0, none⟩) (i + 1) cap5)) ∧ (w5.setCell ⟨w.heap.size + 1, 0, none⟩ (.slice (some ⟨g5, 0, none⟩) (i + 1) cap5)).rowIs (w.heap.size + 1) 28 2 (fun j => #[Value.slice (some ⟨g5, 0, none⟩) (i + 1) cap5, .slice none 0 0].getD j undef) ∧ (w5.setCell ⟨w.heap.size + 1, 0, none⟩ (.slice (some ⟨g5, 0, none⟩) (i + 1) cap5)).ownsRow (w.heap.size + 2) 65 3 (.slice (some ⟨g5, 0, none⟩) (i + 1) cap5) (i + 1) (ndsC (K.ls.take (i + 1)))) := by
          refine ⟨hOS.below (ownC_grown_below (hbel.drew.alloc (by have := hbel.size; show w.heap.size + 1 ≤ wr.heap.size; omega) _) (by simp; omega) (HO.out.drew.alloc _) (by omega) hgrow5) (Nat.le_refl _), (rw5.set 0 _).congr fun j hj => ?_, own_only hOS (by rw [HTK.out]; exact hown5) (fun e => by have := (ownC_lt hown5 e).2; omega)⟩
          have : j = 0 ∨ j = 1 := by omega
          rcases this with rfl | rfl <;> rfl
        clear hOS rw5 rf rc hown5 hgrow5 e3 e4 e5 t0 c0
        go_wp2
        go_roundw
        case rel => exact ⟨i + 1, some ⟨g5, 0, none⟩, cap5, by omega, by go_num, HNX.out.1, HNX.out.2.1, HNX.out.2.2⟩
        case measure => simp [intOf]; omega
    · have hie : i = n := by omega
      subst hie
      have HNO : Hid (wr.ownsRow (w.heap.size + 2) 65 3 (.slice no i nc) i (ndsC K.ls)) := by
        have := HO.out
        rw [List.take_of_length_le (by rw [← HN.out.1]; exact Nat.le_refl _)] at this
        exact this
      obtain ⟨j0, hj0, hp0, hp1, hp2⟩ := info_parts infoEntC
      obtain ⟨k0, hk0, hr0, hr1, hr2⟩ := info_parts infoIntC
      have HR1 : Hid (wr.rowIs w.heap.size 28 2 (fun j => #[Value.slice none 0 0, .slice none 0 0].getD j undef)) := HR0.out.of_block (hbel.block _ (by omega))
      have hgeN : (i : Int) ≤ (i : Int) := Int.le_refl _
      have hlenE : Hid (E.length = m) := by show _ = _; rw [HN.out.2]; exact HPM.out.length_eq.symm
      clear hlt hi HKw
      go_wp2
      clear c0 c1
      go_loopw [] (fun ws => ∃ (r : Nat) (eo : Option Addr) (ec2 : Nat) (vs2 : Nat → Option Addr) (cs2 : Nat → Nat), r ≤ m ∧ Below (w.heap.size + 1) W ws ∧ Hid (ws.rowIs (w.heap.size + 1) 28 2 (fun j => #[Value.slice no i nc, .slice eo r ec2].getD j undef)) ∧ Hid (ws.ownsRow (w.heap.size + 2) 65 3 (.slice no i nc) i (ndsC K.ls)) ∧ Hid (ws.ownsRow (w.heap.size + 2) 63 2 (.slice eo r ec2) r (entC (txE EP) (kE EP) vs2 cs2 r)) ∧ Hid (EntsO (w.heap.size + 2) (kE EP) (zE EP) r vs2 cs2 ws)) (fun ws => m - sLen (ws.cell? ⟨w.heap.size + 1, 1, none⟩))
      case atStart => exact ⟨0, none, 0, fun _ => none, fun _ => 0, Nat.zero_le _, hbel, HT, HNO, World.ownsRow_nil _ _ _ _, EntsO.nil _ _ _ _ _ _⟩
      case round =>
        rename World => ws
        obtain ⟨r, eo, ec2, vs2, cs2, hrm, hbs, HTs, HNs, HEs, HIs⟩ := hrel
        have hzs := HTs.out.lt
        have HBWs : Hid (Below w.heap.size w ws) := HB0.out.trans (hbs.mono (by omega))
        have HKs : Hid (WkA B g K la ea sa lc ec sc vs cs ws) := HK.out ws HBWs.out
        have hgs := HKs.out.row.lt
        obtain ⟨⟨_, c1, _, _, _⟩, _⟩ := row5K HKs.out.row
        rw [← HN.out.2] at c1
        have t1 : ws.cell? ⟨w.heap.size + 1, 1, none⟩ = some (.slice eo r ec2) := HTs.out.cell (i := 1) (by omega)
        have HMS : Hid (sLen (ws.cell? ⟨w.heap.size + 1, 1, none⟩) = r) := by show _ = _; rw [t1]; rfl
        by_cases hlt : r < m
        · have hltI : (r : Int) < (m : Int) := by omega
          have hrE : r < E.length := by rw [hlenE.out]; exact hlt
          obtain ⟨eb, hEI⟩ := HKs.out.entries (by rw [← HN.out.2]; omega) (fun e he => by have := (HKZ.out e he).2; omega)
          have hEa := hEI.addr (by rw [← HN.out.2]; omega)
          subst hEa
          have HEI : Hid (EntriesIn ws.heap.size ws (some ⟨eb, 0, none⟩) K.es.length eb 0 (txE K.es) vs (kE K.es) cs (fun i => aB (vs i)) (fun _ => 0) (zE K.es)) := hEI
          have hebw : eb < w.heap.size := by
            have h2 := (ownC_lt (HK.out w (Below.refl _ _)).ents (b := eb) rfl).1
            exact h2
          have HLAST : Hid (0 < r → ∃ ge : Nat, eo = some ⟨ge, 0, none⟩ ∧ w.heap.size + 2 ≤ ge ∧ ge < ws.heap.size ∧ ws.cell? ⟨ge, (r - 1) * 2, none⟩ = some (.string (E.getD (r - 1) default).tx)) := fun h0 => by
            obtain ⟨vo, vc, ge, hv, hva, hvc⟩ := ownC_cells HEs.out
            injection hv with hv1 _ _
            obtain ⟨h1, h2, h3⟩ := hva h0
            refine ⟨ge, by rw [hv1]; exact h1, h3, h2, ?_⟩
            have h4 := (entC_at (txE EP) (kE EP) vs2 cs2 r (r - 1) (by omega)).1
            have h5 : txE EP (r - 1) = (E.getD (r - 1) default).tx := by
              rw [txE, HEP.out, plE_at K.ls E (by omega)]
              rfl
            rw [h5] at h4
            exact hvc _ _ (by omega) h4
          clear hEI
          go_wp2
          go_quiet (fail)
          have hy : Below ws.heap.size ws (ws.drewN nq) := below_drewN (Below.refl _ _) nq
          have HDN : Hid ((ws.drewN nq).heap.size = ws.heap.size ∧ (∀ a, (ws.drewN nq).cell? a = ws.cell? a)) := ⟨rfl, fun _ => rfl⟩
          generalize ws.drewN nq = wt at hy HDN ⊢
          go_wp2
          have hzt2 : w.heap.size + 1 < wt.heap.size := by rw [HDN.out.1]; exact hzs
          have HKt : Hid (∀ wu, Below wt.heap.size wt wu → wu.cell? ⟨g, 1, none⟩ = some (.slice (some ⟨eb, 0, none⟩) m ec) ∧ wu.cell? ⟨w.heap.size + 1, 1, none⟩ = some (.slice eo r ec2) ∧ (∀ k, k < m → wu.cell? ⟨eb, 0 + k * 2, none⟩ = some (.string (K.es.getD k default).tx)) ∧ (0 < r → ∃ ge : Nat, eo = some ⟨ge, 0, none⟩ ∧ w.heap.size + 2 ≤ ge ∧ wu.cell? ⟨ge, (r - 1) * 2, none⟩ = some (.string (E.getD (r - 1) default).tx))) := fun wu hb => by
            have h1 : Below ws.heap.size ws wu := hy.trans (hb.mono (by rw [HDN.out.1]; exact Nat.le_refl _))
            refine ⟨cellTo h1 c1 hgs, cellTo h1 t1 hzs, fun k hk => ?_, fun h0 => ?_⟩
            · exact cellTo h1 (HEI.out.text k (by rw [← HN.out.2]; exact hk)) (by show eb < _; omega)
            · obtain ⟨ge, e1, e2, e3, e4⟩ := HLAST.out h0
              exact ⟨ge, e1, e2, cellTo h1 e4 e3⟩
          clear c1 t1
          go_loopw [5, 6] (fun qv kv wu => ∃ (k : Nat) (q : Int), k ≤ m ∧ kv = .int .i64 (k : Nat) ∧ qv = .int .i64 q ∧ (-1 ≤ q ∧ q < (m : Nat)) ∧ Hid (LeastR K.es E r k q) ∧ Below wt.heap.size wt wu) (fun _ kv _ => m - (intOf kv).toNat)
          case atStart => exact ⟨0, -1, Nat.zero_le _, rfl, rfl, by omega, .inl ⟨rfl, fun j hj => by omega⟩, Below.refl _ _⟩
          case round =>
            rename World => wu
            obtain ⟨k, q, hk, rfl, rfl, ⟨hq1', hq2'⟩, HLE, hbu⟩ := hrel
            obtain ⟨d1, d2, d3, d4⟩ := HKt.out wu hbu
            have hzu := hbu.size
            by_cases hkm : k < m
            · have hkmI : (k : Int) < (m : Int) := by omega
              have x0 := d3 k hkm
              rw [Nat.zero_add] at x0
              obtain ⟨xt, hxt⟩ : ∃ x, x = (K.es.getD k default).tx := ⟨_, rfl⟩
              rw [← hxt] at x0
              have HXT : Hid (xt = (K.es.getD k default).tx) := hxt
              have HD3 : Hid (∀ k, k < m → wu.cell? ⟨eb, 0 + k * 2, none⟩ = some (.string (K.es.getD k default).tx)) := d3
              have HD4 : Hid (0 < r → ∃ ge : Nat, eo = some ⟨ge, 0, none⟩ ∧ w.heap.size + 2 ≤ ge ∧ wu.cell? ⟨ge, (r - 1) * 2, none⟩ = some (.string (E.getD (r - 1) default).tx)) := d4
              clear hxt d3 d4
              go_upto_region 11 with (fail)
              go_cut [7] from 42 to 99 (fun v7 wv => ∃ lb : Bool, v7 = .bool lb ∧ Hid (lb = true ↔ lat E r xt) ∧ Hid (Below wu.heap.size wu wv))
              case first =>
                by_cases hr0 : r = 0
                · have e1 : ((r : Int) == 0) = true := by simp [hr0]
                  have e2 : (r == 0) = true := by simp [hr0]
                  have HLT : Hid (lat E r xt) := .inl hr0
                  clear hr0
                  go_wp2
                  go_quiet (fail)
                  go_wp2
                  go_meet
                  exact ⟨true, rfl, ⟨fun _ => HLT.out, fun _ => rfl⟩, below_drewN (Below.refl _ _) _⟩
                · have e1 : ((r : Int) == 0) = false := by simp; omega
                  have e2 : (r == 0) = false := by simp; omega
                  obtain ⟨ge, heo, hge, y0⟩ := HD4.out (by omega)
                  have e3 : ((r : Int) - 1) = ((r - 1 : Nat) : Int) := by omega
                  have e4 : ((r - 1 : Nat) : Int) < (r : Int) := by omega
                  have e5 : (0 : Int) ≤ ((r - 1 : Nat) : Int) := by omega
                  obtain ⟨yt, hyt⟩ : ∃ x, x = (E.getD (r - 1) default).tx := ⟨_, rfl⟩
                  rw [← hyt] at y0
                  obtain ⟨lb, hlb⟩ : ∃ b, (!Op.bytesLess xt.toList yt.toList && !xt.toList == yt.toList) = b := ⟨_, rfl⟩
                  have hlb2 : lb = Op.bytesLess yt.toList xt.toList := by
                    rw [← hlb]
                    cases hb : Op.bytesLess yt.toList xt.toList with
                    | true =>
                      have h1 := less_no _ _ (.inl hb)
                      have h2 : xt.toList ≠ yt.toList := fun e => by rw [e, less_no _ _ (.inr rfl)] at hb; cases hb
                      rw [h1]
                      simp [h2]
                    | false =>
                      by_cases he : yt.toList = xt.toList
                      · rw [he]; simp
                      · rw [less_yes _ _ ⟨hb, he⟩]; rfl
                  have HLB : Hid (lb = true ↔ lat E r xt) := by
                    constructor
                    · intro h
                      rw [hlb2] at h
                      exact .inr (by rw [← hyt]; exact h)
                    · rintro (h | h)
                      · exact absurd h hr0
                      · rw [← hyt] at h
                        have h' : Op.bytesLess yt.toList xt.toList = true := h
                        rw [hlb2]; exact h'
                  clear hyt hr0 hlb2
                  subst heo
                  go_wp2
                  go_quiet (fail)
                  go_wp2
                  go_meet
                  exact ⟨lb, by first | rfl | (rw [hlb]), HLB, below_drewN (Below.refl _ _) _⟩
              case rest =>
                rename World => wv
                obtain ⟨lb, rfl, HLB, HBv⟩ := hcut
                have hzv := HBv.out.size
                have f1 := cellTo HBv.out d1 (by show g < _; omega)
                have fx := cellTo HBv.out x0 (by show eb < _; omega)
                clear d1 d2 x0
                go_upto_region 12 with (fail)
                go_cut [98] from 42 to 99 (fun v98 wx => ∃ cb : Bool, v98 = .bool cb ∧ Hid (cb = true → LeastR K.es E r (k + 1) (k : Nat)) ∧ Hid (cb = false → LeastR K.es E r (k + 1) q) ∧ Hid (Below wv.heap.size wv wx))
                case first =>
                  cases lb
                  · have HNX : Hid (LeastR K.es E r (k + 1) q) := by
                      have hnl : ¬ lat E r xt := fun h => by have := HLB.out.2 h; cases this
                      rw [HXT.out] at hnl
                      rcases HLE.out with ⟨h1, h2⟩ | ⟨p, h1, h2, h3, h4⟩
                      · refine .inl ⟨h1, fun j hj => ?_⟩
                        by_cases hjk : j = k
                        · rw [hjk]; exact hnl
                        · exact h2 j (by omega)
                      · refine .inr ⟨p, h1, by omega, h3, fun j hj hl => ?_⟩
                        by_cases hjk : j = k
                        · rw [hjk] at hl; exact absurd hl hnl
                        · exact h4 j (by omega) hl
                    clear HLB
                    go_wp2
                    go_quiet (fail)
                    go_wp2
                    go_meet
                    exact ⟨false, rfl, fun h => (by cases h), fun _ => HNX.out, below_drewN (Below.refl _ _) _⟩
                  · have HLX : Hid (lat E r (K.es.getD k default).tx) := by show lat _ _ _; rw [← HXT.out]; exact HLB.out.1 rfl
                    clear HLB
                    rcases HLE.out with ⟨h1, h2⟩ | ⟨p, h1, h2, h3, h4⟩
                    · have HNX : Hid (LeastR K.es E r (k + 1) (k : Nat)) := by
                        refine .inr ⟨k, rfl, by omega, HLX.out, fun j hj hl => ?_⟩
                        by_cases hjk : j = k
                        · rw [hjk]; exact lessB_irr _
                        · exact absurd hl (h2 j (by omega))
                      have g1 : decide (q < 0) = true := by rw [h1]; decide
                      clear h1 h2
                      go_wp2
                      go_quiet (fail)
                      go_wp2
                      go_meet
                      exact ⟨true, rfl, fun _ => HNX.out, fun h => (by cases h), below_drewN (Below.refl _ _) _⟩
                    · have hpm : p < m := by omega
                      have p0 := HD3.out p hpm
                      rw [Nat.zero_add] at p0
                      have p0' := cellTo HBv.out p0 (by show eb < _; omega)
                      obtain ⟨pt, hpt⟩ : ∃ x, x = (K.es.getD p default).tx := ⟨_, rfl⟩
                      rw [← hpt] at p0'
                      obtain ⟨cb, hcb⟩ : ∃ b, Op.bytesLess xt.toList pt.toList = b := ⟨_, rfl⟩
                      have HC1 : Hid (cb = true → LeastR K.es E r (k + 1) (k : Nat)) := fun hc => by
                        rw [hc] at hcb
                        refine .inr ⟨k, rfl, by omega, HLX.out, fun j hj hl => ?_⟩
                        by_cases hjk : j = k
                        · rw [hjk]; exact lessB_irr _
                        · have h5 := h4 j (by omega) hl
                          cases hjx : lessB (K.es.getD j default).tx (K.es.getD k default).tx with
                          | false => rfl
                          | true =>
                            have h6 : lessB (K.es.getD k default).tx (K.es.getD p default).tx = true := by rw [← HXT.out, ← hpt]; exact hcb
                            rw [lessB_trans hjx h6] at h5
                            cases h5
                      have HC2 : Hid (cb = false → LeastR K.es E r (k + 1) q) := fun hc => by
                        rw [hc] at hcb
                        refine .inr ⟨p, h1, by omega, h3, fun j hj hl => ?_⟩
                        by_cases hjk : j = k
                        · rw [hjk, ← HXT.out, ← hpt]; exact hcb
                        · exact h4 j (by omega) hl
                      have g1 : decide (((p : Nat) : Int) < 0) = false := by simp
                      have g2 : ((p : Nat) : Int) < (m : Int) := by omega
                      clear h2 h3 h4 hpt p0
                      subst h1
                      go_wp2
                      go_quiet (fail)
                      go_wp2
                      go_meet
                      exact ⟨cb, by first | rfl | (rw [hcb]), HC1.out, HC2.out, below_drewN (Below.refl _ _) _⟩
                case rest =>
                  rename World => wx
                  obtain ⟨cb, rfl, HC1, HC2, HBx⟩ := hcut
                  have HBXt : Hid (Below wt.heap.size wt wx) := hbu.trans ((HBv.out.trans (HBx.out.mono hzv)).mono hzu)
                  clear f1 fx
                  cases cb
                  · have HNX : Hid (LeastR K.es E r (k + 1) q) := HC2.out rfl
                    clear HC1 HC2
                    go_wp2
                    go_roundw
                    case rel => exact ⟨k + 1, q, by omega, by go_num, rfl, ⟨hq1', hq2'⟩, HNX, HBXt.out⟩
                    case measure => simp [intOf]; omega
                  · have HNX : Hid (LeastR K.es E r (k + 1) (k : Nat)) := HC1.out rfl
                    clear HC1 HC2
                    go_wp2
                    go_roundw
                    case rel => exact ⟨k + 1, (k : Nat), by omega, by go_num, rfl, by omega, HNX, HBXt.out⟩
                    case measure => simp [intOf]; omega
            · have hke : m = k := by omega
              subst hke
              have hend := least_end HPM.out HST.out hrE (by rw [← HN.out.2]; exact HLE.out)
              obtain ⟨p, hqp, hpl, hpe⟩ := hend
              subst hqp
              have hpm : p < m := by rw [HN.out.2]; exact hpl
              have hpmI : ((p : Nat) : Int) < (m : Int) := by omega
              have hsu : Below ws.heap.size ws wu := hy.trans (hbu.mono (by rw [HDN.out.1]; exact Nat.le_refl _))
              have hsz : ws.heap.size ≤ wu.heap.size := hsu.size
              have HEIu : Hid (EntriesIn wu.heap.size wu (some ⟨eb, 0, none⟩) K.es.length eb 0 (txE K.es) vs (kE K.es) cs (fun i => aB (vs i)) (fun _ => 0) (zE K.es)) := (HEI.out.below hsu).mono hsz
              have HSU : Hid (Below ws.heap.size ws wu) := hsu
              have x0 := d3 p hpm
              rw [Nat.zero_add] at x0
              have x1 := HEIu.out.list p hpl
              rw [Nat.zero_add] at x1
              have hmem : K.es.getD p default ∈ K.es := by rw [getD_at hpl]; exact List.getElem_mem hpl
              have hkz := HKZ.out _ hmem
              have HIN : Hid (IntsIn wu.heap.size wu (vs p) (kE K.es p) (aB (vs p)) 0 (zE K.es p)) := HEIu.out.ints p hpl
              have hva := HIN.out.addr (by show 0 < (K.es.getD p default).zs.length; omega)
              obtain ⟨vb, hvb⟩ : ∃ x, x = aB (vs p) := ⟨_, rfl⟩
              rw [← hvb] at hva HIN
              rw [hva] at x1
              obtain ⟨yt, hyt⟩ : ∃ x, x = (K.es.getD p default).tx := ⟨_, rfl⟩
              rw [← hyt] at x0
              obtain ⟨kk, hkk⟩ : ∃ x, x = kE K.es p := ⟨_, rfl⟩
              rw [← hkk] at x1 HIN
              have hkk4 : 1 ≤ kk ∧ kk ≤ 4 := by rw [hkk]; exact hkz
              have HEPR : Hid (txE EP r = yt ∧ kE EP r = kk ∧ ∀ q, q < kk → zE EP r q = plc K.ls (zE K.es p q)) := by
                have h1 : EP.getD r default = plE K.ls (K.es.getD p default) := by rw [HEP.out, plE_at K.ls E hrE, hpe]
                refine ⟨by rw [txE, h1, hyt]; rfl, by rw [kE, h1, hkk]; show (List.map _ _).length = _; rw [List.length_map]; rfl, fun q hq => ?_⟩
                rw [zE, h1, zE]
                have hq' : q < (K.es.getD p default).zs.length := by rw [hkk] at hq; exact hq
                show ((K.es.getD p default).zs.map (plc K.ls)).getD q 0 = _
                rw [List.getD_eq_getElem?_getD, List.getElem?_map, List.getD_eq_getElem?_getD (l := (K.es.getD p default).zs), List.getElem?_eq_getElem hq']
                rfl
              have hvbl := HIN.out.lt (by omega)
              have HKu : Hid (WkA B g K la (some ⟨eb, 0, none⟩) sa lc ec sc vs cs wu) := HKs.out.below hsu
              have hgu := HKu.out.row.lt
              have hzu1 : w.heap.size + 1 < wu.heap.size := by omega
              have HROW : Hid (wu.rowIs (w.heap.size + 1) 28 2 (fun j => #[Value.slice no i nc, .slice eo r ec2].getD j undef)) := HTs.out.of_block (hsu.block _ hzs)
              clear HLE d3 d4 hva hvb hyt hkk hkz hmem hpl hsu HEIu HEI
              have HX0 : Hid ((wu.alloc (.cells #[.string yt, .slice none 0 0] 63)).rowIs wu.heap.size 63 2 (fun j => #[Value.string yt, .slice none 0 0].getD j undef)) := row_new _ _ _ 2 rfl
              go_wp2
              clear x0 d2
              go_loopw [9] (fun jv wy => ∃ (j : Nat) (xa : Option Addr) (xc : Nat), j ≤ kk ∧ jv = .int .i64 (j : Nat) ∧ Below wu.heap.size wu wy ∧ Hid (wy.rowIs wu.heap.size 63 2 (fun j' => #[Value.string yt, .slice xa j xc].getD j' undef)) ∧ Hid (wy.ownsRow (wu.heap.size + 1) 3 1 (.slice xa j xc) j ((List.range j).map fun q => Value.int .i64 (zE EP r q)))) (fun jv _ => kk - (intOf jv).toNat)
              case atStart => exact ⟨0, none, 0, Nat.zero_le _, rfl, below_one _, HX0, World.ownsRow_nil _ _ _ _⟩
              case round =>
                rename World => wy
                obtain ⟨j, xa, xc, hj, rfl, hby, HX, HOX⟩ := hrel
                have hzy := hby.size
                have hxl := HX.out.lt
                have y1 := cellTo hby d1 hgu
                have y2 := cellTo hby x1 (by show eb < _; omega)
                by_cases hjk : j < kk
                · have hjkI : (j : Int) < (kk : Int) := by omega
                  have z0 := cellTo hby (HIN.out.cell j hjk) (by show vb < _; omega)
                  rw [Nat.zero_add] at z0
                  have HKy : Hid (WkA B g K la (some ⟨eb, 0, none⟩) sa lc ec sc vs cs wy) := HKu.out.below hby
                  obtain ⟨gv2, hli2⟩ := list_in HKy.out.list
                  obtain ⟨⟨l0, _, _, _, _⟩, _⟩ := row5K HKy.out.row
                  have HZP : Hid (zE EP r j = plc K.ls (zE K.es p j)) := HEPR.out.2.2 j hjk
                  generalize zE K.es p j = zz at z0 HZP
                  obtain ⟨pl, hpl'⟩ : ∃ x, x = plc K.ls zz := ⟨_, rfl⟩
                  have HCP : Hid (Calls Tryz.prog 94 #[.pointer (some ⟨g, 0, none⟩), .int .i64 zz] wy fun e w' => e = .returned (.int .i64 pl) ∧ w' = wy) := by
                    show Calls _ _ _ _ _
                    rw [hpl']
                    exact place_any g la lc gv2 K.ls zz wy (by have := HN.out.1; omega) l0 hli2
                  have HPL : Hid (zE EP r j = pl) := by show _ = _; rw [HZP.out, hpl']
                  have s1 : wy.cell? ⟨wu.heap.size, 1, none⟩ = some (.slice xa j xc) := HX.out.cell (i := 1) (by omega)
                  have sf := HX.out.frozen 1
                  clear hpl' hli2 l0
                  go_wp2_with (first
                    | (go_at_call 94; refine (HCP.out).mono ?_; rintro e wq ⟨rfl, hwq⟩; obtain rfl := hwq.symm; clear hwq)
                    | (at_builtin; refine wpList_append_lies _ (by rfl) (.tmp 136) (.tmp 138) 61 (by rfl) (wu.heap.size + 1) 3 k0 (.int .i64 0) 1 8 Tryz.underlying61 hk0 hr0 hr1 hr2 rfl (by omega) _ j _ (by rfl) (HOX.out.alloc _) ⟨wy.heap.size, 0, none⟩ 1 1 [.int .i64 pl] (by rfl) (by rfl) ?d1 ?d2 (by omega) ?d3 ?d5 ?d4 (wy.heap.size + 1) (by simp) ?_))
                  case d1 => exact cell_one_new _ _ _
                  case d2 => intro u hu; simp at hu; subst hu; rfl
                  case d3 => unfold maxLen; omega
                  case d5 => omega
                  case d4 => simp; omega
                  · intro g3 cap3 w3 hown3 hgrow3 _ _
                    have HB3 : Hid (Below wu.heap.size wu w3) := ownC_grown_below (hby.alloc (by omega) _) (by simp; omega) (HOX.out.alloc _) (by omega) hgrow3
                    have hneX : some wu.heap.size ≠ (Value.slice xa j xc).ownBlock := fun e => by have := (ownC_lt HOX.out e.symm).2; omega
                    have HX3 : Hid (w3.rowIs wu.heap.size 63 2 (fun j' => #[Value.string yt, .slice xa j xc].getD j' undef)) := (HX.out.alloc _).of_block (hgrow3.block _ (by simp; omega) hneX)
                    have s1' : w3.cell? ⟨wu.heap.size, 1, none⟩ = some (.slice xa j xc) := HX3.out.cell (i := 1) (by omega)
                    have sf' := HX3.out.frozen 1
                    have hOS : OnlyRow wu.heap.size w3 (w3.setCell ⟨wu.heap.size, 1, none⟩ (.slice (some ⟨g3, 0, none⟩) (j + 1) cap3)) := OnlyRow.setCell _ _ _ _
                    have HNX : Hid (Below wu.heap.size wu (w3.setCell ⟨wu.heap.size, 1, none⟩ (.slice (some ⟨g3, 0, none⟩) (j + 1) cap3)) ∧ (w3.setCell ⟨wu.heap.size, 1, none⟩ (.slice (some ⟨g3, 0, none⟩) (j + 1) cap3)).rowIs wu.heap.size 63 2 (fun j' => #[Value.string yt, .slice (some ⟨g3, 0, none⟩) (j + 1) cap3].getD j' undef) ∧ (w3.setCell ⟨wu.heap.size, 1, none⟩ (.slice (some ⟨g3, 0, none⟩) (j + 1) cap3)).ownsRow (wu.heap.size + 1) 3 1 (.slice (some ⟨g3, 0, none⟩) (j + 1) cap3) (j + 1) ((List.range (j + 1)).map fun q => Value.int .i64 (zE EP r q))) := by
                      refine ⟨hOS.below HB3.out (Nat.le_refl _), (HX3.out.set 1 _).congr fun j' hj' => ?_, own_only hOS ?_ (fun e => by have := (ownC_lt hown3 e).2; omega)⟩
                      · have : j' = 0 ∨ j' = 1 := by omega
                        rcases this with rfl | rfl <;> rfl
                      · rw [List.range_succ, List.map_append, List.map_cons, List.map_nil, HPL.out]
                        exact hown3
                    clear hown3 hgrow3 z0 HCP hOS y1 y2 s1 sf
                    go_wp2
                    go_roundw
                    case rel => exact ⟨j + 1, some ⟨g3, 0, none⟩, cap3, by omega, by go_num, HNX.out.1, HNX.out.2.1, HNX.out.2.2⟩
                    case measure => simp [intOf]; omega
                · have hjke : j = kk := by omega
                  subst hjke
                  have hsy : Below ws.heap.size ws wy := HSU.out.trans (hby.mono hsz)
                  have HRy : Hid (wy.rowIs (w.heap.size + 1) 28 2 (fun j => #[Value.slice no i nc, .slice eo r ec2].getD j undef)) := HTs.out.of_block (hsy.block _ hzs)
                  have HEy : Hid (wy.ownsRow (w.heap.size + 2) 63 2 (.slice eo r ec2) r (entC (txE EP) (kE EP) vs2 cs2 r)) := ownC_below HEs.out hsy
                  have HNy : Hid (wy.ownsRow (w.heap.size + 2) 65 3 (.slice no i nc) i (ndsC K.ls)) := ownC_below HNs.out hsy
                  have HIu : Hid (EntsO (w.heap.size + 2) (kE EP) (zE EP) r vs2 cs2 wu) := HIs.out.below HSU.out
                  have hzz1 := HWS.out
                  have h2u : w.heap.size + 2 ≤ wu.heap.size := by have := hbs.size; omega
                  have ho1 : wy.ownsRow wu.heap.size 3 1 (.slice xa (kE EP r) xc) (kE EP r) ((List.range (kE EP r)).map fun q => Value.int .i64 (zE EP r q)) := by
                    rw [HEPR.out.2.1]
                    exact ownC_base HOX.out (by omega)
                  have HADD : Hid (EntsO (w.heap.size + 2) (kE EP) (zE EP) (r + 1) (upd vs2 r xa) (upd cs2 r xc) wy) := HIu.out.add hby h2u ho1
                  have u1 : wy.cell? ⟨w.heap.size + 1, 1, none⟩ = some (.slice eo r ec2) := HRy.out.cell (i := 1) (by omega)
                  have uf := HRy.out.frozen 1
                  have v0 : wy.cell? ⟨wu.heap.size, 0, none⟩ = some (.string yt) := HX.out.cell (i := 0) (by omega)
                  have v1 : wy.cell? ⟨wu.heap.size, 1, none⟩ = some (.slice xa j xc) := HX.out.cell (i := 1) (by omega)
                  have hBy : Below (w.heap.size + 1) W wy := hbs.trans (hsy.mono (by omega))
                  clear ho1
                  go_wp2_with (first
                    | (at_builtin; refine wpList_append_lies _ (by rfl) (.tmp 142) (.tmp 144) 26 (by rfl) (w.heap.size + 2) 63 j0 (.agg #[.string ByteArray.empty, .slice none 0 0]) 2 40 Tryz.underlying26 hj0 hp0 hp1 hp2 rfl (by omega) _ r _ (by rfl) (HEy.out.alloc _) ⟨wy.heap.size, 0, none⟩ 1 1 [.string yt, .slice xa j xc] (by rfl) (by rfl) ?e1 ?e2 (by omega) ?e3 ?e5 ?e4 (wy.heap.size + 1) (by simp) ?_))
                  case e1 => exact newC2 _ rfl _ _ _
                  case e2 => intro u hu; simp at hu; rcases hu with rfl | rfl <;> rfl
                  case e3 => unfold maxLen; omega
                  case e5 => omega
                  case e4 => simp; omega
                  · intro g4 cap4 w4 hown4 hgrow4 _ _
                    have hba : Below wy.heap.size wy (wy.alloc (.cells #[.string yt, .slice xa j xc] 63)) := below_one _
                    have HB4 : Hid (Below (w.heap.size + 1) W w4) := ownC_grown_below (hBy.alloc (by omega) _) (by simp; omega) (HEy.out.alloc _) (by omega) hgrow4
                    have hneT : some (w.heap.size + 1) ≠ (Value.slice eo r ec2).ownBlock := fun e => by have := (ownC_lt HEy.out e.symm).2; omega
                    have HR4 : Hid (w4.rowIs (w.heap.size + 1) 28 2 (fun j => #[Value.slice no i nc, .slice eo r ec2].getD j undef)) := (HRy.out.alloc _).of_block (hgrow4.block _ (by simp; omega) hneT)
                    have r1' : w4.cell? ⟨w.heap.size + 1, 1, none⟩ = some (.slice eo r ec2) := HR4.out.cell (i := 1) (by omega)
                    have rf' := HR4.out.frozen 1
                    have hN4 : w4.ownsRow (w.heap.size + 2) 65 3 (.slice no i nc) i (ndsC K.ls) := ownC_grown (HNy.out.alloc _) (HEy.out.alloc _) (by decide) hgrow4
                    have hI4 : EntsO (w.heap.size + 2) (kE EP) (zE EP) (r + 1) (upd vs2 r xa) (upd cs2 r xc) w4 := (HADD.out.below hba).grown (HEy.out.alloc _) (by decide) hgrow4
                    have hE4 : w4.ownsRow (w.heap.size + 2) 63 2 (.slice (some ⟨g4, 0, none⟩) (r + 1) cap4) (r + 1) (entC (txE EP) (kE EP) (upd vs2 r xa) (upd cs2 r xc) (r + 1)) := by
                      rw [entC_snoc, upd_at, upd_at, entC_congr (txE EP) (kE EP) (upd vs2 r xa) vs2 (upd cs2 r xc) cs2 r fun j hj => ⟨upd_ne _ _ _ (by omega), upd_ne _ _ _ (by omega)⟩, HEPR.out.1, HEPR.out.2.1]
                      exact hown4
                    have hOS : OnlyRow (w.heap.size + 1) w4 (w4.setCell ⟨w.heap.size + 1, 1, none⟩ (.slice (some ⟨g4, 0, none⟩) (r + 1) cap4)) := OnlyRow.setCell _ _ _ _
                    have hR5 : (w4.setCell ⟨w.heap.size + 1, 1, none⟩ (.slice (some ⟨g4, 0, none⟩) (r + 1) cap4)).rowIs (w.heap.size + 1) 28 2 (fun j => #[Value.slice no i nc, .slice (some ⟨g4, 0, none⟩) (r + 1) cap4].getD j undef) := (HR4.out.set 1 _).congr fun j' hj' => by
                      have : j' = 0 ∨ j' = 1 := by omega
                      rcases this with rfl | rfl <;> rfl
                    have HNX : Hid (Below (w.heap.size + 1) W (w4.setCell ⟨w.heap.size + 1, 1, none⟩ (.slice (some ⟨g4, 0, none⟩) (r + 1) cap4)) ∧ (w4.setCell ⟨w.heap.size + 1, 1, none⟩ (.slice (some ⟨g4, 0, none⟩) (r + 1) cap4)).rowIs (w.heap.size + 1) 28 2 (fun j => #[Value.slice no i nc, .slice (some ⟨g4, 0, none⟩) (r + 1) cap4].getD j undef) ∧ (w4.setCell ⟨w.heap.size + 1, 1, none⟩ (.slice (some ⟨g4, 0, none⟩) (r + 1) cap4)).ownsRow (w.heap.size + 2) 65 3 (.slice no i nc) i (ndsC K.ls) ∧ (w4.setCell ⟨w.heap.size + 1, 1, none⟩ (.slice (some ⟨g4, 0, none⟩) (r + 1) cap4)).ownsRow (w.heap.size + 2) 63 2 (.slice (some ⟨g4, 0, none⟩) (r + 1) cap4) (r + 1) (entC (txE EP) (kE EP) (upd vs2 r xa) (upd cs2 r xc) (r + 1)) ∧ EntsO (w.heap.size + 2) (kE EP) (zE EP) (r + 1) (upd vs2 r xa) (upd cs2 r xc) (w4.setCell ⟨w.heap.size + 1, 1, none⟩ (.slice (some ⟨g4, 0, none⟩) (r + 1) cap4))) := ⟨hOS.below HB4.out (Nat.le_refl _), hR5, own_only hOS hN4 (fun e => by have := (ownC_lt hN4 e).2; omega), own_only hOS hE4 (fun e => by have := (ownC_lt hE4 e).2; omega), fun q hq => own_only hOS (hI4.own q hq) (fun e => by have := (ownC_lt (hI4.own q hq) e).2; omega), hI4.apart⟩
                    have HLN : Hid (sLen ((w4.setCell ⟨w.heap.size + 1, 1, none⟩ (.slice (some ⟨g4, 0, none⟩) (r + 1) cap4)).cell? ⟨w.heap.size + 1, 1, none⟩) = r + 1) := by
                      have h5 := hR5.cell (i := 1) (by omega)
                      show _ = _
                      rw [h5]
                      rfl
                    clear hown4 hgrow4 hba hneT hN4 hI4 hE4 hOS hR5 y1 y2 u1 uf v0 v1
                    go_wp2
                    go_roundw
                    case rel => exact ⟨r + 1, some ⟨g4, 0, none⟩, cap4, _, _, by omega, HNX.out.1, HNX.out.2.1, HNX.out.2.2.1, HNX.out.2.2.2.1, HNX.out.2.2.2.2⟩
                    case measure =>
                      rw [HLN.out, HMS.out]
                      omega
        · have hre : r = m := by omega
          have hd1 : decide ((r : Int) < (m : Int)) = false := by simp; omega
          have hd2 : decide (r < m) = false := by simp; omega
          have HRs : Hid (ws.rowIs w.heap.size 28 2 (fun j => #[Value.slice none 0 0, .slice none 0 0].getD j undef)) := HR0.out.of_block (hbs.block _ (by omega))
          have HRN : Hid (r = m) := hre
          clear hre
          go_wp2
          go_quiet (fail)
          have hy : Below ws.heap.size ws (ws.drewN nq) := below_drewN (Below.refl _ _) nq
          generalize ws.drewN nq = wt at hy ⊢
          have HTt : Hid (wt.rowIs (w.heap.size + 1) 28 2 (fun j => #[Value.slice no i nc, .slice eo r ec2].getD j undef)) := HTs.out.of_block (hy.block _ hzs)
          have HRt : Hid (wt.rowIs w.heap.size 28 2 (fun j => #[Value.slice none 0 0, .slice none 0 0].getD j undef)) := HRs.out.of_block (hy.block _ (by omega))
          have HAt : Hid (wt.ownsRow (w.heap.size + 2) 65 3 (.slice no i nc) i (ndsC K.ls) ∧ wt.ownsRow (w.heap.size + 2) 63 2 (.slice eo r ec2) r (entC (txE EP) (kE EP) vs2 cs2 r) ∧ EntsO (w.heap.size + 2) (kE EP) (zE EP) r vs2 cs2 wt) := ⟨ownC_below HNs.out hy, ownC_below HEs.out hy, HIs.out.below hy⟩
          have HBt : Hid (Below w.heap.size w wt) := HBWs.out.trans (hy.mono (by omega))
          have t0' : wt.cell? ⟨w.heap.size + 1, 0, none⟩ = some (.slice no i nc) := HTt.out.cell (i := 0) (by omega)
          have t1' : wt.cell? ⟨w.heap.size + 1, 1, none⟩ = some (.slice eo r ec2) := HTt.out.cell (i := 1) (by omega)
          have r0' := HRt.out.cell (i := 0) (by omega)
          have r1' := HRt.out.cell (i := 1) (by omega)
          have f0' := HRt.out.frozen 0
          have f1' := HRt.out.frozen 1
          clear c1 t1 hy
          go_wp2
          refine bodyPost_ret (v := .agg #[.slice no i nc, .slice eo r ec2]) (results_cell_row rfl _ _ w.heap.size 28 #[.slice no i nc, .slice eo r ec2] (0, 0) _ (by rfl) (row2C ((HRt.out.set 0 (.slice no i nc)).set 1 (.slice eo r ec2))) Tryz.underlying28 rfl sizeTabC) rfl ?_
          have hO : OnlyRow w.heap.size wt ((wt.setCell ⟨w.heap.size, 0, none⟩ (.slice no i nc)).setCell ⟨w.heap.size, 1, none⟩ (.slice eo r ec2)) := (OnlyRow.setCell _ _ _ _).trans (OnlyRow.setCell _ _ _ _)
          obtain ⟨a1, a2, a3⟩ := HAt.out
          have hre := HRN.out
          subst hre
          exact ⟨no, nc, eo, ec2, vs2, cs2, rfl, ⟨ownC_base (own_only hO a1 (fun e => by have := (ownC_lt a1 e).2; omega)) (by omega), ownC_base (own_only hO a2 (fun e => by have := (ownC_lt a2 e).2; omega)) (by omega), fun q hq => ownC_base (own_only hO (a3.own q hq) (fun e => by have := (ownC_lt (a3.own q hq) e).2; omega)) (by omega), a3.apart⟩, hO.below HBt.out (Nat.le_refl _)⟩

end Go.Proofs.YtpclldccjpncdabGreat

namespace Go.Proofs.YtpclldccjpncdabGreat
open Go.RowKit

theorem row5W {w : World} {g : Nat} {la : Option Addr} {n lc : Nat} {ea : Option Addr} {m ec : Nat} {sa : Option Addr} {k sc : Nat} {an nm : Int} (h : w.rowIs g 127 5 (wkF la n lc ea m ec sa k sc an nm)) : (w.cell? ⟨g, 0, none⟩ = some (.slice la n lc) ∧ w.cell? ⟨g, 1, none⟩ = some (.slice ea m ec) ∧ w.cell? ⟨g, 2, none⟩ = some (.slice sa k sc) ∧ w.cell? ⟨g, 3, none⟩ = some (.int .i64 an)) := (row5K h).1.1 |> fun a => ⟨a, (row5K h).1.2.1, (row5K h).1.2.2.1, (row5K h).1.2.2.2.1⟩
theorem look_no {P : Rl → Prop} (r : Rl) (h : P r) : P ⟨r.reset, r.before, r.level, r.text, r.more⟩ := h

set_option maxRecDepth 100000 in
set_option maxHeartbeats 8000000 in
theorem rule_any (B g : Nat) (K : Wk) (la ea sa : Option Addr) (lc ec sc : Nat) (vs : Nat → Option Addr) (cs : Nat → Nat) (w : World) (r : Rl) (hK : GoodK K) (hr : r.ok) (hA : r.reset.size ≠ 0 ∨ Anch K) (h : WkA B g K la ea sa lc ec sc vs cs w) :
    Calls Tryz.prog 62 #[.pointer (some ⟨g, 0, none⟩), r.v] w fun e w' => ∃ er : Int, e = .returned (.int .i64 er) ∧ Hid (RefR B g K r er w') ∧ Hid (Below B w w') := by
  have HK : Hid (GoodK K) := hK
  have HRO : Hid (r.ok) := hr
  have HAN : Hid (r.reset.size ≠ 0 ∨ Anch K) := hA
  obtain ⟨hr1, hr2, hr3, hr4, hr5, hr6⟩ := hr
  show Calls Tryz.prog 62 #[.pointer (some ⟨g, 0, none⟩), .agg #[.string r.reset, .int .i64 r.before, .int .i64 r.level, .string r.text, .string r.more]] w _
  have HRV : Hid (∀ rs be lv tx mo, r.reset = rs → r.before = be → r.level = lv → r.text = tx → r.more = mo → r = ⟨rs, be, lv, tx, mo⟩) := fun rs be lv tx mo h1 h2 h3 h4 h5 => by rw [← h1, ← h2, ← h3, ← h4, ← h5]
  obtain ⟨rs, hrs⟩ : ∃ x, r.reset = x := ⟨_, rfl⟩
  obtain ⟨be, hbe⟩ : ∃ x, r.before = x := ⟨_, rfl⟩
  obtain ⟨lv, hlv⟩ : ∃ x, r.level = x := ⟨_, rfl⟩
  obtain ⟨tx, htx⟩ : ∃ x, r.text = x := ⟨_, rfl⟩
  obtain ⟨mo, hmo⟩ : ∃ x, r.more = x := ⟨_, rfl⟩
  have HF : Hid (r.reset = rs ∧ r.before = be ∧ r.level = lv ∧ r.text = tx ∧ r.more = mo) := ⟨hrs, hbe, hlv, htx, hmo⟩
  have HVF : Hid (r = ⟨rs, be, lv, tx, mo⟩) := HRV.out _ _ _ _ _ hrs hbe hlv htx hmo
  rw [hrs, hbe, hlv, htx, hmo]
  rw [htx] at hr1
  rw [hmo] at hr2
  rw [hrs] at hr3
  rw [hlv] at hr4
  rw [hbe, hrs] at hr6
  rw [hbe] at hr5
  clear HRV hrs hbe hlv htx hmo
  obtain ⟨W, hW⟩ : ∃ W, W = w.alloc (.cells #[.string rs, .int .i64 be, .int .i64 lv, .string tx, .string mo] 57) := ⟨_, rfl⟩
  have HD : Hid (WkA B g K la ea sa lc ec sc vs cs W) := by show WkA _ _ _ _ _ _ _ _ _ _ _ _; rw [hW]; exact h.below (below_one _)
  have hg0 := h.row.lt
  have hBg := h.base
  have HB0 : Hid (Below B w W) := by show Below _ _ _; rw [hW]; exact (below_one _).mono (by omega)
  have HWS : Hid (W.heap.size = w.heap.size + 1) := by show _ = _; rw [hW]; simp
  have HRW : Hid (W.rowIs w.heap.size 57 5 (rvF ⟨rs, be, lv, tx, mo⟩)) := by show World.rowIs _ _ _ _ _; rw [hW]; exact row_new _ _ _ 5 rfl
  have HC1 : Hid (∀ wz, Below W.heap.size W wz → Calls Tryz.prog 75 #[.slice ea K.es.length ec, .string mo] wz fun e w' => ∃ (v : Value) (b : Bool), e = .returned (.tuple #[v, .bool b]) ∧ Below wz.heap.size wz w' ∧ Hid (NodR K.es mo wz.heap.size w' v b)) := fun wz hb => nodV_of hK (HD.out.below hb) mo (by omega)
  obtain ⟨_, c1, _, _⟩ := row5W HD.out.row
  have r4 : W.cell? ⟨w.heap.size, 4, none⟩ = some (.string mo) := HRW.out.cell (i := 4) (by omega)
  clear h hK hA
  have hws := HWS.out
  have hgW : g < W.heap.size := by omega
  have hwg : w.heap.size ≠ g := by omega
  obtain ⟨m0, hm0⟩ : ∃ m, m = K.es.length := ⟨_, rfl⟩
  have HM0 : Hid (m0 = K.es.length) := hm0
  rw [← hm0] at HC1 c1
  clear hm0
  go_enter Tryz.func62, Tryz.ntmps62
  go_upto_region 1 with (fail)
  rw [← hW]
  clear hW
  go_cut [5, 6] from 12 (fun v5 v6 wc => ∃ (v : Value) (b : Bool), v5 = v ∧ v6 = .bool b ∧ Hid (Below W.heap.size W wc) ∧ Hid (NodR K.es mo W.heap.size wc v b))
  case first =>
    go_region_with (go_at_call 75; refine (HC1.out _ (Below.refl _ _).drew).mono ?_; rintro e w1 ⟨v, b, rfl, hb1, hn1⟩)
    all_goals
      go_wp2
      go_meet
      exact ⟨v, b, rfl, rfl, (Below.refl _ _).drew.trans hb1, hn1⟩
  case rest =>
    rename World => wc
    obtain ⟨v5, b, hv5, rfl, HBc, HNc⟩ := hcut
    have hv5' := hv5.symm
    subst hv5'
    clear hv5
    have hzc := HBc.out.size
    have HBB : Hid (Below B w wc) := HB0.out.trans (HBc.out.mono (by omega))
    have HDc : Hid (WkA B g K la ea sa lc ec sc vs cs wc) := HD.out.below HBc.out
    have HRc : Hid (wc.rowIs w.heap.size 57 5 (rvF ⟨rs, be, lv, tx, mo⟩)) := HRW.out.of_block (HBc.out.block _ (by omega))
    have r0 : wc.cell? ⟨w.heap.size, 0, none⟩ = some (.string rs) := HRc.out.cell (i := 0) (by omega)
    clear c1 r4 HC1
    obtain ⟨bq, he⟩ : ∃ b, rs.toList.isEmpty = b := ⟨_, rfl⟩
    have HBQ : Hid (bq = decide (rs.size = 0)) := by show _ = _; rw [← he]; exact empty_iff
    go_upto_if 24 with (fail)
    go_cut [] from 12 (fun wd => ∃ (stem : List Int) (anchor : Int) (sa' : Option Addr) (sc' : Nat), Hid ((if rs.size ≠ 0 then (numsE K.es rs).map (fun l => (l.dropLast, l.getLastD 0)) else some (K.stem, K.anchor)) = some (stem, anchor)) ∧ Hid (WkA B g { K with stem := stem, anchor := anchor } la ea sa' lc ec sc' vs cs wd) ∧ Hid (KeepH g wc wd) ∧ Hid (Below B w wd))
    case first =>
      cases bq
      rotate_left
      · have hrs : rs.size = 0 := by have := HBQ.out; simpa using this.symm
        have HIF : Hid ((if rs.size ≠ 0 then (numsE K.es rs).map (fun l => (l.dropLast, l.getLastD 0)) else some (K.stem, K.anchor)) = some (K.stem, K.anchor)) := if_neg (by omega)
        clear hrs
        go_wp2
        go_meet
        exact ⟨K.stem, K.anchor, sa, sc, HIF, HDc, .below (Below.refl _ _), HBB⟩
      · have hrs : ¬ rs.size = 0 := by have := HBQ.out; simpa using this.symm
        have HIF : Hid ((if rs.size ≠ 0 then (numsE K.es rs).map (fun l => (l.dropLast, l.getLastD 0)) else some (K.stem, K.anchor)) = (numsE K.es rs).map (fun l => (l.dropLast, l.getLastD 0))) := if_pos hrs
        have HC2 : Hid (∀ wz, Below wc.heap.size wc wz → Calls Tryz.prog 75 #[.slice ea m0 ec, .string rs] wz fun e w' => ∃ (v : Value) (b : Bool), e = .returned (.tuple #[v, .bool b]) ∧ Below wz.heap.size wz w' ∧ Hid (NodR K.es rs wz.heap.size w' v b)) := fun wz hb => by
          rw [HM0.out]
          exact nodV_of HK.out (HDc.out.below hb) rs (by omega)
        obtain ⟨_, d1, _, _⟩ := row5W HDc.out.row
        rw [← HM0.out] at d1
        have HRSZ : Hid (rs.size ≠ 0) := hrs
        clear hrs
        go_upto_region 3 with (fail)
        go_cut [7, 8] from 12 (fun v7 v8 wd => ∃ (v : Value) (b : Bool), v7 = v ∧ v8 = .bool b ∧ Hid (Below wc.heap.size wc wd) ∧ Hid (NodR K.es rs wc.heap.size wd v b))
        case first =>
          go_region_with (go_at_call 75; refine (HC2.out _ (Below.refl _ _).drew).mono ?_; rintro e w1 ⟨v, b, rfl, hb1, hn1⟩)
          all_goals
            go_wp2
            go_meet
            exact ⟨v, b, rfl, rfl, (Below.refl _ _).drew.trans hb1, hn1⟩
        case rest =>
          rename World => wd
          obtain ⟨v7, b2, hv7, rfl, HBd, HNd⟩ := hcut
          have hv7' := hv7.symm
          subst hv7'
          clear hv7
          have hzd := HBd.out.size
          have HBBd : Hid (Below B w wd) := HBB.out.trans (HBd.out.mono (by omega))
          clear d1 HC2
          cases b2
          · have HE : Hid (∀ wx, RefR B g K r 10 wx) := fun wx => by
              rcases HNd.out with ⟨_, _, hb, _⟩ | ⟨hn, _⟩
              · cases hb
              · unfold RefR ruleE
                rw [HVF.out]
                simp only
                cases numsE K.es mo with
                | none => rfl
                | some more =>
                  simp only
                  rw [HIF.out, hn]
                  rfl
            go_wp2
            go_ret
            exact ⟨10, rfl, HE.out _, HBBd⟩
          · have HLL : ∃ l, numsE K.es rs = some l ∧ wd.ownsRow wc.heap.size 3 1 v7 l.length (l.map (Value.int .i64)) := by
              rcases HNd.out with ⟨l, hl, _, ho⟩ | ⟨_, hb⟩
              · exact ⟨l, hl, ho⟩
              · cases hb
            obtain ⟨l, hl, hown⟩ := HLL
            obtain ⟨a7, c7, hv7⟩ := ownC_shape hown
            subst hv7
            have hla := numsE_all HK.out hl
            have hne : l ≠ [] := hla.2.1 HRSZ.out
            have hlen : 0 < l.length := List.length_pos_iff.2 hne
            have hl24 : l.length ≤ 24 := by have := hla.1; omega
            have hdl : l.dropLast.length = l.length - 1 := List.length_dropLast
            obtain ⟨vo, vc, gn, hv, hva, hvc⟩ := ownC_cells hown
            injection hv with hv1 _ hv3
            obtain ⟨ha1, ha2, ha3⟩ := hva hlen
            rw [← hv1] at ha1
            subst ha1
            have hcap := ownC_cap hown
            have HD1 : Hid (WkA B g K la ea sa lc ec sc vs cs wd) := HDc.out.below HBd.out
            have hlast : wd.cell? ⟨gn, l.length - 1, none⟩ = some (.int .i64 (l.getLastD 0)) := by
              refine hvc _ _ (by omega) ?_
              rw [List.getElem?_map, List.getElem?_eq_getElem (by omega), List.getLastD_eq_getLast?, List.getLast?_eq_some_getLast hne, List.getLast_eq_getElem]
              rfl
            have hpre := own_pre hown rfl hlen
            rw [← hdl] at hpre
            have HWR : Hid (WkA B g { K with stem := l.dropLast, anchor := l.getLastD 0 } la ea (some ⟨gn, 0, none⟩) lc ec c7 vs cs ((wd.setCell ⟨g, 2, none⟩ (.slice (some ⟨gn, 0, none⟩) l.dropLast.length c7)).setCell ⟨g, 3, none⟩ (.int .i64 (l.getLastD 0)))) := HD1.out.reset (ownC_base hpre (by omega))
            have HNL : Hid (numsE K.es rs = some l) := hl
            obtain ⟨⟨k0, k1, k2, k3, k4⟩, q0, q1, q2, q3, q4⟩ := row5K HD1.out.row
            have y3 := (HD1.out.row.set 2 (.slice (some ⟨gn, 0, none⟩) (l.length - 1) c7)).cell (i := 3) (by omega)
            have z3 := (HD1.out.row.set 2 (.slice (some ⟨gn, 0, none⟩) (l.length - 1) c7)).frozen 3
            have HO : Hid (OnlyRow g wd ((wd.setCell ⟨g, 2, none⟩ (.slice (some ⟨gn, 0, none⟩) (l.length - 1) c7)).setCell ⟨g, 3, none⟩ (.int .i64 (l.getLastD 0)))) := (OnlyRow.setCell _ _ _ _).trans (OnlyRow.setCell _ _ _ _)
            have hgn : gn ≠ g := by omega
            have hl2 : (wd.setCell ⟨g, 2, none⟩ (.slice (some ⟨gn, 0, none⟩) (l.length - 1) c7)).cell? ⟨gn, l.length - 1, none⟩ = some (.int .i64 (l.getLastD 0)) := (OnlyRow.setCell _ _ _ _).cell hlast (by show gn ≠ g; exact hgn)
            simp only [wkF] at y3
            rw [hdl] at HWR
            have HSA : Hid ((numsE K.es rs).map (fun l => (l.dropLast, l.getLastD 0)) = some (l.dropLast, l.getLastD 0)) := by show _ = _; rw [hl]; rfl
            generalize l.getLastD 0 = x at hlast HWR HO hl2 HSA
            generalize hst : l.dropLast = st at HWR HSA hdl
            obtain ⟨n, hn⟩ : ∃ n, n = l.length := ⟨_, rfl⟩
            rw [← hn] at HWR hlast HO hl2 y3 z3 hcap hlen hl24 ⊢
            have hn1 : ((n : Int) - 1) = ((n - 1 : Nat) : Int) := by omega
            have hn4 : (((n : Int) - 1)).toNat = n - 1 := by omega
            clear hn hst hdl hpre hla hne hv1 hv3 hvc hva hl hown HNd
            go_wp2
            go_meet
            exact ⟨st, x, _, _, by show _ = _; rw [HIF.out, HSA.out], HWR, (KeepH.below HBd.out).trans (.only HO.out), HO.out.below HBBd.out hBg⟩
    case rest =>
      rename World => wd
      obtain ⟨stem, anchor, sa', sc', HIF, HWd, HKd, HBd⟩ := hcut
      clear r0
      have hif' := HIF.out
      rw [← HF.out.1] at hif'
      have HA1 : Hid (Anch { K with stem := stem, anchor := anchor }) := anch_if HK.out HRO.out HAN.out hif'
      obtain ⟨K1, hK1⟩ : ∃ K1 : Wk, K1 = { K with stem := stem, anchor := anchor } := ⟨_, rfl⟩
      rw [← hK1] at HWd HA1
      have HK1 : Hid (K1 = { K with stem := stem, anchor := anchor }) := hK1
      have HG1 : Hid (GoodK K1) := by show GoodK K1; rw [hK1]; exact ⟨HK.out.len, HK.out.ls, HK.out.es, HK.out.str, HK.out.name, HK.out.ent, HK.out.once⟩
      have hK1f : K1.ls = K.ls ∧ K1.anchor = anchor ∧ K1.es = K.es := by rw [hK1]; exact ⟨rfl, rfl, rfl⟩
      have HK1F : Hid (K1.ls = K.ls ∧ K1.anchor = anchor ∧ K1.es = K.es) := hK1f
      clear hif' hK1 hK1f
      have HRd : Hid (wd.rowIs w.heap.size 57 5 (rvF ⟨rs, be, lv, tx, mo⟩)) := HKd.out.row HRc.out hwg
      have hzd := HKd.out.size
      have hwd := HRd.out.lt
      cases b
      · have HE : Hid (∀ wx, RefR B g K r 10 wx) := fun wx => by
          rcases HNc.out with ⟨_, _, hb, _⟩ | ⟨hn, _⟩
          · cases hb
          · unfold RefR ruleE
            rw [HF.out.2.2.2.2, hn]
        go_wp2
        go_ret
        exact ⟨10, rfl, HE.out _, HBd⟩
      · have HMO : ∃ more, numsE K.es mo = some more ∧ wc.ownsRow W.heap.size 3 1 v5 more.length (more.map (Value.int .i64)) := by
          rcases HNc.out with ⟨l, hl, _, ho⟩ | ⟨_, hb⟩
          · exact ⟨l, hl, ho⟩
          · cases hb
        obtain ⟨more, hmore, hmo⟩ := HMO
        obtain ⟨a, c, hv5⟩ := ownC_shape hmo
        subst hv5
        have HM : Hid (numsE K.es mo = some more) := hmore
        have hml : more.length ≤ 24 := by have := (numsE_all HK.out hmore).1; omega
        obtain ⟨n, hnm⟩ : ∃ n, n = more.length := ⟨_, rfl⟩
        have HNM : Hid (n = more.length) := hnm
        have HSM : Hid (SlIn wc.heap.size wc (.slice a n c) more ∧ (0 < more.length → aB a ≠ g)) := by
          refine ⟨by rw [hnm]; exact SlIn.own rfl (by omega) hmo, fun h0 => ?_⟩
          obtain ⟨vo, vc, gq, hv, hva, _⟩ := ownC_cells hmo
          injection hv with hv1 _ _
          have := hva h0
          rw [hv1, this.1]
          show gq ≠ g
          omega
        rw [← hnm] at hml ⊢
        clear hmore hmo hnm HNc
        have hl48 := HG1.out.ls
        obtain ⟨gv1, hli⟩ := list_in HWd.out.list
        obtain ⟨d0, _, _, d3⟩ := row5W HWd.out.row
        have HCB : Hid (Calls Tryz.prog 91 #[.pointer (some ⟨g, 0, none⟩), .int .i64 lv] wd fun e w' => e = .returned (.int .i64 (behindS K1.ls K1.anchor lv : Nat)) ∧ w' = wd) := behind_any g la lc gv1 K1.ls K1.anchor lv wd (by omega) d0 d3 hli
        have HCS : Hid (Calls Tryz.prog 92 #[.pointer (some ⟨g, 0, none⟩), .int .i64 be] wd fun e w' => e = .returned (.int .i64 (startS K1.ls K1.anchor be)) ∧ w' = wd) := start_any g la lc gv1 K1.ls K1.anchor be wd (by omega) d0 d3 hli
        obtain ⟨pb, hpb⟩ : ∃ x, x = behindS K1.ls K1.anchor lv := ⟨_, rfl⟩
        obtain ⟨ps, hps⟩ : ∃ x, x = startS K1.ls K1.anchor be := ⟨_, rfl⟩
        rw [← hpb] at HCB
        rw [← hps] at HCS
        have HPB : Hid (pb = behindS K1.ls K1.anchor lv ∧ ps = startS K1.ls K1.anchor be ∧ pb ≤ K1.ls.length ∧ ps < (K1.ls.length : Nat)) := ⟨hpb, hps, by rw [hpb]; exact behindS_le _ _ _, by rw [hps]; exact startS_lt _ _ _⟩
        have q1 : wd.cell? ⟨w.heap.size, 1, none⟩ = some (.int .i64 be) := HRd.out.cell (i := 1) (by omega)
        have q2 : wd.cell? ⟨w.heap.size, 2, none⟩ = some (.int .i64 lv) := HRd.out.cell (i := 2) (by omega)
        have HUN : Hid (ruleE repE K r = if be ≠ 0 ∧ (lv ≠ be ∨ startS K.ls anchor be < 0) then .error 11 else (if 4 < ((if 0 < lv then putS K1 (plN K.ls anchor be lv) lv else K1).stem ++ [(if 0 < lv then putS K1 (plN K.ls anchor be lv) lv else K1).anchor] ++ more).length then .error 12 else if 48 < (if 0 < lv then putS K1 (plN K.ls anchor be lv) lv else K1).ls.length ∨ 48 < (repE (if 0 < lv then putS K1 (plN K.ls anchor be lv) lv else K1).es ⟨tx, (if 0 < lv then putS K1 (plN K.ls anchor be lv) lv else K1).stem ++ [(if 0 < lv then putS K1 (plN K.ls anchor be lv) lv else K1).anchor] ++ more⟩).length then .error 13 else .ok { (if 0 < lv then putS K1 (plN K.ls anchor be lv) lv else K1) with es := repE (if 0 < lv then putS K1 (plN K.ls anchor be lv) lv else K1).es ⟨tx, (if 0 < lv then putS K1 (plN K.ls anchor be lv) lv else K1).stem ++ [(if 0 < lv then putS K1 (plN K.ls anchor be lv) lv else K1).anchor] ++ more⟩ })) := by
          show _ = _
          unfold ruleE plN
          rw [HVF.out]
          simp only
          rw [HM.out]
          simp only
          rw [HIF.out, HK1.out]
        clear hpb hps hli d0 d3
        have HPN : Hid (¬ (be ≠ 0 ∧ (lv ≠ be ∨ startS K.ls anchor be < 0)) → ((plN K.ls anchor be lv : Nat) : Int) = (if be = 0 then (pb : Int) else ps) ∧ plN K.ls anchor be lv ≤ K1.ls.length) := fun hno => by
          unfold plN
          have h1 := HPB.out.1
          have h2 := HPB.out.2.1
          have h3 := HPB.out.2.2.1
          have h4 := HPB.out.2.2.2
          rw [HK1F.out.1, HK1F.out.2.1] at h1 h2
          rw [← h1, ← h2]
          split
          · exact ⟨rfl, h3⟩
          · next hb =>
            have h0 : 0 ≤ ps := by
              rw [h2]
              by_cases hs : startS K.ls anchor be < 0
              · exact absurd ⟨hb, .inr hs⟩ hno
              · omega
            exact ⟨by omega, by omega⟩
        have HER : Hid (be ≠ 0 → (lv ≠ be ∨ ps < 0) → ∀ wx, RefR B g K r 11 wx) := fun hb hor wx => by
          have h2 := HPB.out.2.1
          rw [HK1F.out.1, HK1F.out.2.1] at h2
          have hc : be ≠ 0 ∧ (lv ≠ be ∨ startS K.ls anchor be < 0) := ⟨hb, by rw [← h2]; exact hor⟩
          unfold RefR
          rw [HUN.out, if_pos hc]
        have HNO : Hid (be = 0 ∨ (lv = be ∧ 0 ≤ ps) → ¬ (be ≠ 0 ∧ (lv ≠ be ∨ startS K.ls anchor be < 0))) := fun hor hh => by
          have h2 := HPB.out.2.1
          rw [HK1F.out.1, HK1F.out.2.1] at h2
          rw [← h2] at hh
          rcases hor with h | ⟨h, h'⟩
          · exact hh.1 h
          · rcases hh.2 with h3 | h3
            · exact h3 h
            · omega
        obtain ⟨bq2, hbq2⟩ : ∃ b, decide (0 < be) = b := ⟨_, rfl⟩
        have HBQ2 : Hid (bq2 = decide (be ≠ 0)) := by show _ = _; rw [← hbq2]; by_cases hb : be = 0 <;> simp [hb] <;> omega
        go_upto_if 62 with (go_at_call 91; refine (HCB.out).mono ?_; rintro e wq ⟨rfl, hwq⟩; obtain rfl := hwq.symm; clear hwq)
        go_cut [9] from 12 (fun v9 we => ∃ p : Nat, v9 = .int .i64 (p : Nat) ∧ p ≤ 1000 ∧ Hid (p = plN K.ls anchor be lv ∧ p ≤ K1.ls.length) ∧ Hid (¬ (be ≠ 0 ∧ (lv ≠ be ∨ startS K.ls anchor be < 0))) ∧ we = wd)
        case first =>
          cases bq2
          · have hb0 : be = 0 := by have := HBQ2.out; simpa using this.symm
            have HP0 : Hid ((pb = plN K.ls anchor be lv ∧ pb ≤ K1.ls.length) ∧ ¬ (be ≠ 0 ∧ (lv ≠ be ∨ startS K.ls anchor be < 0)) ∧ pb ≤ 1000) := by
              have hno := HNO.out (.inl hb0)
              have h1 := HPN.out hno
              rw [if_pos hb0] at h1
              refine ⟨⟨by omega, by omega⟩, hno, by omega⟩
            clear hb0
            go_wp2
            go_meet
            exact ⟨pb, rfl, HP0.out.2.2, HP0.out.1, HP0.out.2.1, rfl⟩
          · have hb0 : ¬ be = 0 := by have := HBQ2.out; simpa using this.symm
            have HB1 : Hid (¬ be = 0) := hb0
            clear hb0
            go_wp2_with fail
            refine (HCS.out).mono ?_
            rintro e wq ⟨rfl, hwq⟩
            obtain rfl := hwq.symm
            clear hwq
            by_cases hneg : ps < 0
            · have HE : Hid (∀ wx, RefR B g K r 11 wx) := HER.out HB1.out (.inr hneg)
              go_wp2
              go_ret
              exact ⟨11, rfl, HE.out _, HBd⟩
            · have hneg' : 0 ≤ ps := by omega
              have hd1 : decide (ps < 0) = false := by simp; omega
              by_cases hlb : lv = be
              · have HP0 : Hid (∃ p : Nat, ps = (p : Nat) ∧ p ≤ 1000 ∧ (p = plN K.ls anchor be lv ∧ p ≤ K1.ls.length) ∧ ¬ (be ≠ 0 ∧ (lv ≠ be ∨ startS K.ls anchor be < 0))) := by
                  have hno := HNO.out (.inr ⟨hlb, hneg'⟩)
                  have h1 := HPN.out hno
                  rw [if_neg HB1.out] at h1
                  exact ⟨plN K.ls anchor be lv, h1.1.symm, by omega, ⟨rfl, h1.2⟩, hno⟩
                obtain ⟨p, hpp, hp1000, HPP⟩ := HP0.out
                subst hpp
                have HPP' : Hid ((p = plN K.ls anchor be lv ∧ p ≤ K1.ls.length) ∧ ¬ (be ≠ 0 ∧ (lv ≠ be ∨ startS K.ls anchor be < 0))) := HPP
                have hlb2 : (lv != be) = false := by simp [hlb]
                have hlb3 : (lv == be) = true := by simp [hlb]
                clear HPP hlb
                go_wp2
                go_meet
                exact ⟨p, rfl, hp1000, HPP'.out.1, HPP'.out.2, rfl⟩
              · have HE : Hid (∀ wx, RefR B g K r 11 wx) := HER.out HB1.out (.inl hlb)
                have hlb2 : (lv != be) = true := by simp [hlb]
                have hlb3 : (lv == be) = false := by simp [hlb]
                clear hlb
                go_wp2
                go_ret
                exact ⟨11, rfl, HE.out _, HBd⟩
        case rest =>
          rename World => we
          obtain ⟨p, rfl, hp1000, HPL, HYES, hwe⟩ := hcut
          have hwe' := hwe.symm
          subst hwe'
          clear hwe
          clear HCB HCS HER HNO HPN
          obtain ⟨K2, hK2⟩ : ∃ K2, K2 = (if 0 < lv then putS K1 p lv else K1) := ⟨_, rfl⟩
          have HUN2 : Hid (ruleE repE K r = if 4 < (K2.stem ++ [K2.anchor] ++ more).length then .error 12 else if 48 < K2.ls.length ∨ 48 < (repE K2.es ⟨tx, K2.stem ++ [K2.anchor] ++ more⟩).length then .error 13 else .ok { K2 with es := repE K2.es ⟨tx, K2.stem ++ [K2.anchor] ++ more⟩ }) := by
            show _ = _
            rw [HUN.out, if_neg HYES.out, hK2, HPL.out.1]
          have HK2 : Hid (K2 = (if 0 < lv then putS K1 p lv else K1)) := hK2
          have hlsp : 0 < K1.ls.length := by
            obtain ⟨x, hx, _⟩ := HG1.out.name K1.anchor HA1.out.anchor.1 HA1.out.anchor.2
            exact List.length_pos_of_mem hx
          have hnames : 0 ≤ K1.names ∧ K1.names ≤ 1000 := by have := HG1.out.len; omega
          have HCP : Hid (0 < lv → Calls Tryz.prog 93 #[.pointer (some ⟨g, 0, none⟩), .int .i64 (p : Nat), .int .i64 lv] wd fun e w' => ∃ (v : Value) (la' : Option Addr) (lc' : Nat), e = .returned v ∧ Hid (WkA B g (putS K1 p lv) la' ea sa' lc' ec sc' vs cs w') ∧ Below B wd w' ∧ Hid (KeepH g wd w')) := fun _ => put_keep B g K1 la ea sa' lc ec sc' vs cs wd p lv HWd.out HPL.out.2 hlsp (by omega) hnames
          clear hK2 HUN HYES hlsp hnames
          obtain ⟨bq3, hbq3⟩ : ∃ b, decide (0 < lv) = b := ⟨_, rfl⟩
          have HBQ3 : Hid (decide (0 < lv) = bq3) := hbq3
          go_upto_if 78 with (fail)
          go_cut [] from 12 (fun wf => ∃ (la' : Option Addr) (lc' : Nat), Hid (WkA B g K2 la' ea sa' lc' ec sc' vs cs wf) ∧ Hid (KeepH g wd wf) ∧ Hid (Below B w wf))
          case first =>
            cases bq3
            · have HK2' : Hid (K2 = K1) := by show _ = _; rw [HK2.out, if_neg (by simpa using HBQ3.out)]
              go_wp2
              go_meet
              exact ⟨la, lc, by show WkA _ _ _ _ _ _ _ _ _ _ _ _; rw [HK2'.out]; exact HWd.out, .below (Below.refl _ _), HBd⟩
            · have hlv0 : 0 < lv := by simpa using HBQ3.out
              have HK2' : Hid (K2 = putS K1 p lv) := by show _ = _; rw [HK2.out, if_pos hlv0]
              go_wp2_with fail
              refine (HCP.out hlv0).mono ?_
              rintro e wf ⟨v, la', lc', rfl, HWf, hbf, HKf⟩
              have HBf : Hid (Below B w wf) := HBd.out.trans hbf
              clear hbf
              go_wp2
              go_meet
              exact ⟨la', lc', by show WkA _ _ _ _ _ _ _ _ _ _ _ _; rw [HK2'.out]; exact HWf.out, HKf, HBf⟩
          case rest =>
            rename World => wf
            obtain ⟨la', lc', HWf, HKf, HBf⟩ := hcut
            clear q1 q2 HCP
            have hzf := HKf.out.size
            have HRf : Hid (wf.rowIs w.heap.size 57 5 (rvF ⟨rs, be, lv, tx, mo⟩)) := HKf.out.row HRd.out hwg
            have hwf := HRf.out.lt
            have hgf := HWf.out.row.lt
            have hsl : K2.stem.length ≤ 100 := by
              have h1 : K2.stem = K1.stem := by rw [HK2.out]; split <;> rfl
              rw [h1]; exact HA1.out.len
            have HES2 : Hid (K2.es = K.es) := by show _ = _; rw [← HK1F.out.2.2, HK2.out]; split <;> rfl
            have hes48 : K2.es.length ≤ 48 := by rw [HES2.out]; exact HK.out.es
            have hn49 : K2.ls.length ≤ 49 := by
              have h1 := HG1.out.ls
              rw [HK2.out]
              split
              · show (K1.ls.take p ++ [Sp.mk K1.names lv false 0 0 0] ++ K1.ls.drop p).length ≤ 49
                simp
                omega
              · omega
            have HMf : Hid (∀ wx, Below wf.heap.size wf wx → SlIn wx.heap.size wx (.slice a n c) more) := fun wx hb => (HSM.out.1.keep ((HKd.out.trans HKf.out).trans (.below hb)).cells HSM.out.2)
            obtain ⟨i0, hi0, hq0, hq1, hq2⟩ := info_parts infoIntC
            have HST : Hid (SlIn wf.heap.size wf (.slice sa' K2.stem.length sc') K2.stem) := SlIn.own rfl (by omega) HWf.out.stem
            obtain ⟨⟨c0, c1, c2, c3, _⟩, _⟩ := row5K HWf.out.row
            obtain ⟨k2, hk2⟩ : ∃ x, x = K2.stem.length := ⟨_, rfl⟩
            obtain ⟨an, han⟩ : ∃ x, x = K2.anchor := ⟨_, rfl⟩
            rw [← hk2] at c2 hsl HST
            rw [← han] at c3
            have HK2L : Hid (k2 = K2.stem.length ∧ an = K2.anchor) := ⟨hk2, han⟩
            have HN1 : Hid ((∀ (j : Nat) (u : Value), (K2.stem.map (Value.int .i64))[j]? = some u → wf.cell? ((⟨aB sa', aO sa', none⟩ : Addr).add j) = some u) ∧ (0 < k2 → sa' = some ⟨aB sa', aO sa', none⟩)) := ⟨HST.out.news, by rw [hk2]; exact HST.out.ints.addr⟩
            clear hk2 han
            go_wp2_with (first
              | (at_builtin; refine wpList_append_all _ (by rfl) (.tmp 84) (.tmp 88) 61 (by rfl) wf.heap.size 3 i0 (.int .i64 0) 1 8 Tryz.underlying61 hi0 hq0 hq1 hq2 rfl (by omega) _ 0 [] (by rfl) (World.ownsRow_nil _ _ _ _) _ ⟨aB sa', aO sa', none⟩ k2 sc' (K2.stem.map (Value.int .i64)) (by rfl) HN1.out.2 ?a0 HN1.out.1 (ints_one _) ?a2 ?a3 (Nat.le_refl _) ?_))
            case a0 => rw [List.length_map, ← HK2L.out.1]; omega
            case a2 => unfold maxLen; omega
            case a3 => omega
            · intro v3 w1 hown1 hgrow1
              obtain ⟨l1, lc1, hl1⟩ := ownC_shape hown1
              subst hl1
              have HB1 : Hid (Below wf.heap.size wf w1) := (Below.refl wf.heap.size wf).grown hgrow1 (Nat.le_refl _) (fun _ hr => by simp [Value.ownBlock] at hr)
              have HO1 : Hid (w1.ownsRow wf.heap.size 3 1 (.slice l1 k2 lc1) k2 (K2.stem.map (Value.int .i64))) := hown1
              have hz1 := HB1.out.size
              have c3' := cellTo HB1.out c3 hgf
              clear hown1 hgrow1
              go_wp2_with (first
                | (at_builtin; refine wpList_append_lies _ (by rfl) (.tmp 90) (.tmp 95) 61 (by rfl) wf.heap.size 3 i0 (.int .i64 0) 1 8 Tryz.underlying61 hi0 hq0 hq1 hq2 rfl (by omega) _ k2 _ (by rfl) (HO1.out.alloc _) ⟨w1.heap.size, 0, none⟩ 1 1 [.int .i64 an] (by rfl) (by rfl) ?b1 ?b2 (by omega) ?b3 ?b5 ?b4 (w1.heap.size + 1) (by simp) ?_))
              case b1 => exact cell_one_new _ _ _
              case b2 => intro u hu; simp at hu; subst hu; rfl
              case b3 => unfold maxLen; omega
              case b5 => omega
              case b4 => simp; omega
              · intro g2 lc2 w2 hown2 hgrow2 _ _
                have HB2 : Hid (Below wf.heap.size wf w2) := ownC_grown_below (below_then HB1.out (below_one _)) (by simp; omega) (HO1.out.alloc _) (Nat.le_refl _) hgrow2
                have HO2 : Hid (w2.ownsRow wf.heap.size 3 1 (.slice (some ⟨g2, 0, none⟩) (k2 + 1) lc2) (k2 + 1) (K2.stem.map (Value.int .i64) ++ [.int .i64 an])) := hown2
                have hz2 := HB2.out.size
                have hmo2 := HMf.out w2 HB2.out
                have HN2 : Hid ((∀ (j : Nat) (u : Value), (more.map (Value.int .i64))[j]? = some u → w2.cell? ((⟨aB a, aO a, none⟩ : Addr).add j) = some u) ∧ (0 < n → a = some ⟨aB a, aO a, none⟩)) := ⟨hmo2.news, by rw [HNM.out]; exact hmo2.ints.addr⟩
                clear hown2 hgrow2 c3' hmo2
                go_wp2_with (first
                  | (at_builtin; refine wpList_append_all _ (by rfl) (.tmp 97) (.tmp 98) 61 (by rfl) wf.heap.size 3 i0 (.int .i64 0) 1 8 Tryz.underlying61 hi0 hq0 hq1 hq2 rfl (by omega) _ (k2 + 1) _ (by rfl) HO2.out _ ⟨aB a, aO a, none⟩ n c (more.map (Value.int .i64)) (by rfl) HN2.out.2 ?e0 HN2.out.1 (ints_one _) ?e2 ?e3 ?e4 ?_))
                case e0 => rw [List.length_map, ← HNM.out]; omega
                case e2 => unfold maxLen; omega
                case e3 => omega
                case e4 => omega
                · intro v4 w3 hown3 hgrow3
                  have HB3 : Hid (Below wf.heap.size wf w3) := ownC_grown_below HB2.out hz2 HO2.out (Nat.le_refl _) hgrow3
                  obtain ⟨zs, hzs⟩ : ∃ zs, zs = K2.stem ++ [K2.anchor] ++ more := ⟨_, rfl⟩
                  have hzl : k2 + 1 + n = zs.length := by rw [hzs, HK2L.out.1, HNM.out]; simp; omega
                  have ho : w3.ownsRow wf.heap.size 3 1 v4 zs.length (intsC zs) := by
                    have := hown3
                    rw [hzl] at this
                    unfold intsC
                    rw [hzs, List.map_append, List.map_append, List.append_assoc, ← HK2L.out.2]
                    rw [hzs] at this
                    simpa using this
                  obtain ⟨l4, lc4, hl4⟩ := ownC_shape ho
                  subst hl4
                  obtain ⟨n8, hn8⟩ : ∃ x, x = zs.length := ⟨_, rfl⟩
                  have HN8 : Hid (n8 = zs.length) := hn8
                  have HO3 : Hid (w3.ownsRow wf.heap.size 3 1 (.slice l4 n8 lc4) n8 (intsC zs)) := by show World.ownsRow _ _ _ _ _ _ _; rw [hn8]; exact ho
                  have h125 : n8 ≤ 125 := by rw [hn8, ← hzl]; omega
                  have HZS : Hid (zs = K2.stem ++ [K2.anchor] ++ more) := hzs
                  rw [← hzs] at HUN2
                  rw [← hn8]
                  have hz3 := HB3.out.size
                  have HBw3 : Hid (Below B w w3) := HBf.out.trans (HB3.out.mono (by have := HWf.out.base; omega))
                  have HW3 : Hid (WkA B g K2 la' ea sa' lc' ec sc' vs cs w3) := HWf.out.below HB3.out
                  have HR3 : Hid (w3.rowIs w.heap.size 57 5 (rvF ⟨rs, be, lv, tx, mo⟩)) := HRf.out.of_block (HB3.out.block _ hwf)
                  clear hown3 hgrow3 ho hzl hzs hn8 c0 c1 c2 c3
                  by_cases h4 : 4 < n8
                  · have HE : Hid (∀ wx, RefR B g K r 12 wx) := fun wx => by
                      unfold RefR
                      rw [HUN2.out, if_pos (by rw [← HN8.out]; exact h4)]
                    go_wp2
                    go_ret
                    exact ⟨12, rfl, HE.out _, HBw3⟩
                  · have HON : Hid (OnceE K2.es) := by show OnceE _; rw [HES2.out]; exact HK.out.once
                    have hg3 := HW3.out.row.lt
                    have hw3 := HR3.out.lt
                    obtain ⟨eb, hE⟩ := HW3.out.entries (by omega) (fun e he => by rw [HES2.out] at he; have := (HK.out.ent e he).2.1.2; omega)
                    have HEI : Hid (∀ wx, Below w3.heap.size w3 wx → EntriesIn wx.heap.size wx ea K2.es.length eb 0 (txE K2.es) vs (kE K2.es) cs (fun i => aB (vs i)) (fun _ => 0) (zE K2.es)) := fun wx hb => (hE.below hb).mono hb.size
                    have hEa := hE.addr
                    have hElt := hE.lt
                    obtain ⟨kk, hkk⟩ : ∃ x, x = entI K2.es.length (txE K2.es) tx := ⟨_, rfl⟩
                    have HKK : Hid (kk = entI K2.es.length (txE K2.es) tx) := hkk
                    obtain ⟨m2, hm2⟩ : ∃ x, x = K2.es.length := ⟨_, rfl⟩
                    have HM2 : Hid (m2 = K2.es.length) := hm2
                    have HCE : Hid (∀ wz, Below w3.heap.size w3 wz → Calls Tryz.prog 70 #[.slice ea m2 ec, .string tx] wz fun e w' => e = .returned (.int .i64 kk) ∧ Below wz.heap.size wz w') := fun wz hb => by
                      rw [hkk, hm2]
                      refine (entry_any K2.es.length ec eb 0 ea (txE K2.es) vs (kE K2.es) cs (fun i => aB (vs i)) (fun _ => 0) (zE K2.es) tx wz (by omega) (HEI.out wz hb)).mono ?_
                      rintro e w' ⟨he, hw⟩
                      exact ⟨he, by rw [← hw]; exact Below.refl _ _⟩
                    obtain ⟨⟨c0, c1, _, _, _⟩, f0, f1, _, _, _⟩ := row5K HW3.out.row
                    rw [← hm2] at c1 hes48 hEa hElt
                    obtain ⟨n2, hn2⟩ : ∃ x, x = K2.ls.length := ⟨_, rfl⟩
                    have HN2 : Hid (n2 = K2.ls.length) := hn2
                    rw [← hn2] at c0 hn49
                    have q3 : w3.cell? ⟨w.heap.size, 3, none⟩ = some (.string tx) := HR3.out.cell (i := 3) (by omega)
                    have b1 := Wb.cell (w := w3) (B := w3.heap.size) (by show g < _; omega) c1
                    have b2 := Wb.cell (w := w3) (B := w3.heap.size) (by show w.heap.size < _; omega) q3
                    clear hkk hm2 hn2 hE
                    go_wp2
                    refine wp_region_below w3.heap.size (by kernel_rfl) (by kernel_rfl) ?_
                    repeat (go_big_quiet_step ((go_at_call 70; exact Wb.ofCall _ (Nat.le_refl _) (HCE.out _ (Wb.below _)))))
                    refine wpQuiet_nil ?_
                    rintro _ ⟨y, rfl⟩
                    have hy := y.below
                    generalize y.val = w4 at hy
                    have hz4 := hy.size
                    have HW4 : Hid (WkA B g K2 la' ea sa' lc' ec sc' vs cs w4) := HW3.out.below hy
                    have HO4 : Hid (w4.ownsRow B 3 1 (.slice l4 n8 lc4) n8 (intsC zs)) := ownC_base (ownC_below HO3.out hy) (by have := HWf.out.base; omega)
                    have HBw4 : Hid (Below B w w4) := HBw3.out.trans (hy.mono (by have := HWf.out.base; omega))
                    have HR4 : Hid (w4.rowIs w.heap.size 57 5 (rvF ⟨rs, be, lv, tx, mo⟩)) := HR3.out.of_block (hy.block _ hw3)
                    have HEI4 : Hid (EntriesIn w4.heap.size w4 ea K2.es.length eb 0 (txE K2.es) vs (kE K2.es) cs (fun i => aB (vs i)) (fun _ => 0) (zE K2.es)) := HEI.out w4 hy
                    have d0 := cellTo hy c0 hg3
                    have d1 := cellTo hy c1 hg3
                    have hg4 := HW4.out.row.lt
                    have hw4 := HR4.out.lt
                    clear b1 b2 c0 c1 f0 f1 q3 hy HCE HEI HW3 HR3 HO3
                    by_cases h48 : 48 < n2
                    · have HE : Hid (∀ wx, RefR B g K r 13 wx) := fun wx => by
                        unfold RefR
                        rw [HUN2.out, if_neg (by rw [← HN8.out]; exact h4), if_pos (.inl (by rw [← HN2.out]; exact h48))]
                      go_wp2
                      go_ret
                      exact ⟨13, rfl, HE.out _, HBw4⟩
                    · have h48' : n2 ≤ 48 := by omega
                      by_cases hin : isText K2.es.length (txE K2.es) tx
                      · obtain ⟨hq1', hq2', _⟩ := idx_spec hin
                        have hkk : kk = (idx K2.es.length (txE K2.es) tx : Nat) := by rw [HKK.out]; exact entI_text hin
                        generalize idx K2.es.length (txE K2.es) tx = q at hq1' hq2' hkk
                        subst hkk
                        have HRP : Hid (repE K2.es ⟨tx, zs⟩ = K2.es.set q ⟨(K2.es.getD q default).tx, zs⟩) := by
                          show _ = _
                          have h5 : (K2.es.getD q default).tx = tx := hq2'
                          rw [h5]
                          exact repE_at HON.out hq1' h5
                        have HE0 : Hid (∀ wx, Wr B g { K2 with es := K2.es.set q ⟨(K2.es.getD q default).tx, zs⟩ } wx → RefR B g K r 0 wx) := fun wx hwr => by
                          unfold RefR
                          rw [HUN2.out, if_neg (by rw [← HN8.out]; exact h4), if_neg, HRP.out]
                          · exact ⟨rfl, hwr⟩
                          · rw [HRP.out, List.length_set, ← HN2.out, ← HM2.out]
                            omega
                        have hqm : q < m2 := by rw [HM2.out]; exact hq1'
                        have hqmI : (q : Int) < (m2 : Int) := by omega
                        have hea := hEa (by omega)
                        subst hea
                        have heb : eb < w4.heap.size := by have := hElt (by omega); omega
                        have hzz := HO4.out
                        rw [HN8.out] at hzz
                        have hset := HW4.out.setE hq1' hzz
                        rw [← HN8.out] at hset
                        have HST2 : Hid (Wr B g { K2 with es := K2.es.set q ⟨(K2.es.getD q default).tx, zs⟩ } (w4.setCell ⟨eb, q * 2 + 1, none⟩ (.slice l4 n8 lc4))) := ⟨_, _, _, _, _, _, _, _, hset⟩
                        have hebB : B ≤ eb := (ownC_lt HW4.out.ents (b := eb) rfl).2
                        have HBS : Hid (Below B w (w4.setCell ⟨eb, q * 2 + 1, none⟩ (.slice l4 n8 lc4))) := (OnlyRow.setCell _ _ _ _).below HBw4.out hebB
                        have tl := HEI4.out.list q (by rw [← HM2.out]; exact hqm)
                        rw [Nat.zero_add] at tl
                        have tf : w4.frozen? ⟨eb, q * 2 + 1, none⟩ = false := by
                          rcases HW4.out.ents.2 with ⟨hv, _⟩ | ⟨g', cap', cur, hv, _, hh, _⟩
                          · cases hv
                          · injection hv with hv1 _ _
                            injection hv1 with hv1
                            injection hv1 with hv2 _ _
                            subst hv2
                            simp [World.frozen?, hh]
                        have hd1 : decide ((q : Int) < 0) = false := by simp
                        clear hq1' hq2' hin hset hzz
                        go_wp2
                        go_ret
                        exact ⟨0, rfl, HE0.out _ HST2.out, HBS⟩
                      · have hkk : kk = -1 := by rw [HKK.out]; exact entI_no hin
                        subst hkk
                        have HRP : Hid (repE K2.es ⟨tx, zs⟩ = K2.es ++ [⟨tx, zs⟩]) := by
                          show _ = _
                          unfold repE
                          rw [if_neg (fun hx => hin (isText_mem.2 hx))]
                        by_cases hm48 : 48 ≤ m2
                        · have HE : Hid (∀ wx, RefR B g K r 13 wx) := fun wx => by
                            unfold RefR
                            rw [HUN2.out, if_neg (by rw [← HN8.out]; exact h4), if_pos]
                            right
                            rw [HRP.out, List.length_append, ← HM2.out]
                            show 48 < m2 + 1
                            omega
                          go_wp2
                          go_ret
                          exact ⟨13, rfl, HE.out _, HBw4⟩
                        · have hm48' : m2 < 48 := by omega
                          have HE0 : Hid (∀ wx, Wr B g { K2 with es := K2.es ++ [⟨tx, zs⟩] } wx → RefR B g K r 0 wx) := fun wx hwr => by
                            unfold RefR
                            rw [HUN2.out, if_neg (by rw [← HN8.out]; exact h4), if_neg, HRP.out]
                            · exact ⟨rfl, hwr⟩
                            · rw [HRP.out, List.length_append, ← HN2.out, ← HM2.out]
                              show ¬ (48 < n2 ∨ 48 < m2 + 1)
                              omega
                          obtain ⟨j0, hj0, hp0, hp1, hp2⟩ := info_parts infoEntC
                          have q3 : w4.cell? ⟨w.heap.size, 3, none⟩ = some (.string tx) := HR4.out.cell (i := 3) (by omega)
                          have HEN : Hid (w4.ownsRow B 63 2 (.slice ea m2 ec) m2 (entC (fun j => (K2.es.getD j default).tx) (fun j => (K2.es.getD j default).zs.length) vs cs m2)) := by show World.ownsRow _ _ _ _ _ _ _; rw [HM2.out]; exact HW4.out.ents
                          have hBw4 : B ≤ w4.heap.size := by have := HWf.out.base; omega
                          have HGW : Hid (∀ (w5 : World) (X : Obj), (w4.drew.alloc X).grownBy w5 (Value.slice ea m2 ec).ownBlock → w5.rowIs g 127 5 (wkF la' K2.ls.length lc' ea K2.es.length ec sa' K2.stem.length sc' K2.anchor K2.names)) := fun w5 X hg5 => by
                            have h1 := HW4.out.row.drew.alloc X
                            rw [HM2.out] at hg5
                            exact h1.of_block (hg5.block _ h1.lt (fun e => own_far h1 (HW4.out.ents.drew.alloc X) (by decide) e.symm))
                          have hd1 : decide ((-1 : Int) < 0) = true := by decide
                          clear hin
                          go_wp2
                          go_region_law ((refine step_append_lies _ (by rfl) (.tmp 142) (.tmp 147) 26 (by rfl) B 63 j0 (.agg #[.string ByteArray.empty, .slice none 0 0]) 2 40 Tryz.underlying26 hj0 hp0 hp1 hp2 rfl (by omega) (.slice ea m2 ec) m2 (entC (fun j => (K2.es.getD j default).tx) (fun j => (K2.es.getD j default).zs.length) vs cs m2) (by rfl) (HEN.out.drew.alloc _) ⟨w4.heap.size, 0, none⟩ 1 1 [.string tx, .slice l4 n8 lc4] (by rfl) (by rfl) (newC2 _ rfl _ _ _) (by intro u hu; simp at hu; rcases hu with rfl | rfl <;> rfl) (by omega) (by unfold maxLen; omega) (by omega) (by simp; omega) (w4.heap.size + 1) (by simp) ?_; intro g5 cap5 w5 hown5 hgrow5 _ _; have rw5 := HGW.out _ _ hgrow5; have rf := rw5.frozen 1; have rc := rw5.cell (i := 1) (by omega)))
                          all_goals
                            have hadd : Wr B g { K2 with es := K2.es ++ [⟨tx, zs⟩] } (w5.setCell ⟨g, 1, none⟩ (.slice (some ⟨g5, 0, none⟩) (m2 + 1) cap5)) := by
                              have hg5 := hgrow5
                              have ho5 := hown5
                              have hz5 := HO4.out
                              rw [HM2.out] at hg5 ho5 ⊢
                              rw [HN8.out] at hz5 ho5
                              exact ⟨_, _, _, _, _, _, _, _, HW4.out.addE (e := ⟨tx, zs⟩) rfl (by simp; omega) hz5 hg5 ho5⟩
                            have HADD : Hid (Wr B g { K2 with es := K2.es ++ [⟨tx, zs⟩] } (w5.setCell ⟨g, 1, none⟩ (.slice (some ⟨g5, 0, none⟩) (m2 + 1) cap5))) := hadd
                            have HB5 : Hid (Below B w (w5.setCell ⟨g, 1, none⟩ (.slice (some ⟨g5, 0, none⟩) (m2 + 1) cap5))) := (OnlyRow.setCell _ _ _ _).below (ownC_grown_below (HBw4.out.drew.alloc hBw4 _) (by simp; omega) (HEN.out.drew.alloc _) (Nat.le_refl _) hgrow5) hBg
                            clear hadd rw5 rf rc hown5 hgrow5
                            go_wp2
                            go_ret
                            exact ⟨0, rfl, HE0.out _ HADD.out, HB5⟩

end Go.Proofs.YtpclldccjpncdabGreat
