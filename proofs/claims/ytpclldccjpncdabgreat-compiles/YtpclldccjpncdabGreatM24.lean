import Derived.Test.YtpclldccjpncdabGreatM23
namespace Go.Proofs.YtpclldccjpncdabGreat
open Go.RowKit

/-- what Numbers tells -/
def NumR (es : List En) (s : ByteArray) (B : Nat) (w' : World) (a : Option Addr) (n c : Nat) (b : Bool) : Prop :=
  (∃ l, numsE es s = some l ∧ b = true ∧ n = l.length ∧ w'.ownsRow B 3 1 (.slice a l.length c) l.length (l.map (Value.int .i64))) ∨ (numsE es s = none ∧ b = false)
theorem GoodK.numV {K : Wk} {g : Nat} {em : List Em} {la ea : Option Addr} {lc ec gv eb eo : Nat} {sv : Value} {w : World} (hK : GoodK K) (h : DrA g K em la ea lc ec gv eb eo sv w) (s : ByteArray) (hs : s.size ≤ 24) :
    Calls Tryz.prog 99 #[.slice ea em.length ec, .string s] w fun e w' => ∃ (a : Option Addr) (n c : Nat) (b : Bool), e = .returned (.tuple #[.slice a n c, .bool b]) ∧ Below w.heap.size w w' ∧ Hid (NumR K.es s w.heap.size w' a n c b) := by
  refine (hK.numbers h s hs).mono ?_
  rintro e w' ⟨hb, ⟨l, ao, c, hl, he, hown⟩ | ⟨hl, he⟩⟩
  · exact ⟨ao, l.length, c, true, he, hb, .inl ⟨l, hl, rfl, rfl, hown.out⟩⟩
  · exact ⟨none, 0, 0, false, he, hb, .inr ⟨hl, rfl⟩⟩
theorem ruleE_err {upd : List En → En → List En} {K : Wk} {r : Rl} {x : Int} (h : ruleE upd K r = .error x) : x = 10 ∨ x = 11 ∨ x = 12 ∨ x = 13 := by
  unfold ruleE at h
  repeat' (first | split at h | (simp only at h))
  all_goals first
    | (injection h with h; omega)
    | (cases h; done)
theorem anch_if {K : Wk} {r : Rl} (h : GoodK K) (hr : r.ok) (ha : r.reset.size ≠ 0 ∨ Anch K) {stem : List Int} {anchor : Int} (hs : (if r.reset.size ≠ 0 then (numsE K.es r.reset).map (fun l => (l.dropLast, l.getLastD 0)) else some (K.stem, K.anchor)) = some (stem, anchor)) : Anch { K with stem := stem, anchor := anchor } := by
  by_cases h0 : r.reset.size ≠ 0
  · rw [if_pos h0] at hs
    cases hn : numsE K.es r.reset with
    | none => rw [hn] at hs; cases hs
    | some l =>
      rw [hn] at hs
      simp only [Option.map_some, Option.some.injEq, Prod.mk.injEq] at hs
      obtain ⟨rfl, rfl⟩ := hs
      obtain ⟨b1, b2, b3⟩ := numsE_all h hn
      have hl := b2 h0
      have hr6 := hr.2.2.1
      refine ⟨?_, fun z hz => b3 z (List.dropLast_subset l hz), ?_⟩
      · exact b3 _ (by
          rw [List.getLastD_eq_getLast?, List.getLast?_eq_some_getLast hl]
          exact List.getLast_mem hl)
      · show l.dropLast.length ≤ 100
        rw [List.length_dropLast]
        omega
  · rw [if_neg h0] at hs
    simp only [Option.some.injEq, Prod.mk.injEq] at hs
    obtain ⟨rfl, rfl⟩ := hs
    exact ha.resolve_left h0
/-- the place, as a number of places -/
def plN (l : List Sp) (an be lv : Int) : Nat := if be = 0 then behindS l an lv else (startS l an be).toNat
theorem pl_no {l : List Sp} {an : Int} {r : Rl} (h : plB l an r = false) : r.before ≠ 0 ∧ (r.level ≠ r.before ∨ startS l an r.before < 0) := by
  unfold plB at h
  split at h
  · cases h
  · next hb =>
    refine ⟨hb, ?_⟩
    split at h
    · next hl => exact .inl hl
    · exact .inr (by simpa using h)
theorem pl_yes {l : List Sp} {an : Int} {r : Rl} (h : plB l an r = true) : ¬ (r.before ≠ 0 ∧ (r.level ≠ r.before ∨ startS l an r.before < 0)) ∧ plA l an r = (plN l an r.before r.level : Nat) ∧ plN l an r.before r.level ≤ l.length := by
  unfold plB at h
  unfold plA plN
  split at h
  · next hb => exact ⟨fun hh => hh.1 hb, by rw [if_pos hb, if_pos hb], by rw [if_pos hb]; exact behindS_le _ _ _⟩
  · next hb =>
    split at h
    · cases h
    · next hl =>
      have h0 : 0 ≤ startS l an r.before := by simpa using h
      have hlt := startS_lt l an r.before
      refine ⟨fun hh => ?_, ?_, ?_⟩
      · rcases hh.2 with h1 | h1
        · exact hl h1
        · omega
      · rw [if_neg hb, if_neg hl, if_neg (by omega), if_neg hb]
        omega
      · rw [if_neg hb]
        omega
theorem DrA.put {g : Nat} {K1 : Wk} {em : List Em} {la ea : Option Addr} {lc ec gv eb eo : Nat} {sv : Value} {we wq w' : World} {a' : Option Addr} {n' c' p : Nat} {lv : Int} {Bq : Nat} (h : DrA g K1 em la ea lc ec gv eb eo sv we) (hlen : K1.names = (K1.ls.length : Nat)) (hk : KeepH g we wq) (ho : OnlyRow g wq w') (hrow : w'.rowIs g 122 4 (drF a' n' c' ea em.length ec sv (K1.ls.length : Nat)))
    (hn' : n' = (K1.ls.take p ++ [Sp.mk (K1.ls.length : Nat) lv false 0 0 0] ++ K1.ls.drop p).length) (hBq : g < Bq) (hown : wq.ownsRow Bq 145 6 (.slice a' n' c') n' (memC (K1.ls.take p ++ [Sp.mk (K1.ls.length : Nat) lv false 0 0 0] ++ K1.ls.drop p))) : ∃ gm, DrA g (putS K1 p lv) em a' ea c' ec gm eb eo sv w' := by
  obtain ⟨gm, hm⟩ := mem_in hn' hown
  have hls : (putS K1 p lv).ls = K1.ls.take p ++ [Sp.mk (K1.ls.length : Nat) lv false 0 0 0] ++ K1.ls.drop p := by
    show K1.ls.take p ++ [Sp.mk K1.names lv false 0 0 0] ++ K1.ls.drop p = _
    rw [hlen]
  have hfar : 0 < (putS K1 p lv).ls.length → gm ≠ g := fun h0 => by
    rw [hls] at h0
    have ha := hm.addr h0
    have := (ownC_lt hown (b := gm) (by rw [ha]; rfl)).2
    omega
  have hk2 := (hk.trans (.only ho)).cells
  refine ⟨gm, ?_, h.es, ?_, h.ents.keep hk2 h.farE h.farI, h.stem.keep hk2 h.farS, hfar, h.farE, h.farI, h.farS⟩
  · rw [hls, ← hn']
    have : (putS K1 p lv).anchor = (K1.ls.length : Nat) := hlen
    rw [this]
    exact hrow
  · rw [hls]
    exact hm.keep (.only ho) (by rw [← hls]; exact hfar)
theorem DrA.ent {g : Nat} {K2 : Wk} {em em' : List Em} {la ea ea' : Option Addr} {lc ec ec' gv eb eo : Nat} {sv : Value} {we wq w' : World} {x : Em} {n' : Nat} {Bq : Nat} (h : DrA g K2 em la ea lc ec gv eb eo sv we) (hk : KeepH g we wq) (ho : OnlyRow g wq w') (hrow : w'.rowIs g 122 4 (drF la K2.ls.length lc ea' n' ec' sv K2.anchor))
    (hn' : n' = em'.length) (hBq : g < Bq) (hown : wq.ownsRow Bq 63 2 (.slice ea' n' ec') n' (emC em')) (hmem : ∀ y ∈ em', y = x ∨ y ∈ em) (hx : SlIn wq.heap.size wq x.2 x.1.zs) (hxf : 0 < x.1.zs.length → aB (slA x.2) ≠ g) : ∃ eb', DrA g { K2 with es := esM em' } em' la ea' lc ec' gv eb' 0 sv w' := by
  have hint : ∀ y ∈ em', SlIn wq.heap.size wq y.2 y.1.zs := fun y hy => by
    rcases hmem y hy with rfl | hy
    · exact hx
    · exact (h.ents.ints y hy).keep hk.cells (h.farI y hy)
  have hfi : ∀ y ∈ em', 0 < y.1.zs.length → aB (slA y.2) ≠ g := fun y hy => by
    rcases hmem y hy with rfl | hy
    · exact hxf
    · exact h.farI y hy
  obtain ⟨eb', he⟩ := em_in hn' hown hint
  have hfar : 0 < em'.length → eb' ≠ g := fun h0 => by
    have ha := he.addr h0
    have := (ownC_lt hown (b := eb') (by rw [ha]; rfl)).2
    omega
  have hk2 := (hk.trans (.only ho)).cells
  refine ⟨eb', ?_, rfl, h.list.keep hk2 h.farL, he.keep (.only ho) hfar hfi, h.stem.keep hk2 h.farS, h.farL, hfar, hfi, h.farS⟩
  rw [← hn']
  exact hrow
theorem insE_len (es : List En) (e : En) : (insE es e).length ≤ es.length + 1 := by
  have h : (es.takeWhile (fun x => lessB x.tx e.tx)).length + (es.dropWhile (fun x => lessB x.tx e.tx)).length = es.length := by rw [← List.length_append, List.takeWhile_append_dropWhile]
  unfold insE
  rw [List.length_append, List.length_cons]
  split
  · simp; omega
  · next y r hd =>
    rw [hd, List.length_cons] at h
    split
    · omega
    · rw [List.length_cons]; omega
/-- what apply answers -/
def AppR (g : Nat) (K : Wk) (r : Rl) (er : Int) (w' : World) : Prop := match ruleE insE K r with
  | .error x => er = x
  | .ok K' => er = 0 ∧ Dr g K' w'

set_option maxRecDepth 100000 in
set_option maxHeartbeats 8000000 in
theorem apply_any (B g : Nat) (K : Wk) (em : List Em) (la ea : Option Addr) (lc ec gv eb eo : Nat) (sv : Value) (w : World) (r : Rl) (hK : GoodK K) (hS : SortE K.es) (hr : r.ok) (hA : r.reset.size ≠ 0 ∨ Anch K) (h : DrA g K em la ea lc ec gv eb eo sv w) (hB : B ≤ g) :
    Calls Tryz.prog 86 #[.pointer (some ⟨g, 0, none⟩), r.v] w fun e w' => ∃ er : Int, e = .returned (.int .i64 er) ∧ Hid (AppR g K r er w') ∧ Hid (Below B w w') := by
  have HK : Hid (GoodK K) := hK
  have HRO : Hid (r.ok) := hr
  have HAN : Hid (r.reset.size ≠ 0 ∨ Anch K) := hA
  have HG0 : Hid (∀ K', ruleE insE K r = .ok K' → GoodK K' ∧ Anch K') := fun K' he => ruleE_good hK (upd_ins hS) hr hA he
  obtain ⟨hr1, hr2, hr3, hr4, hr5, hr6⟩ := hr
  show Calls Tryz.prog 86 #[.pointer (some ⟨g, 0, none⟩), .agg #[.string r.reset, .int .i64 r.before, .int .i64 r.level, .string r.text, .string r.more]] w _
  have HRV : Hid (∀ rs be lv tx mo, r.reset = rs → r.before = be → r.level = lv → r.text = tx → r.more = mo → r = ⟨rs, be, lv, tx, mo⟩) := fun rs be lv tx mo h1 h2 h3 h4 h5 => by rw [← h1, ← h2, ← h3, ← h4, ← h5]
  obtain ⟨rs, hrs⟩ : ∃ x, r.reset = x := ⟨_, rfl⟩
  obtain ⟨be, hbe⟩ : ∃ x, r.before = x := ⟨_, rfl⟩
  obtain ⟨lv, hlv⟩ : ∃ x, r.level = x := ⟨_, rfl⟩
  obtain ⟨tx, htx⟩ : ∃ x, r.text = x := ⟨_, rfl⟩
  obtain ⟨mo, hmo⟩ : ∃ x, r.more = x := ⟨_, rfl⟩
  have HF : Hid (r.reset = rs ∧ r.before = be ∧ r.level = lv ∧ r.text = tx ∧ r.more = mo) := ⟨hrs, hbe, hlv, htx, hmo⟩
  have HVF : Hid (r = ⟨rs, be, lv, tx, mo⟩) := HRV.out _ _ _ _ _ hrs hbe hlv htx hmo
  rw [hrs, hbe, hlv, htx, hmo]
  rw [htx] at hr1
  rw [hmo] at hr2
  rw [hrs] at hr3
  rw [hlv] at hr4
  rw [hbe, hrs] at hr6
  rw [hbe] at hr5
  clear HRV hrs hbe hlv htx hmo
  obtain ⟨W, hW⟩ : ∃ W, W = w.alloc (.cells #[.string rs, .int .i64 be, .int .i64 lv, .string tx, .string mo] 57) := ⟨_, rfl⟩
  have HD : Hid (DrA g K em la ea lc ec gv eb eo sv W) := by show DrA _ _ _ _ _ _ _ _ _ _ _ _; rw [hW]; exact h.below (below_one _)
  have hg0 := h.row.lt
  have HB0 : Hid (Below B w W) := by show Below _ _ _; rw [hW]; exact (below_one _).mono (by omega)
  have HWS : Hid (W.heap.size = w.heap.size + 1) := by show _ = _; rw [hW]; simp
  have HRW : Hid (W.rowIs w.heap.size 57 5 (rvF ⟨rs, be, lv, tx, mo⟩)) := by show World.rowIs _ _ _ _ _; rw [hW]; exact row_new _ _ _ 5 rfl
  have HC1 : Hid (∀ wz, Below W.heap.size W wz → Calls Tryz.prog 99 #[.slice ea em.length ec, .string mo] wz fun e w' => ∃ (a : Option Addr) (n c : Nat) (b : Bool), e = .returned (.tuple #[.slice a n c, .bool b]) ∧ Below wz.heap.size wz w' ∧ Hid (NumR K.es mo wz.heap.size w' a n c b)) := fun wz hb => hK.numV (HD.out.below hb) mo (by omega)
  obtain ⟨⟨_, c1, _, _⟩, _⟩ := row4F HD.out.row
  have c1' : W.cell? ⟨g, 1, none⟩ = some (.slice ea em.length ec) := c1
  have r4 : W.cell? ⟨w.heap.size, 4, none⟩ = some (.string mo) := HRW.out.cell (i := 4) (by omega)
  clear h hK hA c1
  have hws := HWS.out
  go_enter Tryz.func86, Tryz.ntmps86
  go_upto_region 1 with (fail)
  rw [← hW]
  clear hW
  go_cut [5, 6] from 9 (fun v5 v6 wc => ∃ (a : Option Addr) (n c : Nat) (b : Bool), v5 = .slice a n c ∧ v6 = .bool b ∧ Hid (Below W.heap.size W wc) ∧ Hid (NumR K.es mo W.heap.size wc a n c b))
  case first =>
    go_region_with (go_at_call 99; refine (HC1.out _ (Below.refl _ _).drew).mono ?_; rintro e w1 ⟨a, n, c, b, rfl, hb1, hn1⟩)
    all_goals
      go_wp2
      go_meet
      exact ⟨a, n, c, b, rfl, rfl, (Below.refl _ _).drew.trans hb1, hn1⟩
  case rest =>
    rename World => wc
    obtain ⟨a, n, c, b, rfl, rfl, HBc, HNc⟩ := hcut
    have hzc := HBc.out.size
    have hgW := HD.out.row.lt
    have HBB : Hid (Below B w wc) := HB0.out.trans (HBc.out.mono (by omega))
    clear c1' r4 HC1
    cases b
    · have HE : Hid (∀ wx, AppR g K r 10 wx) := fun wx => by
        rcases HNc.out with ⟨_, _, hb, _⟩ | ⟨hn, _⟩
        · cases hb
        · unfold AppR ruleE
          rw [HF.out.2.2.2.2, hn]
      go_wp2
      go_ret
      exact ⟨10, rfl, HE.out _, HBB⟩
    · have HMO : ∃ more, numsE K.es mo = some more ∧ n = more.length ∧ wc.ownsRow W.heap.size 3 1 (.slice a more.length c) more.length (more.map (Value.int .i64)) := by
        rcases HNc.out with ⟨l, hl, _, hn, ho⟩ | ⟨_, hb⟩
        · exact ⟨l, hl, hn, ho⟩
        · cases hb
      obtain ⟨more, hmore, hnm, hmo⟩ := HMO
      have HM : Hid (numsE K.es mo = some more) := hmore
      have hml : more.length ≤ 24 := by have := (numsE_all HK.out hmore).1; omega
      have hgn : ∀ x, (Value.slice a more.length c).ownBlock = some x → x ≠ g := fun x hx => by have := (ownC_lt hmo hx).2; omega
      have HSM : Hid (SlIn wc.heap.size wc (.slice a n c) more ∧ (0 < more.length → aB a ≠ g)) := by
        refine ⟨?_, fun h0 => ?_⟩
        · rw [hnm]; exact SlIn.own rfl (by omega) hmo
        · obtain ⟨vo, vc, gq, hv, hva, _⟩ := ownC_cells hmo
          injection hv with hv1 _ _
          have := hva h0
          rw [hv1, this.1]
          show gq ≠ g
          omega
      have HNM : Hid (n = more.length) := hnm
      rw [← hnm] at hml
      clear hmore hnm hmo hgn HNc
      have HDc : Hid (DrA g K em la ea lc ec gv eb eo sv wc) := HD.out.below HBc.out
      have HRc : Hid (wc.rowIs w.heap.size 57 5 (rvF ⟨rs, be, lv, tx, mo⟩)) := HRW.out.of_block (HBc.out.block _ (by omega))
      have hwg : w.heap.size ≠ g := by omega
      have r0 : wc.cell? ⟨w.heap.size, 0, none⟩ = some (.string rs) := HRc.out.cell (i := 0) (by omega)
      go_upto_region 4 with (fail)
      go_cut [30] from 9 (fun bv wd => ∃ bb : Bool, bv = .bool bb ∧ Hid (Below B w wd) ∧ Hid (KeepH g wc wd) ∧ Hid ((bb = true ∧ (if rs.size ≠ 0 then (numsE K.es rs).map (fun l => (l.dropLast, l.getLastD 0)) else some (K.stem, K.anchor)) = none) ∨ (bb = false ∧ ∃ stem anchor sv', (if rs.size ≠ 0 then (numsE K.es rs).map (fun l => (l.dropLast, l.getLastD 0)) else some (K.stem, K.anchor)) = some (stem, anchor) ∧ DrA g { K with stem := stem, anchor := anchor } em la ea lc ec gv eb eo sv' wd)))
      case first =>
        by_cases hrs : rs.size = 0
        · have he : rs.toList.isEmpty = true := by rw [empty_iff]; simp [hrs]
          have he0 : rs = ByteArray.empty := ByteArray.ext (Array.eq_empty_of_size_eq_zero hrs)
          have HIF : Hid ((if rs.size ≠ 0 then (numsE K.es rs).map (fun l => (l.dropLast, l.getLastD 0)) else some (K.stem, K.anchor)) = some (K.stem, K.anchor)) := if_neg (by omega)
          clear he0
          go_wp2
          all_goals first | (exfalso; simp_all; done) | skip
          go_meet
          exact ⟨false, rfl, HBB, .below (Below.refl _ _), .inr ⟨rfl, _, _, sv, HIF.out, HDc.out⟩⟩
        · have he : rs.toList.isEmpty = false := by rw [empty_iff]; simp [hrs]
          have HCR : Hid (Calls Tryz.prog 112 #[.pointer (some ⟨g, 0, none⟩), .string rs] wc fun e w' => ∃ b : Value, e = .returned b ∧ Hid ((numsE K.es rs = none ∧ b = .bool false) ∨ (∃ l sv', numsE K.es rs = some l ∧ b = .bool true ∧ DrA g { K with stem := l.dropLast, anchor := l.getLastD 0 } em la ea lc ec gv eb eo sv' w')) ∧ Hid (Below B wc w') ∧ Hid (KeepH g wc w')) := reset_any B g K em la ea lc ec gv eb eo sv wc rs HK.out HDc.out hB hr3 hrs
          have HIF : Hid ((if rs.size ≠ 0 then (numsE K.es rs).map (fun l => (l.dropLast, l.getLastD 0)) else some (K.stem, K.anchor)) = (numsE K.es rs).map (fun l => (l.dropLast, l.getLastD 0))) := if_pos hrs
          clear hrs
          go_wp2_with fail
          refine (HCR.out).mono ?_
          rintro e wd ⟨bv, rfl, HOR, HBd, HKd⟩
          rcases HOR.out with ⟨hno, rfl⟩ | ⟨l, sv', hl, rfl, hdr⟩
          · have HNO : Hid (numsE K.es rs = none) := hno
            clear hno HOR HCR
            go_wp2
            go_meet
            exact ⟨true, rfl, HBB.out.trans HBd.out, HKd, .inl ⟨rfl, by rw [HIF.out, HNO.out]; rfl⟩⟩
          · have HYES : Hid (numsE K.es rs = some l ∧ DrA g { K with stem := l.dropLast, anchor := l.getLastD 0 } em la ea lc ec gv eb eo sv' wd) := ⟨hl, hdr⟩
            clear hl hdr HOR HCR
            go_wp2
            go_meet
            exact ⟨false, rfl, HBB.out.trans HBd.out, HKd, .inr ⟨rfl, _, _, sv', by rw [HIF.out, HYES.out.1]; rfl, HYES.out.2⟩⟩
      case rest =>
        rename World => wd
        obtain ⟨bb, rfl, HBd, HKd, HOR⟩ := hcut
        clear r0
        cases bb
        · have HOR2 : ∃ stem anchor sv', (if rs.size ≠ 0 then (numsE K.es rs).map (fun l => (l.dropLast, l.getLastD 0)) else some (K.stem, K.anchor)) = some (stem, anchor) ∧ DrA g { K with stem := stem, anchor := anchor } em la ea lc ec gv eb eo sv' wd := by
            rcases HOR.out with ⟨h, _⟩ | ⟨_, h⟩
            · cases h
            · exact h
          obtain ⟨stem, anchor, sv', hif, hdr⟩ := HOR2
          have hif' := hif
          rw [← HF.out.1] at hif'
          have HA1 : Hid (Anch { K with stem := stem, anchor := anchor }) := anch_if HK.out HRO.out HAN.out hif'
          have HIF : Hid ((if rs.size ≠ 0 then (numsE K.es rs).map (fun l => (l.dropLast, l.getLastD 0)) else some (K.stem, K.anchor)) = some (stem, anchor)) := hif
          obtain ⟨K1, hK1⟩ : ∃ K1 : Wk, K1 = { K with stem := stem, anchor := anchor } := ⟨_, rfl⟩
          rw [← hK1] at hdr HA1
          have HK1 : Hid (K1 = { K with stem := stem, anchor := anchor }) := hK1
          have HG1 : Hid (GoodK K1) := by show GoodK K1; rw [hK1]; exact ⟨HK.out.len, HK.out.ls, HK.out.es, HK.out.str, HK.out.name, HK.out.ent, HK.out.once⟩
          have HD1 : Hid (DrA g K1 em la ea lc ec gv eb eo sv' wd) := hdr
          clear hif hif' hK1 hdr HOR
          have HRd : Hid (wd.rowIs w.heap.size 57 5 (rvF ⟨rs, be, lv, tx, mo⟩)) := HKd.out.row HRc.out hwg
          have hzd := HKd.out.size
          obtain ⟨pa, hpa⟩ : ∃ x, x = plA K1.ls K1.anchor ⟨rs, be, lv, tx, mo⟩ := ⟨_, rfl⟩
          obtain ⟨pb, hpb⟩ : ∃ x, x = plB K1.ls K1.anchor ⟨rs, be, lv, tx, mo⟩ := ⟨_, rfl⟩
          have HCP : Hid (Calls Tryz.prog 113 #[.pointer (some ⟨g, 0, none⟩), .agg #[.string rs, .int .i64 be, .int .i64 lv, .string tx, .string mo]] wd fun e w' => e = .returned (.tuple #[.int .i64 pa, .bool pb]) ∧ Below wd.heap.size wd w') := by
            show Calls _ _ _ _ _
            rw [hpa, hpb]
            exact placeFor_any g K1 em la ea lc ec gv eb eo sv' wd ⟨rs, be, lv, tx, mo⟩ HG1.out HA1.out.anchor HD1.out
          have HPA : Hid (pa = plA K1.ls K1.anchor ⟨rs, be, lv, tx, mo⟩) := hpa
          have HPB : Hid (pb = plB K1.ls K1.anchor ⟨rs, be, lv, tx, mo⟩) := hpb
          clear hpa hpb
          have q0 : wd.cell? ⟨w.heap.size, 0, none⟩ = some (.string rs) := HRd.out.cell (i := 0) (by omega)
          have q1 : wd.cell? ⟨w.heap.size, 1, none⟩ = some (.int .i64 be) := HRd.out.cell (i := 1) (by omega)
          have q2 : wd.cell? ⟨w.heap.size, 2, none⟩ = some (.int .i64 lv) := HRd.out.cell (i := 2) (by omega)
          have q3 : wd.cell? ⟨w.heap.size, 3, none⟩ = some (.string tx) := HRd.out.cell (i := 3) (by omega)
          have q4 : wd.cell? ⟨w.heap.size, 4, none⟩ = some (.string mo) := HRd.out.cell (i := 4) (by omega)
          have HUN : Hid (ruleE insE K r = if be ≠ 0 ∧ (lv ≠ be ∨ startS K.ls anchor be < 0) then .error 11 else (if 4 < ((if 0 < lv then putS K1 (plN K.ls anchor be lv) lv else K1).stem ++ [(if 0 < lv then putS K1 (plN K.ls anchor be lv) lv else K1).anchor] ++ more).length then .error 12 else if 48 < (if 0 < lv then putS K1 (plN K.ls anchor be lv) lv else K1).ls.length ∨ 48 < (insE (if 0 < lv then putS K1 (plN K.ls anchor be lv) lv else K1).es ⟨tx, (if 0 < lv then putS K1 (plN K.ls anchor be lv) lv else K1).stem ++ [(if 0 < lv then putS K1 (plN K.ls anchor be lv) lv else K1).anchor] ++ more⟩).length then .error 13 else .ok { (if 0 < lv then putS K1 (plN K.ls anchor be lv) lv else K1) with es := insE (if 0 < lv then putS K1 (plN K.ls anchor be lv) lv else K1).es ⟨tx, (if 0 < lv then putS K1 (plN K.ls anchor be lv) lv else K1).stem ++ [(if 0 < lv then putS K1 (plN K.ls anchor be lv) lv else K1).anchor] ++ more⟩ })) := by
            show _ = _
            unfold ruleE plN
            rw [HVF.out]
            simp only
            rw [HM.out]
            simp only
            rw [HIF.out, HK1.out]
          go_wp2_with fail
          refine (HCP.out).mono ?_
          rintro e we ⟨rfl, hbe'⟩
          have HBe : Hid (Below wd.heap.size wd we) := hbe'
          have hze := HBe.out.size
          have HBBe : Hid (Below B w we) := HBd.out.trans (hbe'.mono (by omega))
          clear hbe' HCP q0 q1 q2 q3 q4
          cases pb
          · have HE : Hid (∀ wx, AppR g K r 11 wx) := fun wx => by
              have hno := pl_no HPB.out.symm
              unfold AppR
              rw [HUN.out]
              have : K1.ls = K.ls ∧ K1.anchor = anchor := by rw [HK1.out]; exact ⟨rfl, rfl⟩
              rw [this.1, this.2] at hno
              rw [if_pos hno]
            go_wp2
            go_ret
            exact ⟨11, rfl, HE.out _, HBBe⟩
          · obtain ⟨hyes, hpe, hple⟩ := pl_yes HPB.out.symm
            have hK1f : K1.ls = K.ls ∧ K1.anchor = anchor := by rw [HK1.out]; exact ⟨rfl, rfl⟩
            rw [hK1f.1, hK1f.2] at hyes hpe hple
            simp only at hyes hpe hple
            obtain ⟨p, hp⟩ : ∃ p, p = plN K.ls anchor be lv := ⟨_, rfl⟩
            have hpp : pa = (p : Nat) := by rw [HPA.out, hp, hK1f.1, hK1f.2]; exact hpe
            subst hpp
            obtain ⟨K2, hK2⟩ : ∃ K2, K2 = (if 0 < lv then putS K1 p lv else K1) := ⟨_, rfl⟩
            have HUN2 : Hid (ruleE insE K r = if 4 < (K2.stem ++ [K2.anchor] ++ more).length then .error 12 else if 48 < K2.ls.length ∨ 48 < (insE K2.es ⟨tx, K2.stem ++ [K2.anchor] ++ more⟩).length then .error 13 else .ok { K2 with es := insE K2.es ⟨tx, K2.stem ++ [K2.anchor] ++ more⟩ }) := by
              show _ = _
              rw [HUN.out, if_neg hyes, hK2, hp]
            have hn48 := HG1.out.ls
            have hpl : p ≤ K1.ls.length := by rw [hK1f.1, hp]; exact hple
            have HNAM : Hid (K1.names = (K1.ls.length : Nat)) := HG1.out.len
            have HK2 : Hid (K2 = (if 0 < lv then putS K1 p lv else K1)) := hK2
            have HDe : Hid (DrA g K1 em la ea lc ec gv eb eo sv' we) := HD1.out.below HBe.out
            have HRe : Hid (we.rowIs w.heap.size 57 5 (rvF ⟨rs, be, lv, tx, mo⟩)) := HRd.out.of_block (HBe.out.block _ (by have := HRd.out.lt; omega))
            have HKe : Hid (KeepH g wc we) := HKd.out.trans (.below HBe.out)
            clear hyes hpe hple hp hK2 HUN HPA HPB
            obtain ⟨n1, hn1⟩ : ∃ n, n = K1.ls.length := ⟨_, rfl⟩
            have HN1 : Hid (n1 = K1.ls.length) := hn1
            rw [← hn1] at hpl hn48
            clear hn1
            have q2 : we.cell? ⟨w.heap.size, 2, none⟩ = some (.int .i64 lv) := HRe.out.cell (i := 2) (by omega)
            go_upto_if 41 with (fail)
            go_cut [] from 9 (fun wf => ∃ (la' : Option Addr) (lc' gv' : Nat), Hid (DrA g K2 em la' ea lc' ec gv' eb eo sv' wf) ∧ Hid (KeepH g we wf) ∧ Hid (Below B w wf))
            case first =>
              by_cases hlv : 0 < lv
              · have HK2' : Hid (K2 = putS K1 p lv) := by show _ = _; rw [HK2.out, if_pos hlv]
                have hge := HDe.out.row.lt
                obtain ⟨⟨c0, c1, c2, c3⟩, f0, f1, f2, f3⟩ := row4F HDe.out.row
                simp only [drF] at c0 c1 c2 c3
                have c0' : we.cell? ⟨g, 0, none⟩ = some (.slice la n1 lc) := by rw [HN1.out]; exact c0
                have c3' : we.cell? ⟨g, 3, none⟩ = some (.int .i64 K1.anchor) := c3
                clear c0 c1 c2 c3
                have HR3 : Hid ((we.setCell ⟨g, 3, none⟩ (.int .i64 (n1 : Nat))).rowIs g 122 4 (drF la n1 lc ea em.length ec sv' (n1 : Nat))) := by
                  show World.rowIs _ _ _ _ _
                  rw [HN1.out]
                  exact (HDe.out.row.set 3 _).congr fun j hj => by
                    have : j = 0 ∨ j = 1 ∨ j = 2 ∨ j = 3 := by omega
                    rcases this with rfl | rfl | rfl | rfl <;> rfl
                have HO3 : Hid (OnlyRow g we (we.setCell ⟨g, 3, none⟩ (.int .i64 (n1 : Nat)))) := OnlyRow.setCell _ _ _ _
                go_upto_region 11 with (fail)
                generalize we.setCell ⟨g, 3, none⟩ (.int .i64 (n1 : Nat)) = W2 at HR3 HO3 ⊢
                have hgW2 := HR3.out.lt
                obtain ⟨⟨d0, d1, d2, d3⟩, _⟩ := row4F HR3.out
                simp only [drF] at d0 d1 d2 d3
                have d0' : W2.cell? ⟨g, 0, none⟩ = some (.slice la n1 lc) := d0
                have d3' : W2.cell? ⟨g, 3, none⟩ = some (.int .i64 (n1 : Nat)) := d3
                have s2 : W2.cell? ⟨w.heap.size, 2, none⟩ = some (.int .i64 lv) := HO3.out.cell q2 (by show w.heap.size ≠ g; exact hwg)
                have hzW2 : w.heap.size < W2.heap.size := (HO3.out.row HRe.out hwg).lt
                have HMI : Hid (MemIn W2.heap.size W2 la gv K1.ls) := HDe.out.list.keep (.only HO3.out) HDe.out.farL
                have HCM : Hid (Calls Tryz.prog 114 #[.slice la n1 lc, .int .i64 (p : Nat), .agg #[.int .i64 (n1 : Nat), .int .i64 lv, .bool true, .int .i64 0, .int .i64 0, .int .i64 0]] W2.drew fun e w' => ∃ (a : Option Addr) (c n : Nat), e = .returned (.slice a n c) ∧ Hid (n = (K1.ls.take p ++ [Sp.mk (n1 : Nat) lv false 0 0 0] ++ K1.ls.drop p).length ∧ w'.ownsRow W2.heap.size 145 6 (.slice a n c) n (memC (K1.ls.take p ++ [Sp.mk (n1 : Nat) lv false 0 0 0] ++ K1.ls.drop p))) ∧ Below W2.heap.size W2.drew w') := by
                  have := withMember_any la lc gv K1.ls p (n1 : Nat) lv W2.drew (by have := HN1.out; omega) (by rw [← HN1.out]; exact hpl) (HMI.out.below (Below.refl _ _).drew)
                  rw [← HN1.out] at this
                  exact this
                clear d0 d1 d2 d3 f0 f1 f2 f3 c0' c3'
                go_region_with (go_at_call 114; refine (HCM.out).mono ?_; rintro e wq ⟨a', c', n', rfl, HOq, hbq⟩; have hrq := (HR3.out.drew).of_block (hbq.block _ hgW2); have t0 := hrq.cell (i := 0) (by omega); have tf := hrq.frozen 0)
                all_goals
                  have hkk : KeepH g W2 wq := KeepH.trans (.below (Below.refl _ _).drew) (.below hbq)
                  have hOq : OnlyRow g wq (wq.setCell ⟨g, 0, none⟩ (.slice a' n' c')) := OnlyRow.setCell _ _ _ _
                  have HKF : Hid (KeepH g we (wq.setCell ⟨g, 0, none⟩ (.slice a' n' c'))) := (KeepH.only HO3.out).trans (hkk.trans (.only hOq))
                  have HBF : Hid (Below B w (wq.setCell ⟨g, 0, none⟩ (.slice a' n' c'))) := hOq.below ((HO3.out.below HBBe.out hB).drew.trans (hbq.mono (by omega))) hB
                  have hrow : (wq.setCell ⟨g, 0, none⟩ (.slice a' n' c')).rowIs g 122 4 (drF a' n' c' ea em.length ec sv' (K1.ls.length : Nat)) := by
                    rw [← HN1.out]
                    exact (hrq.set 0 _).congr fun j hj => by
                      have : j = 0 ∨ j = 1 ∨ j = 2 ∨ j = 3 := by omega
                      rcases this with rfl | rfl | rfl | rfl <;> rfl
                  have hoo := HOq.out
                  rw [HN1.out] at hoo
                  have hput := HDe.out.put HNAM.out ((KeepH.only HO3.out).trans hkk) hOq hrow hoo.1 hgW2 hoo.2
                  rw [← HK2'.out] at hput
                  have HPUT : Hid (∃ gm, DrA g K2 em a' ea c' ec gm eb eo sv' (wq.setCell ⟨g, 0, none⟩ (.slice a' n' c'))) := hput
                  clear hkk hOq hrow hoo hput t0 tf hrq hbq
                  go_wp2
                  go_meet
                  obtain ⟨gm, hgm⟩ := HPUT.out
                  exact ⟨a', c', gm, hgm, HKF, HBF⟩
              · have HK2' : Hid (K2 = K1) := by show _ = _; rw [HK2.out, if_neg hlv]
                have hlv' : lv ≤ 0 := by omega
                go_wp2
                go_meet
                exact ⟨la, lc, gv, by show DrA _ _ _ _ _ _ _ _ _ _ _ _; rw [HK2'.out]; exact HDe.out, .below (Below.refl _ _), HBBe⟩
            case rest =>
              rename World => wf
              obtain ⟨la', lc', gv', HDf, HKf, HBf⟩ := hcut
              clear q2
              have hgf := HDf.out.row.lt
              have hzf := HKf.out.size
              have HRf : Hid (wf.rowIs w.heap.size 57 5 (rvF ⟨rs, be, lv, tx, mo⟩)) := HKf.out.row HRe.out hwg
              have hwf := HRf.out.lt
              have hsl : K2.stem.length ≤ 100 := by
                have h1 : K2.stem = K1.stem := by rw [HK2.out]; split <;> rfl
                rw [h1]; exact HA1.out.len
              have HMf : Hid (SlIn wf.heap.size wf (.slice a n c) more) := HSM.out.1.keep (HKe.out.trans HKf.out).cells HSM.out.2
              have HCJ : Hid (Calls Tryz.prog 115 #[sv', .int .i64 K2.anchor, .slice a n c] wf.drew fun e w' => ∃ (a : Option Addr) (c : Nat), e = .returned (.slice a (K2.stem ++ [K2.anchor] ++ more).length c) ∧ Hid (w'.ownsRow wf.heap.size 3 1 (.slice a (K2.stem ++ [K2.anchor] ++ more).length c) (K2.stem ++ [K2.anchor] ++ more).length ((K2.stem ++ [K2.anchor] ++ more).map (Value.int .i64))) ∧ Below wf.heap.size wf.drew w') := joined_any sv' (.slice a n c) K2.stem more K2.anchor wf.drew (HDf.out.stem.below (Below.refl _ _).drew) (HMf.out.below (Below.refl _ _).drew) hsl (by have := HNM.out; omega)
              obtain ⟨⟨c0, c1, c2, c3⟩, _⟩ := row4F HDf.out.row
              simp only [drF] at c0 c1 c2 c3
              have c2' : wf.cell? ⟨g, 2, none⟩ = some sv' := c2
              have c3' : wf.cell? ⟨g, 3, none⟩ = some (.int .i64 K2.anchor) := c3
              clear c0 c1 c2 c3
              obtain ⟨zs, hzs⟩ : ∃ zs, zs = K2.stem ++ [K2.anchor] ++ more := ⟨_, rfl⟩
              have HZS : Hid (zs = K2.stem ++ [K2.anchor] ++ more) := hzs
              rw [← hzs] at HCJ HUN2
              have hz1 : 1 ≤ zs.length := by rw [hzs]; simp; omega
              have hz125 : zs.length ≤ 125 := by have := HNM.out; rw [hzs]; simp; omega
              clear hzs
              obtain ⟨ssv, hssv⟩ : ∃ x, sv' = x := ⟨_, rfl⟩
              have hsh := HDf.out.stem.shape
              obtain ⟨sa, sn, sc, hsv⟩ : ∃ sa sn sc, sv' = .slice sa sn sc := ⟨_, _, _, hsh⟩
              subst hsv
              clear hsh hssv
              go_upto_region 12 with (fail)
              go_cut [8] from 9 (fun v8 wg => ∃ (a8 : Option Addr) (n8 c8 : Nat), v8 = .slice a8 n8 c8 ∧ n8 ≤ 125 ∧ Hid (n8 = zs.length) ∧ Hid (wg.ownsRow wf.heap.size 3 1 (.slice a8 n8 c8) n8 (zs.map (Value.int .i64))) ∧ Hid (Below wf.heap.size wf wg))
              case first =>
                go_region_with (go_at_call 115; refine (HCJ.out).mono ?_; rintro e w1 ⟨a8, c8, rfl, ho8, hb8⟩)
                all_goals
                  go_wp2
                  go_meet
                  exact ⟨a8, _, c8, rfl, hz125, rfl, ho8, (Below.refl _ _).drew.trans hb8⟩
              case rest =>
                rename World => wg
                obtain ⟨a8, n8, c8, rfl, h125, HN8, HO8, HBg⟩ := hcut
                have hzg := HBg.out.size
                have HBBg : Hid (Below B w wg) := HBf.out.trans (HBg.out.mono (by omega))
                clear c2' c3' HCJ
                by_cases h4 : 4 < n8
                · have HE : Hid (∀ wx, AppR g K r 12 wx) := fun wx => by
                    unfold AppR
                    rw [HUN2.out, if_pos (by rw [← HN8.out]; exact h4)]
                  go_wp2
                  go_ret
                  exact ⟨12, rfl, HE.out _, HBBg⟩
                · have HDg : Hid (DrA g K2 em la' ea lc' ec gv' eb eo (.slice sa sn sc) wg) := HDf.out.below HBg.out
                  have HRg : Hid (wg.rowIs w.heap.size 57 5 (rvF ⟨rs, be, lv, tx, mo⟩)) := HRf.out.of_block (HBg.out.block _ hwf)
                  have hgg := HDg.out.row.lt
                  have hwg' := HRg.out.lt
                  obtain ⟨x, hx⟩ : ∃ x : Em, x = (⟨tx, zs⟩, .slice a8 n8 c8) := ⟨_, rfl⟩
                  have HX1 : Hid (x.1 = ⟨tx, zs⟩ ∧ x.2 = .slice a8 n8 c8) := by show _ ∧ _; rw [hx]; exact ⟨rfl, rfl⟩
                  clear hx
                  have HESL : Hid (esM em = K2.es) := HDf.out.es
                  have hem : em.length ≤ 48 := by
                    have h1 : em.length = (esM em).length := (List.length_map _).symm
                    have h2 : K2.es = K1.es := by rw [HK2.out]; split <;> rfl
                    rw [h1, HESL.out, h2]; exact HG1.out.es
                  have HCE : Hid (Calls Tryz.prog 116 #[.slice ea em.length ec, .agg #[.string tx, .slice a8 n8 c8]] wg.drew fun e w' => ∃ (a : Option Addr) (c n : Nat) (em' : List Em), e = .returned (.slice a n c) ∧ Hid (n = em'.length ∧ esM em' = insE (esM em) x.1 ∧ (∀ y ∈ em', y = x ∨ y ∈ em) ∧ w'.ownsRow wg.heap.size 63 2 (.slice a n c) n (emC em')) ∧ Below wg.heap.size wg.drew w') := by
                    have := withEntry_any ea ec eb eo em x a8 n8 c8 wg.drew (by omega) HX1.out.2 (HDg.out.ents.below (Below.refl _ _).drew) (fun y hy => ⟨_, _, _, (HDg.out.ents.ints y hy).shape⟩)
                    rw [HX1.out.1] at this
                    rw [HX1.out.1]
                    exact this
                  obtain ⟨⟨c0, c1, c2, c3⟩, f0, f1, f2, f3⟩ := row4F HDg.out.row
                  simp only [drF] at c0 c1 c2 c3
                  have c1' : wg.cell? ⟨g, 1, none⟩ = some (.slice ea em.length ec) := c1
                  have q3 : wg.cell? ⟨w.heap.size, 3, none⟩ = some (.string tx) := HRg.out.cell (i := 3) (by omega)
                  clear c0 c1 c2 c3 f0 f1 f2 f3
                  obtain ⟨m0, hm0⟩ : ∃ m, m = em.length := ⟨_, rfl⟩
                  have HM0 : Hid (m0 = em.length) := hm0
                  rw [← hm0] at HCE c1'
                  clear hm0
                  go_upto_region 15 with (fail)
                  go_cut [] from 9 (fun wh => ∃ (em' : List Em) (ea' : Option Addr) (ec' eb' m' : Nat), Hid (m' = em'.length ∧ esM em' = insE K2.es ⟨tx, zs⟩) ∧ Hid (DrA g { K2 with es := esM em' } em' la' ea' lc' ec' gv' eb' 0 (.slice sa sn sc) wh) ∧ Hid (Below B w wh) ∧ m' ≤ 1000)
                  case first =>
                    go_region_with (go_at_call 116; refine (HCE.out).mono ?_; rintro e wq ⟨ea', ec', m', em', rfl, HOq, hbq⟩; have hrq := (HDg.out.row.drew).of_block (hbq.block _ hgg); have t1 := hrq.cell (i := 1) (by omega); have tf := hrq.frozen 1)
                    all_goals
                      have hkk : KeepH g wg wq := KeepH.trans (.below (Below.refl _ _).drew) (.below hbq)
                      have hOq : OnlyRow g wq (wq.setCell ⟨g, 1, none⟩ (.slice ea' m' ec')) := OnlyRow.setCell _ _ _ _
                      have HBF : Hid (Below B w (wq.setCell ⟨g, 1, none⟩ (.slice ea' m' ec'))) := hOq.below (HBBg.out.drew.trans (hbq.mono (by omega))) hB
                      have hrow : (wq.setCell ⟨g, 1, none⟩ (.slice ea' m' ec')).rowIs g 122 4 (drF la' K2.ls.length lc' ea' m' ec' (.slice sa sn sc) K2.anchor) := (hrq.set 1 _).congr fun j hj => by
                        have : j = 0 ∨ j = 1 ∨ j = 2 ∨ j = 3 := by omega
                        rcases this with rfl | rfl | rfl | rfl <;> rfl
                      have hsl8 : SlIn wg.heap.size wg (.slice a8 n8 c8) zs := SlIn.own HN8.out (by omega) HO8.out
                      have hsf8 : aB a8 ≠ g := by
                        obtain ⟨vo, vc, gq, hv, hva, _⟩ := ownC_cells HO8.out
                        injection hv with hv1 _ _
                        have h3 := hva (by rw [HN8.out]; omega)
                        rw [hv1, h3.1]
                        show gq ≠ g
                        omega
                      have hx2 : SlIn wq.heap.size wq x.2 x.1.zs := by
                        rw [HX1.out.1, HX1.out.2]
                        exact hsl8.keep hkk.cells (fun _ => hsf8)
                      have hent := HDg.out.ent hkk hOq hrow HOq.out.1 hgg HOq.out.2.2.2 HOq.out.2.2.1 hx2 (by rw [HX1.out.1, HX1.out.2]; exact fun _ => hsf8)
                      have hes : esM em' = insE K2.es ⟨tx, zs⟩ := by rw [HOq.out.2.1, HESL.out, HX1.out.1]
                      have HENT : Hid ((m' = em'.length ∧ esM em' = insE K2.es ⟨tx, zs⟩) ∧ (∃ eb', DrA g { K2 with es := esM em' } em' la' ea' lc' ec' gv' eb' 0 (.slice sa sn sc) (wq.setCell ⟨g, 1, none⟩ (.slice ea' m' ec'))) ∧ m' ≤ 1000) := by
                        refine ⟨⟨HOq.out.1, hes⟩, hent, ?_⟩
                        have h1 : em'.length = (esM em').length := (List.length_map _).symm
                        have h2 := insE_len K2.es ⟨tx, zs⟩
                        have h3 : (esM em).length = em.length := List.length_map _
                        rw [← HESL.out, h3] at h2
                        rw [HOq.out.1, h1, hes, ← HESL.out]
                        omega
                      clear hkk hOq hrow hsl8 hsf8 hx2 hent hes t1 tf hrq hbq HOq
                      go_wp2
                      go_meet
                      obtain ⟨h1, ⟨eb', h2⟩, h3⟩ := HENT.out
                      exact ⟨em', ea', ec', eb', m', h1, h2, HBF, h3⟩
                  case rest =>
                    rename World => wh
                    obtain ⟨em', ea', ec', eb', m', HEm, HDh, HBh, hm1000⟩ := hcut
                    clear c1' q3 HCE
                    obtain ⟨⟨c0, c1, c2, c3⟩, _⟩ := row4F HDh.out.row
                    simp only [drF] at c0 c1
                    rw [← HEm.out.1] at c1
                    have HLN : Hid ((insE K2.es ⟨tx, zs⟩).length = m') := by show _ = _; rw [← HEm.out.2, HEm.out.1]; exact List.length_map _
                    have HKN : Hid ({ K2 with es := esM em' } = { K2 with es := insE K2.es ⟨tx, zs⟩ }) := by show _ = _; rw [HEm.out.2]
                    have hn49 : K2.ls.length ≤ 49 := by
                      have h1 := HG1.out.ls
                      rw [HK2.out]
                      split
                      · show (K1.ls.take p ++ [Sp.mk K1.names lv false 0 0 0] ++ K1.ls.drop p).length ≤ 49
                        simp
                        omega
                      · omega
                    obtain ⟨n2, hn2⟩ : ∃ n, n = K2.ls.length := ⟨_, rfl⟩
                    have HN2 : Hid (n2 = K2.ls.length) := hn2
                    have c0' : wh.cell? ⟨g, 0, none⟩ = some (.slice la' n2 lc') := by rw [hn2]; exact c0
                    have c1' : wh.cell? ⟨g, 1, none⟩ = some (.slice ea' m' ec') := c1
                    rw [← hn2] at hn49
                    clear c0 c1 c2 c3 hn2
                    by_cases h48 : 48 < n2
                    · have HE : Hid (∀ wx, AppR g K r 13 wx) := fun wx => by
                        unfold AppR
                        rw [HUN2.out, if_neg (by rw [← HN8.out]; exact h4), if_pos (.inl (by rw [← HN2.out]; exact h48))]
                      go_wp2
                      go_ret
                      exact ⟨13, rfl, HE.out _, HBh⟩
                    · have h48' : n2 ≤ 48 := by omega
                      by_cases hm48 : 48 < m'
                      · have HE : Hid (∀ wx, AppR g K r 13 wx) := fun wx => by
                          unfold AppR
                          rw [HUN2.out, if_neg (by rw [← HN8.out]; exact h4), if_pos (.inr (by rw [HLN.out]; exact hm48))]
                        go_wp2
                        go_ret
                        exact ⟨13, rfl, HE.out _, HBh⟩
                      · have hm48' : m' ≤ 48 := by omega
                        have HE : Hid (AppR g K r 0 wh) := by
                          show AppR _ _ _ _ _
                          unfold AppR
                          rw [HUN2.out, if_neg (by rw [← HN8.out]; exact h4), if_neg (by rw [← HN2.out, HLN.out]; omega)]
                          exact ⟨rfl, em', la', ea', lc', ec', gv', eb', 0, _, by rw [← HKN.out]; exact HDh.out⟩
                        go_wp2
                        go_ret
                        exact ⟨0, rfl, HE, HBh⟩
        · have HE : Hid (∀ wx, AppR g K r 10 wx) := fun wx => by
            rcases HOR.out with ⟨_, hno⟩ | ⟨h, _⟩
            · unfold AppR ruleE
              rw [HVF.out]
              simp only
              rw [HM.out]
              simp only
              rw [hno]
            · cases h
          go_wp2
          go_ret
          exact ⟨10, rfl, HE.out _, HBd⟩

end Go.Proofs.YtpclldccjpncdabGreat

namespace Go.Proofs.YtpclldccjpncdabGreat
open Go.RowKit

/-- the nodes of a text, in memory -/
abbrev NodesL (L : Lay) (w : World) (ao : Option Addr) (l : List Nat) (b : Nat) : Prop := NodesIn w.heap.size w ao l.length b 0 (fun i => L.p (l.getD i 0)) (fun i => L.s (l.getD i 0)) (fun i => L.t (l.getD i 0))

theorem nodesOf_n (L : Lay) (s : ByteArray) (w : World) (h : L.In w.heap.size w) (hok : L.Ok) (hs : s.size ≤ 24) :
    Calls Tryz.prog 72 #[.agg #[.slice L.na L.n L.nc, .slice L.ea L.m L.ec], .string s] w fun e w' => Below w.heap.size w w' ∧ (nodesN L s).length ≤ 96 ∧
      ((hasP L s ∧ ∃ ao cap b, e = .returned (.tuple #[.slice ao (nodesN L s).length cap, .bool true]) ∧ NodesL L w' ao (nodesN L s) b) ∨ (¬ hasP L s ∧ e = .returned (.tuple #[.slice none 0 0, .bool false]))) := by
  refine (nodesOf_any L s w h hok hs).mono ?_
  rintro e w' ⟨q, hq, hb, hor⟩
  have hN := cutN_eq hq
  have h1 := pos_ge q hq.go
  have h2 := pos_le L.m L.tx s q
  have h3 := nums_len hok q hq.go
  unfold hasP nodesN
  rw [hN]
  exact ⟨hb, by omega, hor⟩

theorem cmpE_err {L : Lay} {a b : ByteArray} {lev : Int} (h : L.err ≠ 0) : cmpE L a b lev = L.err := by simp [cmpE, h]
theorem cmpE_long {L : Lay} {a b : ByteArray} {lev : Int} (h : L.err = 0) (h2 : 24 < a.size ∨ 24 < b.size) : cmpE L a b lev = 4 := by simp [cmpE, h, h2]
theorem cmpE_level {L : Lay} {a b : ByteArray} {lev : Int} (h : L.err = 0) (ha : a.size ≤ 24) (hb : b.size ≤ 24) (h3 : lev < 1 ∨ 3 < lev) : cmpE L a b lev = 5 := by
  have : ¬ (24 < a.size ∨ 24 < b.size) := by omega
  simp [cmpE, h, this, h3]
theorem cmpE_text {L : Lay} {a b : ByteArray} {lev : Int} (h : L.err = 0) (ha : a.size ≤ 24) (hb : b.size ≤ 24) (h3 : 1 ≤ lev) (h4 : lev ≤ 3) (h5 : ¬ hasP L a ∨ ¬ hasP L b) : cmpE L a b lev = 6 := by
  have h1 : ¬ (24 < a.size ∨ 24 < b.size) := by omega
  have h2 : ¬ (lev < 1 ∨ 3 < lev) := by omega
  simp only [cmpE, h, h1, h2, h5, ne_eq, not_true_eq_false, if_false, if_true]
theorem cmpE_ok {L : Lay} {a b : ByteArray} {lev : Int} (h : L.err = 0) (ha : a.size ≤ 24) (hb : b.size ≤ 24) (h3 : 1 ≤ lev) (h4 : lev ≤ 3) (h5 : hasP L a) (h6 : hasP L b) : cmpE L a b lev = 0 := by
  have h1 : ¬ (24 < a.size ∨ 24 < b.size) := by omega
  have h2 : ¬ (lev < 1 ∨ 3 < lev) := by omega
  have h7 : ¬ (¬ hasP L a ∨ ¬ hasP L b) := by simp [h5, h6]
  simp only [cmpE, h, h1, h2, h7, ne_eq, not_true_eq_false, if_false]
theorem cmpV_no {L : Lay} {a b : ByteArray} {lev : Int} (h : cmpE L a b lev ≠ 0) : cmpV L a b lev = 0 := by simp [cmpV, h]
theorem cmpV_ok {L : Lay} {a b : ByteArray} {lev : Int} (h : cmpE L a b lev = 0) : cmpV L a b lev = cmpFrom L a b lev.toNat 1 := by simp [cmpV, h]
theorem ret_two {x x' y y' : Int} (h1 : x = x') (h2 : y = y') : Ending.returned (.tuple #[.int .i64 x, .int .i64 y]) = .returned (.tuple #[.int .i64 x', .int .i64 y']) := by rw [h1, h2]

set_option maxRecDepth 100000 in
set_option maxHeartbeats 2000000 in
theorem tableCompare_any (L : Lay) (a b : ByteArray) (lev : Int) (w : World) (h : L.In w.heap.size w) :
    Calls Tryz.prog 41 #[.agg #[.slice L.na L.n L.nc, .slice L.ea L.m L.ec], .string a, .string b, .int .i64 lev] w fun e w' => e = .returned (.tuple #[.int .i64 (cmpV L a b lev), .int .i64 (cmpE L a b lev)]) ∧ Below w.heap.size w w' := by
  have HL : Hid (∀ w', Below w.heap.size w w' → L.In w'.heap.size w') := fun w' hb => h.later hb
  clear h
  by_cases he : L.err = 0
  · by_cases ha : a.size ≤ 24
    · by_cases hb : b.size ≤ 24
      · by_cases hl : 1 ≤ lev ∧ lev ≤ 3
        · obtain ⟨hl1, hl3⟩ := hl
          have HOK : Hid L.Ok := err_zero he
          have hlv : decide (1 ≤ lev ∧ lev ≤ 3) = true := by simp [hl1, hl3]
          go_enter Tryz.func41, Tryz.ntmps41
          go_wp2_with (first
            | (go_at_call 36; refine (tableValid_any L _ (HL.out _ (below_one _))).mono ?_; rintro e w1 ⟨rfl, hb1⟩; obtain ⟨hc, hf⟩ := bcell hb1; have hz1 : w.heap.size < w1.heap.size := by have := hb1.size; simp at this; omega)
            | (go_at_call 71; refine (isLevel_any _ _).mono ?_; rintro e _ ⟨rfl, rfl⟩))
          refine (nodesOf_n L a _ (HL.out _ (below_then (below_one _) hb1)) HOK.out ha).mono ?_
          rintro e w2 ⟨hb2, hlen2, hor2⟩
          obtain ⟨hc2, hf2⟩ := bcell hb2
          have hz2 : w.heap.size < w2.heap.size := by have := hb2.size; omega
          rcases hor2 with ⟨hpa, ao, acap, ab, rfl, hna⟩ | ⟨hpa, rfl⟩
          · have HNA : Hid (NodesL L w2 ao (nodesN L a) ab) := hna
            clear hna
            go_wp2_with fail
            refine (nodesOf_n L b _ (HL.out _ (below_then (below_then (below_one _) hb1) hb2)) HOK.out hb).mono ?_
            rintro e w3 ⟨hb3, hlen3, hor3⟩
            have HBW : Hid (Below w.heap.size w w3) := below_then (below_then (below_then (below_one _) hb1) hb2) hb3
            rcases hor3 with ⟨hpb, bo, bcap, bb, rfl, hnb⟩ | ⟨hpb, rfl⟩
            · have HNB : Hid (NodesL L w3 bo (nodesN L b) bb) := hnb
              have HNA3 : Hid (NodesL L w3 ao (nodesN L a) ab) := (HNA.out.below hb3).mono hb3.size
              have HE : Hid (cmpE L a b lev = 0) := cmpE_ok he ha hb hl1 hl3 hpa hpb
              clear hnb HNA hc hf hc2 hf2
              obtain ⟨t, ht⟩ : ∃ t : Nat, lev = t := ⟨lev.toNat, by omega⟩
              subst ht
              go_wp2
              go_loopw [15] (fun kv wr => ∃ k : Nat, 1 ≤ k ∧ k ≤ t + 1 ∧ kv = .int .i64 k ∧ Below w3.heap.size w3 wr ∧ cmpFrom L a b t 1 = cmpFrom L a b (t + 1 - k) k) (fun kv _ => t + 1 - (intOf kv).toNat)
              case atStart => exact ⟨1, by omega, by omega, rfl, Below.refl _ _, by simp⟩
              case round =>
                obtain ⟨k, hk1, hk2, rfl, hbel, hcf⟩ := hrel
                have HCF : Hid (cmpFrom L a b t 1 = cmpFrom L a b (t + 1 - k) k) := hcf
                clear hcf
                by_cases hkt : k ≤ t
                · have HST : Hid (cmpFrom L a b (t + 1 - k) k = if cmpL (wl L a k) (wl L b k) ≠ 0 then cmpL (wl L a k) (wl L b k) else cmpFrom L a b (t + 1 - (k + 1)) (k + 1)) := by
                    show _ = _
                    rw [show t + 1 - k = (t + 1 - (k + 1)) + 1 by omega]
                    rfl
                  go_wp2_with fail
                  refine (weights_any L (nodesN L a) k ao ab 0 acap _ (by omega) hk1 (by omega) ((HNA3.out.below hbel).mono hbel.size)).mono ?_
                  rintro e w4 ⟨pa, pcap, pb, rfl, hia, hb4⟩
                  have HIA : Hid (IntsL w4.heap.size w4 pa (wts L k (nodesN L a)) pb 0) := hia
                  clear hia
                  go_wp2_with fail
                  refine (weights_any L (nodesN L b) k bo bb 0 bcap _ (by omega) hk1 (by omega) ((HNB.out.below (below_then hbel hb4)).mono (below_then hbel hb4).size)).mono ?_
                  rintro e w5 ⟨qa, qcap, qb, rfl, hib, hb5⟩
                  have HIB : Hid (IntsL w5.heap.size w5 qa (wts L k (nodesN L b)) qb 0) := hib
                  clear hib
                  go_wp2_with fail
                  refine (compareWeights_any _ _ _ _ _ _ _ _ _ _ _ ((HIA.out.below hb5).mono hb5.size) HIB.out).mono ?_
                  rintro e w6 ⟨rfl, hb6⟩
                  obtain ⟨x, hx⟩ : ∃ x, x = cmpL (wts L k (nodesN L a)) (wts L k (nodesN L b)) := ⟨_, rfl⟩
                  rw [← hx]
                  have HX : Hid (x = cmpL (wl L a k) (wl L b k)) := hx
                  clear hx
                  have HBL : Hid (Below w3.heap.size w3 w6) := below_then (below_then (below_then hbel hb4) hb5) hb6
                  by_cases hx0 : x = 0
                  · go_wp2
                    go_roundw
                    case rel => exact ⟨k + 1, by omega, by omega, by go_num, HBL.out, by rw [HCF.out, HST.out, if_neg (by rw [← HX.out]; simpa using hx0)]⟩
                    case measure => simp [intOf]; omega
                  · go_wp2
                    go_ret2
                    refine ⟨ret_two ?_ HE.out.symm, below_then HBW.out HBL.out⟩
                    rw [cmpV_ok HE.out, show (t : Int).toNat = t by omega, HCF.out, HST.out, if_pos (by rw [← HX.out]; exact hx0)]
                    exact HX.out
                · go_wp2
                  go_ret2
                  refine ⟨ret_two ?_ HE.out.symm, below_then HBW.out hbel⟩
                  have hke : t + 1 - k = 0 := by omega
                  rw [cmpV_ok HE.out, show (t : Int).toNat = t by omega, HCF.out, hke]
                  rfl
            · have HE : Hid (cmpE L a b lev = 6) := cmpE_text he ha hb hl1 hl3 (.inr hpb)
              go_wp2
              go_ret2
              exact ⟨ret_two (cmpV_no (by rw [HE.out]; decide)).symm HE.out.symm, HBW.out⟩
          · have HE : Hid (cmpE L a b lev = 6) := cmpE_text he ha hb hl1 hl3 (.inl hpa)
            go_wp2_with fail
            refine (nodesOf_n L b _ (HL.out _ (below_then (below_then (below_one _) hb1) hb2)) HOK.out hb).mono ?_
            rintro e w3 ⟨hb3, hlen3, hor3⟩
            have HBW : Hid (Below w.heap.size w w3) := below_then (below_then (below_then (below_one _) hb1) hb2) hb3
            rcases hor3 with ⟨hpb, bo, bcap, bb, rfl, hnb⟩ | ⟨hpb, rfl⟩
            · clear hnb
              go_wp2
              go_ret2
              exact ⟨ret_two (cmpV_no (by rw [HE.out]; decide)).symm HE.out.symm, HBW.out⟩
            · go_wp2
              go_ret2
              exact ⟨ret_two (cmpV_no (by rw [HE.out]; decide)).symm HE.out.symm, HBW.out⟩
        · have hlv : decide (1 ≤ lev ∧ lev ≤ 3) = false := by simpa using hl
          have hE : cmpE L a b lev = 5 := cmpE_level he ha hb (by omega)
          have HE : Hid (cmpE L a b lev = 5) := hE
          clear hE
          go_enter Tryz.func41, Tryz.ntmps41
          go_wp2_with (first
            | (go_at_call 36; refine (tableValid_any L _ (HL.out _ (below_one _))).mono ?_; rintro e w1 ⟨rfl, hb1⟩)
            | (go_at_call 71; refine (isLevel_any _ _).mono ?_; rintro e _ ⟨rfl, rfl⟩))
          go_ret2
          exact ⟨ret_two (cmpV_no (by rw [HE.out]; decide)).symm HE.out.symm, below_then (below_one _) hb1⟩
      · have HE : Hid (cmpE L a b lev = 4) := cmpE_long he (by omega)
        go_enter Tryz.func41, Tryz.ntmps41
        go_wp2_with (first
          | (go_at_call 36; refine (tableValid_any L _ (HL.out _ (below_one _))).mono ?_; rintro e w1 ⟨rfl, hb1⟩))
        go_ret2
        exact ⟨ret_two (cmpV_no (by rw [HE.out]; decide)).symm HE.out.symm, below_then (below_one _) hb1⟩
    · have HE : Hid (cmpE L a b lev = 4) := cmpE_long he (by omega)
      go_enter Tryz.func41, Tryz.ntmps41
      go_wp2_with (first
        | (go_at_call 36; refine (tableValid_any L _ (HL.out _ (below_one _))).mono ?_; rintro e w1 ⟨rfl, hb1⟩))
      go_ret2
      exact ⟨ret_two (cmpV_no (by rw [HE.out]; decide)).symm HE.out.symm, below_then (below_one _) hb1⟩
  · have HE : Hid (cmpE L a b lev = L.err) := cmpE_err he
    go_enter Tryz.func41, Tryz.ntmps41
    go_wp2_with (first
      | (go_at_call 36; refine (tableValid_any L _ (HL.out _ (below_one _))).mono ?_; rintro e w1 ⟨rfl, hb1⟩))
    go_ret2
    exact ⟨ret_two (cmpV_no (by rw [HE.out]; exact he)).symm HE.out.symm, below_then (below_one _) hb1⟩


set_option maxHeartbeats 400000 in
theorem compare_any (L : Lay) (a b : ByteArray) (lev : Int) (w : World) (h : L.In w.heap.size w) :
    Calls Tryz.prog 18 #[.agg #[.slice L.na L.n L.nc, .slice L.ea L.m L.ec], .string a, .string b, .int .i64 lev] w fun e w' => e = .returned (.tuple #[.int .i64 (cmpV L a b lev), .int .i64 (cmpE L a b lev)]) ∧ Below w.heap.size w w' := by
  have HL : Hid (∀ w', Below w.heap.size w w' → L.In w'.heap.size w') := fun w' hb => h.later hb
  clear h
  go_enter Tryz.func18, Tryz.ntmps18
  go_wp2_with (go_at_call 41; refine (tableCompare_any L _ _ _ _ (HL.out _ (below_one _))).mono ?_; rintro e w1 ⟨rfl, hb1⟩)
  go_ret2
  exact ⟨rfl, below_then (below_one _) hb1⟩

end Go.Proofs.YtpclldccjpncdabGreat

namespace Go.Proofs.YtpclldccjpncdabGreat
open Go.RowKit

theorem infoStr : (Tryz.prog.info? 9).map (fun i => (i.zero, i.size, i.bytes)) = some (some (.string ByteArray.empty), 1, 16) := by kernel_rfl
theorem strs_of_own {w : World} {base : Nat} {e : TypeId} {v : Value} {n : Nat} {u : Nat → ByteArray} (hn : n ≤ 1000) (ho : w.ownsRow base e 1 v n ((List.range n).map fun j => .string (u j))) : ∃ ao cap b, v = .slice ao n cap ∧ StrsIn w.heap.size w ao n b 0 u := by
  obtain ⟨vo, vc, gv, rfl, ha, hc⟩ := own_cells ho
  refine ⟨vo, vc, gv, rfl, ⟨fun h0 => (ha h0).1, fun h0 => (ha h0).2.1, fun i hi => ?_, hn⟩⟩
  have := hc i (.string (u i)) (by omega) (by simp [hi])
  simpa using this

set_option maxRecDepth 100000 in
set_option maxHeartbeats 1000000 in
theorem tablePieces_any (L : Lay) (s : ByteArray) (w : World) (h : L.In w.heap.size w) :
    Calls Tryz.prog 39 #[.agg #[.slice L.na L.n L.nc, .slice L.ea L.m L.ec], .string s] w fun e w' => ∃ v er, e = .returned (.tuple #[v, .int .i64 er]) ∧ PiecesAns L s v er w' ∧ Below w.heap.size w w' := by
  have HL : Hid (∀ w', Below w.heap.size w w' → L.In w'.heap.size w') := fun w' hb => h.later hb
  clear h
  by_cases he : L.err = 0
  · by_cases hs : s.size ≤ 24
    · have hok := err_zero he
      have hm := hok.m
      have htx := hok.tx
      have HOK : Hid (L.Ok) := hok
      have HTX : Hid (∀ i, i < L.m → 1 ≤ (L.tx i).size ∧ (L.tx i).size ≤ 3) := htx
      clear hok htx
      obtain ⟨i0, hi0, hq0, hq1, hq2⟩ := info_parts infoStr
      go_enter Tryz.func39, Tryz.ntmps39
      go_wp2_with (first
        | (go_at_call 36; refine (tableValid_any L _ (HL.out _ (below_one _))).mono ?_; rintro e w1 ⟨rfl, hb1⟩; obtain ⟨hc, hf⟩ := bcell hb1; have hz1 : w.heap.size < w1.heap.size := by have := hb1.size; simp at this; omega))
      have HIN : Hid (L.In w1.heap.size w1) := HL.out _ (below_then (below_one _) hb1)
      refine (cut_in L.m _ _ _ _ L.tx L.la L.k L.lc L.lb L.lo L.z s w1 hm (by omega) HTX.out HIN.out.entries).mono ?_
      rintro e w2 ⟨q, hq, hb2, hor⟩
      have hq1' := pos_ge q hq.go
      have hq2' := pos_le L.m L.tx s q
      have HQ : Hid (Cut L.m L.tx s q) := hq
      have hqs : q ≤ 24 := by omega
      have HBW : Hid (Below w.heap.size w w2) := below_then (below_then (below_one _) hb1) hb2
      clear hq hq1' hq2'
      rcases hor with ⟨hp, vo, vc, gv, rfl, hein⟩ | ⟨hp, rfl⟩
      · have HP : Hid (pos L.m L.tx s q = s.size) := hp
        have HF := hein
        have HFI : Hid (EntriesIn w2.heap.size w2 vo q gv 0 (fun j => L.tx (pidx L.m L.tx s j)) (fun j => L.la (pidx L.m L.tx s j)) (fun j => L.k (pidx L.m L.tx s j)) (fun j => L.lc (pidx L.m L.tx s j)) (fun j => L.lb (pidx L.m L.tx s j)) (fun j => L.lo (pidx L.m L.tx s j)) (fun j => L.z (pidx L.m L.tx s j))) := hein
        clear hein HF hp hc hf
        go_wp2
        go_loopw [9, 10] (fun v iv wr => ∃ i : Nat, i ≤ q ∧ iv = .int .i64 i ∧ Below w2.heap.size w2 wr ∧ wr.ownsRow w2.heap.size 9 1 v i ((List.range i).map fun j => .string (piece L.m L.tx s j))) (fun _ iv _ => q - (intOf iv).toNat)
        case atStart => exact ⟨0, Nat.zero_le _, rfl, Below.refl _ _, World.ownsRow_nil _ _ _ _⟩
        case round =>
          obtain ⟨i, hi, rfl, hbel, hown⟩ := hrel
          have HOWN : Hid (wr.ownsRow w2.heap.size 9 1 _ i ((List.range i).map fun j => .string (piece L.m L.tx s j))) := hown
          clear hown
          have hsz := hbel.size
          by_cases hlt : i < q
          · have ha := HFI.out.addr (by omega)
            subst ha
            have c0 := cellTo hbel (HFI.out.text i hlt) (HFI.out.lt (by omega))
            simp only [Nat.zero_add] at c0
            rw [(pidx_spec HQ.out.go hlt).2] at c0
            go_wp2_with (first
              | (at_builtin; refine wpList_append_lies _ (by rfl) (.tmp 34) (.tmp 40) 40 (by rfl) w2.heap.size 9 i0 (.string ByteArray.empty) 1 16 Tryz.underlying40 hi0 hq0 hq1 hq2 rfl (by omega) _ i _ (by rfl) (HOWN.out.alloc _) ⟨wr.heap.size, 0, none⟩ 1 1 [.string (piece L.m L.tx s i)] (by rfl) (by rfl) ?c1 ?c2 (by omega) ?c3 ?c5 ?c4 (wr.heap.size + 1) (by simp) ?_))
            case c1 => exact cell_one_new _ _ _
            case c2 => intro u hu; simp at hu; subst hu; rfl
            case c3 => unfold maxLen; omega
            case c5 => omega
            case c4 => simp; omega
            · intro gv2 cap2 w3 hown2 hgrow _ _
              have HBN : Hid (Below w2.heap.size w2 w3) := (hbel.alloc hsz _).grown hgrow (by simp; omega) (fun r hr => by
                obtain ⟨_, ho⟩ := HOWN.out
                rcases ho with ⟨hv, _⟩ | ⟨b', _, _, hv, hb', _⟩
                · rw [hv] at hr; simp [Value.ownBlock] at hr
                · rw [hv] at hr; simp [Value.ownBlock] at hr; omega)
              have HO2 : Hid (w3.ownsRow w2.heap.size 9 1 (.slice (some ⟨gv2, 0, none⟩) (i + 1) cap2) (i + 1) ((List.range (i + 1)).map fun j => .string (piece L.m L.tx s j))) := by
                show _
                rw [List.range_succ, List.map_append]
                exact hown2
              clear hown2 hgrow c0
              go_wp2
              go_roundw
              case rel => exact ⟨i + 1, by omega, by go_num, HBN.out, HO2.out⟩
              case measure => simp [intOf]; omega
          · have hie : i = q := by omega
            subst hie
            have HST := strs_of_own (by omega) HOWN.out
            obtain ⟨vo', vc', gv', hv, hst⟩ := HST
            have HST2 : Hid (StrsIn wr.heap.size wr vo' i gv' 0 (piece L.m L.tx s)) := hst
            clear hst
            subst hv
            go_wp2
            go_ret2
            exact ⟨_, _, rfl, .inr (.inr ⟨he, hs, i, HQ.out, .inr ⟨HP.out, rfl, _, _, _, _, rfl, HST2.out⟩⟩), below_then HBW.out hbel⟩
      · go_wp2
        go_ret2
        exact ⟨_, _, rfl, .inr (.inr ⟨he, hs, q, HQ.out, .inl ⟨hp, rfl, rfl⟩⟩), HBW.out⟩
    · go_enter Tryz.func39, Tryz.ntmps39
      go_wp2_with (first
        | (go_at_call 36; refine (tableValid_any L _ (HL.out _ (below_one _))).mono ?_; rintro e w1 ⟨rfl, hb1⟩; obtain ⟨hc, hf⟩ := bcell hb1; have hz1 : w.heap.size < w1.heap.size := by have := hb1.size; simp at this; omega))
      go_ret2
      exact ⟨_, _, rfl, .inr (.inl ⟨he, by omega, rfl, rfl⟩), below_then (below_one _) hb1⟩
  · go_enter Tryz.func39, Tryz.ntmps39
    go_wp2_with (first
      | (go_at_call 36; refine (tableValid_any L _ (HL.out _ (below_one _))).mono ?_; rintro e w1 ⟨rfl, hb1⟩; obtain ⟨hc, hf⟩ := bcell hb1; have hz1 : w.heap.size < w1.heap.size := by have := hb1.size; simp at this; omega))
    go_ret2
    exact ⟨_, _, rfl, .inl ⟨he, rfl, rfl⟩, below_then (below_one _) hb1⟩

set_option maxHeartbeats 400000 in
theorem pieces_any (L : Lay) (s : ByteArray) (w : World) (h : L.In w.heap.size w) :
    Calls Tryz.prog 15 #[.agg #[.slice L.na L.n L.nc, .slice L.ea L.m L.ec], .string s] w fun e w' => ∃ v er, e = .returned (.tuple #[v, .int .i64 er]) ∧ PiecesAns L s v er w' ∧ Below w.heap.size w w' := by
  have HL : Hid (∀ w', Below w.heap.size w w' → L.In w'.heap.size w') := fun w' hb => h.later hb
  clear h
  go_enter Tryz.func15, Tryz.ntmps15
  go_wp2_with (go_at_call 39; refine (tablePieces_any L _ _ (HL.out _ (below_one _))).mono ?_; rintro e w1 ⟨v, er, rfl, hans, hb1⟩)
  go_ret2
  exact ⟨_, _, rfl, hans, below_then (below_one _) hb1⟩

end Go.Proofs.YtpclldccjpncdabGreat
