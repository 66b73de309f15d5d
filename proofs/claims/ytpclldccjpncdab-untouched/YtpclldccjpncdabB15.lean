import Derived.Test.YtpclldccjpncdabB14
import Derived.Deep.RegionHeld3
namespace Go.Proofs.Ytpclldccjpncdab
open Go.RowKit

/-- what Numbers tells -/
def NumR (es : List En) (s : ByteArray) (B : Nat) (w' : World) (a : Option Addr) (n c : Nat) (b : Bool) : Prop :=
  (∃ l, numsE es s = some l ∧ b = true ∧ n = l.length ∧ w'.ownsRow B 3 1 (.slice a l.length c) l.length (l.map (Value.int .i64))) ∨ (numsE es s = none ∧ b = false)
theorem GoodK.numV {K : Wk} {g : Nat} {em : List Em} {la ea : Option Addr} {lc ec gv eb eo : Nat} {sv : Value} {w : World} (hK : GoodK K) (h : DrA g K em la ea lc ec gv eb eo sv w) (s : ByteArray) (hs : s.size ≤ 24) :
    Calls Try.prog 58 #[.slice ea em.length ec, .string s] w fun e w' => ∃ (a : Option Addr) (n c : Nat) (b : Bool), e = .returned (.tuple #[.slice a n c, .bool b]) ∧ Below w.heap.size w w' ∧ Hid (NumR K.es s w.heap.size w' a n c b) := by
  refine (hK.numbers h s hs).mono ?_
  rintro e w' ⟨hb, ⟨l, ao, c, hl, he, hown⟩ | ⟨hl, he⟩⟩
  · exact ⟨ao, l.length, c, true, he, hb, .inl ⟨l, hl, rfl, rfl, hown.out⟩⟩
  · exact ⟨none, 0, 0, false, he, hb, .inr ⟨hl, rfl⟩⟩
theorem ruleE_err {upd : List En → En → List En} {K : Wk} {r : Rl} {x : Int} (h : ruleE upd K r = .error x) : x = 10 ∨ x = 11 ∨ x = 12 ∨ x = 13 := by
  unfold ruleE at h
  repeat' (first | split at h | (simp only at h))
  all_goals first
    | (injection h with h; omega)
    | (cases h; done)
theorem anch_if {K : Wk} {r : Rl} (h : GoodK K) (hr : r.ok) (ha : r.reset.size ≠ 0 ∨ Anch K) {stem : List Int} {anchor : Int} (hs : (if r.reset.size ≠ 0 then (numsE K.es r.reset).map (fun l => (l.dropLast, l.getLastD 0)) else some (K.stem, K.anchor)) = some (stem, anchor)) : Anch { K with stem := stem, anchor := anchor } := by
  by_cases h0 : r.reset.size ≠ 0
  · rw [if_pos h0] at hs
    cases hn : numsE K.es r.reset with
    | none => rw [hn] at hs; cases hs
    | some l =>
      rw [hn] at hs
      simp only [Option.map_some, Option.some.injEq, Prod.mk.injEq] at hs
      obtain ⟨rfl, rfl⟩ := hs
      obtain ⟨b1, b2, b3⟩ := numsE_all h hn
      have hl := b2 h0
      have hr6 := hr.2.2.1
      refine ⟨?_, fun z hz => b3 z (List.dropLast_subset l hz), ?_⟩
      · exact b3 _ (by
          rw [List.getLastD_eq_getLast?, List.getLast?_eq_some_getLast hl]
          exact List.getLast_mem hl)
      · show l.dropLast.length ≤ 100
        rw [List.length_dropLast]
        omega
  · rw [if_neg h0] at hs
    simp only [Option.some.injEq, Prod.mk.injEq] at hs
    obtain ⟨rfl, rfl⟩ := hs
    exact ha.resolve_left h0
/-- the place, as a number of places -/
def plN (l : List Sp) (an be lv : Int) : Nat := if be = 0 then behindS l an lv else (startS l an be).toNat
theorem pl_no {l : List Sp} {an : Int} {r : Rl} (h : plB l an r = false) : r.before ≠ 0 ∧ (r.level ≠ r.before ∨ startS l an r.before < 0) := by
  unfold plB at h
  split at h
  · cases h
  · next hb =>
    refine ⟨hb, ?_⟩
    split at h
    · next hl => exact .inl hl
    · exact .inr (by simpa using h)
theorem pl_yes {l : List Sp} {an : Int} {r : Rl} (h : plB l an r = true) : ¬ (r.before ≠ 0 ∧ (r.level ≠ r.before ∨ startS l an r.before < 0)) ∧ plA l an r = (plN l an r.before r.level : Nat) ∧ plN l an r.before r.level ≤ l.length := by
  unfold plB at h
  unfold plA plN
  split at h
  · next hb => exact ⟨fun hh => hh.1 hb, by rw [if_pos hb, if_pos hb], by rw [if_pos hb]; exact behindS_le _ _ _⟩
  · next hb =>
    split at h
    · cases h
    · next hl =>
      have h0 : 0 ≤ startS l an r.before := by simpa using h
      have hlt := startS_lt l an r.before
      refine ⟨fun hh => ?_, ?_, ?_⟩
      · rcases hh.2 with h1 | h1
        · exact hl h1
        · omega
      · rw [if_neg hb, if_neg hl, if_neg (by omega), if_neg hb]
        omega
      · rw [if_neg hb]
        omega
theorem DrA.put {g : Nat} {K1 : Wk} {em : List Em} {la ea : Option Addr} {lc ec gv eb eo : Nat} {sv : Value} {we wq w' : World} {a' : Option Addr} {n' c' p : Nat} {lv : Int} {Bq : Nat} (h : DrA g K1 em la ea lc ec gv eb eo sv we) (hlen : K1.names = (K1.ls.length : Nat)) (hk : KeepH g we wq) (ho : OnlyRow g wq w') (hrow : w'.rowIs g 76 4 (drF a' n' c' ea em.length ec sv (K1.ls.length : Nat)))
    (hn' : n' = (K1.ls.take p ++ [Sp.mk (K1.ls.length : Nat) lv false 0 0 0] ++ K1.ls.drop p).length) (hBq : g < Bq) (hown : wq.ownsRow Bq 97 6 (.slice a' n' c') n' (memC (K1.ls.take p ++ [Sp.mk (K1.ls.length : Nat) lv false 0 0 0] ++ K1.ls.drop p))) : ∃ gm, DrA g (putS K1 p lv) em a' ea c' ec gm eb eo sv w' := by
  obtain ⟨gm, hm⟩ := mem_in hn' hown
  have hls : (putS K1 p lv).ls = K1.ls.take p ++ [Sp.mk (K1.ls.length : Nat) lv false 0 0 0] ++ K1.ls.drop p := by
    show K1.ls.take p ++ [Sp.mk K1.names lv false 0 0 0] ++ K1.ls.drop p = _
    rw [hlen]
  have hfar : 0 < (putS K1 p lv).ls.length → gm ≠ g := fun h0 => by
    rw [hls] at h0
    have ha := hm.addr h0
    have := (ownC_lt hown (b := gm) (by rw [ha]; rfl)).2
    omega
  have hk2 := (hk.trans (.only ho)).cells
  refine ⟨gm, ?_, h.es, ?_, h.ents.keep hk2 h.farE h.farI, h.stem.keep hk2 h.farS, hfar, h.farE, h.farI, h.farS⟩
  · rw [hls, ← hn']
    have : (putS K1 p lv).anchor = (K1.ls.length : Nat) := hlen
    rw [this]
    exact hrow
  · rw [hls]
    exact hm.keep (.only ho) (by rw [← hls]; exact hfar)
theorem DrA.ent {g : Nat} {K2 : Wk} {em em' : List Em} {la ea ea' : Option Addr} {lc ec ec' gv eb eo : Nat} {sv : Value} {we wq w' : World} {x : Em} {n' : Nat} {Bq : Nat} (h : DrA g K2 em la ea lc ec gv eb eo sv we) (hk : KeepH g we wq) (ho : OnlyRow g wq w') (hrow : w'.rowIs g 76 4 (drF la K2.ls.length lc ea' n' ec' sv K2.anchor))
    (hn' : n' = em'.length) (hBq : g < Bq) (hown : wq.ownsRow Bq 41 2 (.slice ea' n' ec') n' (emC em')) (hmem : ∀ y ∈ em', y = x ∨ y ∈ em) (hx : SlIn wq.heap.size wq x.2 x.1.zs) (hxf : 0 < x.1.zs.length → aB (slA x.2) ≠ g) : ∃ eb', DrA g { K2 with es := esM em' } em' la ea' lc ec' gv eb' 0 sv w' := by
  have hint : ∀ y ∈ em', SlIn wq.heap.size wq y.2 y.1.zs := fun y hy => by
    rcases hmem y hy with rfl | hy
    · exact hx
    · exact (h.ents.ints y hy).keep hk.cells (h.farI y hy)
  have hfi : ∀ y ∈ em', 0 < y.1.zs.length → aB (slA y.2) ≠ g := fun y hy => by
    rcases hmem y hy with rfl | hy
    · exact hxf
    · exact h.farI y hy
  obtain ⟨eb', he⟩ := em_in hn' hown hint
  have hfar : 0 < em'.length → eb' ≠ g := fun h0 => by
    have ha := he.addr h0
    have := (ownC_lt hown (b := eb') (by rw [ha]; rfl)).2
    omega
  have hk2 := (hk.trans (.only ho)).cells
  refine ⟨eb', ?_, rfl, h.list.keep hk2 h.farL, he.keep (.only ho) hfar hfi, h.stem.keep hk2 h.farS, h.farL, hfar, hfi, h.farS⟩
  rw [← hn']
  exact hrow
theorem insE_len (es : List En) (e : En) : (insE es e).length ≤ es.length + 1 := by
  have h : (es.takeWhile (fun x => lessB x.tx e.tx)).length + (es.dropWhile (fun x => lessB x.tx e.tx)).length = es.length := by rw [← List.length_append, List.takeWhile_append_dropWhile]
  unfold insE
  rw [List.length_append, List.length_cons]
  split
  · simp; omega
  · next y r hd =>
    rw [hd, List.length_cons] at h
    split
    · omega
    · rw [List.length_cons]; omega
/-- what apply answers -/
def AppR (g : Nat) (K : Wk) (r : Rl) (er : Int) (w' : World) : Prop := match ruleE insE K r with
  | .error x => er = x
  | .ok K' => er = 0 ∧ Dr g K' w'

set_option maxRecDepth 100000 in
set_option maxHeartbeats 8000000 in
theorem apply_any (B g : Nat) (K : Wk) (em : List Em) (la ea : Option Addr) (lc ec gv eb eo : Nat) (sv : Value) (w : World) (r : Rl) (hK : GoodK K) (hS : SortE K.es) (hr : r.ok) (hA : r.reset.size ≠ 0 ∨ Anch K) (h : DrA g K em la ea lc ec gv eb eo sv w) (hB : B ≤ g) :
    Calls Try.prog 41 #[.pointer (some ⟨g, 0, none⟩), r.v] w fun e w' => ∃ er : Int, e = .returned (.int .i64 er) ∧ Hid (AppR g K r er w') ∧ Hid (Below B w w') := by
  have HK : Hid (GoodK K) := hK
  have HRO : Hid (r.ok) := hr
  have HAN : Hid (r.reset.size ≠ 0 ∨ Anch K) := hA
  have HG0 : Hid (∀ K', ruleE insE K r = .ok K' → GoodK K' ∧ Anch K') := fun K' he => ruleE_good hK (upd_ins hS) hr hA he
  obtain ⟨hr1, hr2, hr3, hr4, hr5, hr6⟩ := hr
  show Calls Try.prog 41 #[.pointer (some ⟨g, 0, none⟩), .agg #[.string r.reset, .int .i64 r.before, .int .i64 r.level, .string r.text, .string r.more]] w _
  have HRV : Hid (∀ rs be lv tx mo, r.reset = rs → r.before = be → r.level = lv → r.text = tx → r.more = mo → r = ⟨rs, be, lv, tx, mo⟩) := fun rs be lv tx mo h1 h2 h3 h4 h5 => by rw [← h1, ← h2, ← h3, ← h4, ← h5]
  obtain ⟨rs, hrs⟩ : ∃ x, r.reset = x := ⟨_, rfl⟩
  obtain ⟨be, hbe⟩ : ∃ x, r.before = x := ⟨_, rfl⟩
  obtain ⟨lv, hlv⟩ : ∃ x, r.level = x := ⟨_, rfl⟩
  obtain ⟨tx, htx⟩ : ∃ x, r.text = x := ⟨_, rfl⟩
  obtain ⟨mo, hmo⟩ : ∃ x, r.more = x := ⟨_, rfl⟩
  have HF : Hid (r.reset = rs ∧ r.before = be ∧ r.level = lv ∧ r.text = tx ∧ r.more = mo) := ⟨hrs, hbe, hlv, htx, hmo⟩
  have HVF : Hid (r = ⟨rs, be, lv, tx, mo⟩) := HRV.out _ _ _ _ _ hrs hbe hlv htx hmo
  rw [hrs, hbe, hlv, htx, hmo]
  rw [htx] at hr1
  rw [hmo] at hr2
  rw [hrs] at hr3
  rw [hlv] at hr4
  rw [hbe, hrs] at hr6
  rw [hbe] at hr5
  clear HRV hrs hbe hlv htx hmo
  obtain ⟨W, hW⟩ : ∃ W, W = w.alloc (.cells #[.string rs, .int .i64 be, .int .i64 lv, .string tx, .string mo] 48) := ⟨_, rfl⟩
  have HD : Hid (DrA g K em la ea lc ec gv eb eo sv W) := by show DrA _ _ _ _ _ _ _ _ _ _ _ _; rw [hW]; exact h.below (below_one _)
  have hg0 := h.row.lt
  have HB0 : Hid (Below B w W) := by show Below _ _ _; rw [hW]; exact (below_one _).mono (by omega)
  have HWS : Hid (W.heap.size = w.heap.size + 1) := by show _ = _; rw [hW]; simp
  have HRW : Hid (W.rowIs w.heap.size 48 5 (rvF ⟨rs, be, lv, tx, mo⟩)) := by show World.rowIs _ _ _ _ _; rw [hW]; exact row_new _ _ _ 5 rfl
  have HC1 : Hid (∀ wz, Below W.heap.size W wz → Calls Try.prog 58 #[.slice ea em.length ec, .string mo] wz fun e w' => ∃ (a : Option Addr) (n c : Nat) (b : Bool), e = .returned (.tuple #[.slice a n c, .bool b]) ∧ Below wz.heap.size wz w' ∧ Hid (NumR K.es mo wz.heap.size w' a n c b)) := fun wz hb => hK.numV (HD.out.below hb) mo (by omega)
  obtain ⟨⟨_, c1, _, _⟩, _⟩ := row4F HD.out.row
  have c1' : W.cell? ⟨g, 1, none⟩ = some (.slice ea em.length ec) := c1
  have r4 : W.cell? ⟨w.heap.size, 4, none⟩ = some (.string mo) := HRW.out.cell (i := 4) (by omega)
  clear h hK hA c1
  have hws := HWS.out
  go_enter Try.func41, Try.ntmps41
  go_upto_region 1 with (fail)
  rw [← hW]
  clear hW
  go_cut [5, 6] from 9 (fun v5 v6 wc => ∃ (a : Option Addr) (n c : Nat) (b : Bool), v5 = .slice a n c ∧ v6 = .bool b ∧ Hid (Below W.heap.size W wc) ∧ Hid (NumR K.es mo W.heap.size wc a n c b))
  case first =>
    go_region_with (go_at_call 58; refine (HC1.out _ (Below.refl _ _).drew).mono ?_; rintro e w1 ⟨a, n, c, b, rfl, hb1, hn1⟩)
    all_goals
      go_wp2
      go_meet
      exact ⟨a, n, c, b, rfl, rfl, (Below.refl _ _).drew.trans hb1, hn1⟩
  case rest =>
    rename World => wc
    obtain ⟨a, n, c, b, rfl, rfl, HBc, HNc⟩ := hcut
    have hzc := HBc.out.size
    have hgW := HD.out.row.lt
    have HBB : Hid (Below B w wc) := HB0.out.trans (HBc.out.mono (by omega))
    clear c1' r4 HC1
    cases b
    · have HE : Hid (∀ wx, AppR g K r 10 wx) := fun wx => by
        rcases HNc.out with ⟨_, _, hb, _⟩ | ⟨hn, _⟩
        · cases hb
        · unfold AppR ruleE
          rw [HF.out.2.2.2.2, hn]
      go_wp2
      go_ret
      exact ⟨10, rfl, HE.out _, HBB⟩
    · have HMO : ∃ more, numsE K.es mo = some more ∧ n = more.length ∧ wc.ownsRow W.heap.size 3 1 (.slice a more.length c) more.length (more.map (Value.int .i64)) := by
        rcases HNc.out with ⟨l, hl, _, hn, ho⟩ | ⟨_, hb⟩
        · exact ⟨l, hl, hn, ho⟩
        · cases hb
      obtain ⟨more, hmore, hnm, hmo⟩ := HMO
      have HM : Hid (numsE K.es mo = some more) := hmore
      have hml : more.length ≤ 24 := by have := (numsE_all HK.out hmore).1; omega
      have hgn : ∀ x, (Value.slice a more.length c).ownBlock = some x → x ≠ g := fun x hx => by have := (ownC_lt hmo hx).2; omega
      have HSM : Hid (SlIn wc.heap.size wc (.slice a n c) more ∧ (0 < more.length → aB a ≠ g)) := by
        refine ⟨?_, fun h0 => ?_⟩
        · rw [hnm]; exact SlIn.own rfl (by omega) hmo
        · obtain ⟨vo, vc, gq, hv, hva, _⟩ := ownC_cells hmo
          injection hv with hv1 _ _
          have := hva h0
          rw [hv1, this.1]
          show gq ≠ g
          omega
      have HNM : Hid (n = more.length) := hnm
      rw [← hnm] at hml
      clear hmore hnm hmo hgn HNc
      have HDc : Hid (DrA g K em la ea lc ec gv eb eo sv wc) := HD.out.below HBc.out
      have HRc : Hid (wc.rowIs w.heap.size 48 5 (rvF ⟨rs, be, lv, tx, mo⟩)) := HRW.out.of_block (HBc.out.block _ (by omega))
      have hwg : w.heap.size ≠ g := by omega
      have r0 : wc.cell? ⟨w.heap.size, 0, none⟩ = some (.string rs) := HRc.out.cell (i := 0) (by omega)
      go_upto_region 4 with (fail)
      go_cut [30] from 9 (fun bv wd => ∃ bb : Bool, bv = .bool bb ∧ Hid (Below B w wd) ∧ Hid (KeepH g wc wd) ∧ Hid ((bb = true ∧ (if rs.size ≠ 0 then (numsE K.es rs).map (fun l => (l.dropLast, l.getLastD 0)) else some (K.stem, K.anchor)) = none) ∨ (bb = false ∧ ∃ stem anchor sv', (if rs.size ≠ 0 then (numsE K.es rs).map (fun l => (l.dropLast, l.getLastD 0)) else some (K.stem, K.anchor)) = some (stem, anchor) ∧ DrA g { K with stem := stem, anchor := anchor } em la ea lc ec gv eb eo sv' wd)))
      case first =>
        by_cases hrs : rs.size = 0
        · have he : rs.toList.isEmpty = true := by rw [empty_iff]; simp [hrs]
          have he0 : rs = ByteArray.empty := ByteArray.ext (Array.eq_empty_of_size_eq_zero hrs)
          have HIF : Hid ((if rs.size ≠ 0 then (numsE K.es rs).map (fun l => (l.dropLast, l.getLastD 0)) else some (K.stem, K.anchor)) = some (K.stem, K.anchor)) := if_neg (by omega)
          clear he0
          go_wp2
          all_goals first | (exfalso; simp_all; done) | skip
          go_meet
          exact ⟨false, rfl, HBB, .below (Below.refl _ _), .inr ⟨rfl, _, _, sv, HIF.out, HDc.out⟩⟩
        · have he : rs.toList.isEmpty = false := by rw [empty_iff]; simp [hrs]
          have HCR : Hid (Calls Try.prog 59 #[.pointer (some ⟨g, 0, none⟩), .string rs] wc fun e w' => ∃ b : Value, e = .returned b ∧ Hid ((numsE K.es rs = none ∧ b = .bool false) ∨ (∃ l sv', numsE K.es rs = some l ∧ b = .bool true ∧ DrA g { K with stem := l.dropLast, anchor := l.getLastD 0 } em la ea lc ec gv eb eo sv' w')) ∧ Hid (Below B wc w') ∧ Hid (KeepH g wc w')) := reset_any B g K em la ea lc ec gv eb eo sv wc rs HK.out HDc.out hB hr3 hrs
          have HIF : Hid ((if rs.size ≠ 0 then (numsE K.es rs).map (fun l => (l.dropLast, l.getLastD 0)) else some (K.stem, K.anchor)) = (numsE K.es rs).map (fun l => (l.dropLast, l.getLastD 0))) := if_pos hrs
          clear hrs
          go_wp2_with fail
          refine (HCR.out).mono ?_
          rintro e wd ⟨bv, rfl, HOR, HBd, HKd⟩
          rcases HOR.out with ⟨hno, rfl⟩ | ⟨l, sv', hl, rfl, hdr⟩
          · have HNO : Hid (numsE K.es rs = none) := hno
            clear hno HOR HCR
            go_wp2
            go_meet
            exact ⟨true, rfl, HBB.out.trans HBd.out, HKd, .inl ⟨rfl, by rw [HIF.out, HNO.out]; rfl⟩⟩
          · have HYES : Hid (numsE K.es rs = some l ∧ DrA g { K with stem := l.dropLast, anchor := l.getLastD 0 } em la ea lc ec gv eb eo sv' wd) := ⟨hl, hdr⟩
            clear hl hdr HOR HCR
            go_wp2
            go_meet
            exact ⟨false, rfl, HBB.out.trans HBd.out, HKd, .inr ⟨rfl, _, _, sv', by rw [HIF.out, HYES.out.1]; rfl, HYES.out.2⟩⟩
      case rest =>
        rename World => wd
        obtain ⟨bb, rfl, HBd, HKd, HOR⟩ := hcut
        clear r0
        cases bb
        · have HOR2 : ∃ stem anchor sv', (if rs.size ≠ 0 then (numsE K.es rs).map (fun l => (l.dropLast, l.getLastD 0)) else some (K.stem, K.anchor)) = some (stem, anchor) ∧ DrA g { K with stem := stem, anchor := anchor } em la ea lc ec gv eb eo sv' wd := by
            rcases HOR.out with ⟨h, _⟩ | ⟨_, h⟩
            · cases h
            · exact h
          obtain ⟨stem, anchor, sv', hif, hdr⟩ := HOR2
          have hif' := hif
          rw [← HF.out.1] at hif'
          have HA1 : Hid (Anch { K with stem := stem, anchor := anchor }) := anch_if HK.out HRO.out HAN.out hif'
          have HIF : Hid ((if rs.size ≠ 0 then (numsE K.es rs).map (fun l => (l.dropLast, l.getLastD 0)) else some (K.stem, K.anchor)) = some (stem, anchor)) := hif
          obtain ⟨K1, hK1⟩ : ∃ K1 : Wk, K1 = { K with stem := stem, anchor := anchor } := ⟨_, rfl⟩
          rw [← hK1] at hdr HA1
          have HK1 : Hid (K1 = { K with stem := stem, anchor := anchor }) := hK1
          have HG1 : Hid (GoodK K1) := by show GoodK K1; rw [hK1]; exact ⟨HK.out.len, HK.out.ls, HK.out.es, HK.out.str, HK.out.name, HK.out.ent, HK.out.once⟩
          have HD1 : Hid (DrA g K1 em la ea lc ec gv eb eo sv' wd) := hdr
          clear hif hif' hK1 hdr HOR
          have HRd : Hid (wd.rowIs w.heap.size 48 5 (rvF ⟨rs, be, lv, tx, mo⟩)) := HKd.out.row HRc.out hwg
          have hzd := HKd.out.size
          obtain ⟨pa, hpa⟩ : ∃ x, x = plA K1.ls K1.anchor ⟨rs, be, lv, tx, mo⟩ := ⟨_, rfl⟩
          obtain ⟨pb, hpb⟩ : ∃ x, x = plB K1.ls K1.anchor ⟨rs, be, lv, tx, mo⟩ := ⟨_, rfl⟩
          have HCP : Hid (Calls Try.prog 60 #[.pointer (some ⟨g, 0, none⟩), .agg #[.string rs, .int .i64 be, .int .i64 lv, .string tx, .string mo]] wd fun e w' => e = .returned (.tuple #[.int .i64 pa, .bool pb]) ∧ Below wd.heap.size wd w') := by
            show Calls _ _ _ _ _
            rw [hpa, hpb]
            exact placeFor_any g K1 em la ea lc ec gv eb eo sv' wd ⟨rs, be, lv, tx, mo⟩ HG1.out HA1.out.anchor HD1.out
          have HPA : Hid (pa = plA K1.ls K1.anchor ⟨rs, be, lv, tx, mo⟩) := hpa
          have HPB : Hid (pb = plB K1.ls K1.anchor ⟨rs, be, lv, tx, mo⟩) := hpb
          clear hpa hpb
          have q0 : wd.cell? ⟨w.heap.size, 0, none⟩ = some (.string rs) := HRd.out.cell (i := 0) (by omega)
          have q1 : wd.cell? ⟨w.heap.size, 1, none⟩ = some (.int .i64 be) := HRd.out.cell (i := 1) (by omega)
          have q2 : wd.cell? ⟨w.heap.size, 2, none⟩ = some (.int .i64 lv) := HRd.out.cell (i := 2) (by omega)
          have q3 : wd.cell? ⟨w.heap.size, 3, none⟩ = some (.string tx) := HRd.out.cell (i := 3) (by omega)
          have q4 : wd.cell? ⟨w.heap.size, 4, none⟩ = some (.string mo) := HRd.out.cell (i := 4) (by omega)
          have HUN : Hid (ruleE insE K r = if be ≠ 0 ∧ (lv ≠ be ∨ startS K.ls anchor be < 0) then .error 11 else (if 4 < ((if 0 < lv then putS K1 (plN K.ls anchor be lv) lv else K1).stem ++ [(if 0 < lv then putS K1 (plN K.ls anchor be lv) lv else K1).anchor] ++ more).length then .error 12 else if 48 < (if 0 < lv then putS K1 (plN K.ls anchor be lv) lv else K1).ls.length ∨ 48 < (insE (if 0 < lv then putS K1 (plN K.ls anchor be lv) lv else K1).es ⟨tx, (if 0 < lv then putS K1 (plN K.ls anchor be lv) lv else K1).stem ++ [(if 0 < lv then putS K1 (plN K.ls anchor be lv) lv else K1).anchor] ++ more⟩).length then .error 13 else .ok { (if 0 < lv then putS K1 (plN K.ls anchor be lv) lv else K1) with es := insE (if 0 < lv then putS K1 (plN K.ls anchor be lv) lv else K1).es ⟨tx, (if 0 < lv then putS K1 (plN K.ls anchor be lv) lv else K1).stem ++ [(if 0 < lv then putS K1 (plN K.ls anchor be lv) lv else K1).anchor] ++ more⟩ })) := by
            show _ = _
            unfold ruleE plN
            rw [HVF.out]
            simp only
            rw [HM.out]
            simp only
            rw [HIF.out, HK1.out]
          go_wp2_with fail
          refine (HCP.out).mono ?_
          rintro e we ⟨rfl, hbe'⟩
          have HBe : Hid (Below wd.heap.size wd we) := hbe'
          have hze := HBe.out.size
          have HBBe : Hid (Below B w we) := HBd.out.trans (hbe'.mono (by omega))
          clear hbe' HCP q0 q1 q2 q3 q4
          cases pb
          · have HE : Hid (∀ wx, AppR g K r 11 wx) := fun wx => by
              have hno := pl_no HPB.out.symm
              unfold AppR
              rw [HUN.out]
              have : K1.ls = K.ls ∧ K1.anchor = anchor := by rw [HK1.out]; exact ⟨rfl, rfl⟩
              rw [this.1, this.2] at hno
              rw [if_pos hno]
            go_wp2
            go_ret
            exact ⟨11, rfl, HE.out _, HBBe⟩
          · obtain ⟨hyes, hpe, hple⟩ := pl_yes HPB.out.symm
            have hK1f : K1.ls = K.ls ∧ K1.anchor = anchor := by rw [HK1.out]; exact ⟨rfl, rfl⟩
            rw [hK1f.1, hK1f.2] at hyes hpe hple
            simp only at hyes hpe hple
            obtain ⟨p, hp⟩ : ∃ p, p = plN K.ls anchor be lv := ⟨_, rfl⟩
            have hpp : pa = (p : Nat) := by rw [HPA.out, hp, hK1f.1, hK1f.2]; exact hpe
            subst hpp
            obtain ⟨K2, hK2⟩ : ∃ K2, K2 = (if 0 < lv then putS K1 p lv else K1) := ⟨_, rfl⟩
            have HUN2 : Hid (ruleE insE K r = if 4 < (K2.stem ++ [K2.anchor] ++ more).length then .error 12 else if 48 < K2.ls.length ∨ 48 < (insE K2.es ⟨tx, K2.stem ++ [K2.anchor] ++ more⟩).length then .error 13 else .ok { K2 with es := insE K2.es ⟨tx, K2.stem ++ [K2.anchor] ++ more⟩ }) := by
              show _ = _
              rw [HUN.out, if_neg hyes, hK2, hp]
            have hn48 := HG1.out.ls
            have hpl : p ≤ K1.ls.length := by rw [hK1f.1, hp]; exact hple
            have HNAM : Hid (K1.names = (K1.ls.length : Nat)) := HG1.out.len
            have HK2 : Hid (K2 = (if 0 < lv then putS K1 p lv else K1)) := hK2
            have HDe : Hid (DrA g K1 em la ea lc ec gv eb eo sv' we) := HD1.out.below HBe.out
            have HRe : Hid (we.rowIs w.heap.size 48 5 (rvF ⟨rs, be, lv, tx, mo⟩)) := HRd.out.of_block (HBe.out.block _ (by have := HRd.out.lt; omega))
            have HKe : Hid (KeepH g wc we) := HKd.out.trans (.below HBe.out)
            clear hyes hpe hple hp hK2 HUN HPA HPB
            obtain ⟨n1, hn1⟩ : ∃ n, n = K1.ls.length := ⟨_, rfl⟩
            have HN1 : Hid (n1 = K1.ls.length) := hn1
            rw [← hn1] at hpl hn48
            clear hn1
            have q2 : we.cell? ⟨w.heap.size, 2, none⟩ = some (.int .i64 lv) := HRe.out.cell (i := 2) (by omega)
            go_upto_if 41 with (fail)
            go_cut [] from 9 (fun wf => ∃ (la' : Option Addr) (lc' gv' : Nat), Hid (DrA g K2 em la' ea lc' ec gv' eb eo sv' wf) ∧ Hid (KeepH g we wf) ∧ Hid (Below B w wf))
            case first =>
              by_cases hlv : 0 < lv
              · have HK2' : Hid (K2 = putS K1 p lv) := by show _ = _; rw [HK2.out, if_pos hlv]
                have hge := HDe.out.row.lt
                obtain ⟨⟨c0, c1, c2, c3⟩, f0, f1, f2, f3⟩ := row4F HDe.out.row
                simp only [drF] at c0 c1 c2 c3
                have c0' : we.cell? ⟨g, 0, none⟩ = some (.slice la n1 lc) := by rw [HN1.out]; exact c0
                have c3' : we.cell? ⟨g, 3, none⟩ = some (.int .i64 K1.anchor) := c3
                clear c0 c1 c2 c3
                have HR3 : Hid ((we.setCell ⟨g, 3, none⟩ (.int .i64 (n1 : Nat))).rowIs g 76 4 (drF la n1 lc ea em.length ec sv' (n1 : Nat))) := by
                  show World.rowIs _ _ _ _ _
                  rw [HN1.out]
                  exact (HDe.out.row.set 3 _).congr fun j hj => by
                    have : j = 0 ∨ j = 1 ∨ j = 2 ∨ j = 3 := by omega
                    rcases this with rfl | rfl | rfl | rfl <;> rfl
                have HO3 : Hid (OnlyRow g we (we.setCell ⟨g, 3, none⟩ (.int .i64 (n1 : Nat)))) := OnlyRow.setCell _ _ _ _
                go_upto_region 11 with (fail)
                generalize we.setCell ⟨g, 3, none⟩ (.int .i64 (n1 : Nat)) = W2 at HR3 HO3 ⊢
                have hgW2 := HR3.out.lt
                obtain ⟨⟨d0, d1, d2, d3⟩, _⟩ := row4F HR3.out
                simp only [drF] at d0 d1 d2 d3
                have d0' : W2.cell? ⟨g, 0, none⟩ = some (.slice la n1 lc) := d0
                have d3' : W2.cell? ⟨g, 3, none⟩ = some (.int .i64 (n1 : Nat)) := d3
                have s2 : W2.cell? ⟨w.heap.size, 2, none⟩ = some (.int .i64 lv) := HO3.out.cell q2 (by show w.heap.size ≠ g; exact hwg)
                have hzW2 : w.heap.size < W2.heap.size := (HO3.out.row HRe.out hwg).lt
                have HMI : Hid (MemIn W2.heap.size W2 la gv K1.ls) := HDe.out.list.keep (.only HO3.out) HDe.out.farL
                have HCM : Hid (Calls Try.prog 61 #[.slice la n1 lc, .int .i64 (p : Nat), .agg #[.int .i64 (n1 : Nat), .int .i64 lv, .bool true, .int .i64 0, .int .i64 0, .int .i64 0]] W2.drew fun e w' => ∃ (a : Option Addr) (c n : Nat), e = .returned (.slice a n c) ∧ Hid (n = (K1.ls.take p ++ [Sp.mk (n1 : Nat) lv false 0 0 0] ++ K1.ls.drop p).length ∧ w'.ownsRow W2.heap.size 97 6 (.slice a n c) n (memC (K1.ls.take p ++ [Sp.mk (n1 : Nat) lv false 0 0 0] ++ K1.ls.drop p))) ∧ Below W2.heap.size W2.drew w') := by
                  have := withMember_any la lc gv K1.ls p (n1 : Nat) lv W2.drew (by have := HN1.out; omega) (by rw [← HN1.out]; exact hpl) (HMI.out.below (Below.refl _ _).drew)
                  rw [← HN1.out] at this
                  exact this
                clear d0 d1 d2 d3 f0 f1 f2 f3 c0' c3'
                go_region_with (go_at_call 61; refine (HCM.out).mono ?_; rintro e wq ⟨a', c', n', rfl, HOq, hbq⟩; have hrq := (HR3.out.drew).of_block (hbq.block _ hgW2); have t0 := hrq.cell (i := 0) (by omega); have tf := hrq.frozen 0)
                all_goals
                  have hkk : KeepH g W2 wq := KeepH.trans (.below (Below.refl _ _).drew) (.below hbq)
                  have hOq : OnlyRow g wq (wq.setCell ⟨g, 0, none⟩ (.slice a' n' c')) := OnlyRow.setCell _ _ _ _
                  have HKF : Hid (KeepH g we (wq.setCell ⟨g, 0, none⟩ (.slice a' n' c'))) := (KeepH.only HO3.out).trans (hkk.trans (.only hOq))
                  have HBF : Hid (Below B w (wq.setCell ⟨g, 0, none⟩ (.slice a' n' c'))) := hOq.below ((HO3.out.below HBBe.out hB).drew.trans (hbq.mono (by omega))) hB
                  have hrow : (wq.setCell ⟨g, 0, none⟩ (.slice a' n' c')).rowIs g 76 4 (drF a' n' c' ea em.length ec sv' (K1.ls.length : Nat)) := by
                    rw [← HN1.out]
                    exact (hrq.set 0 _).congr fun j hj => by
                      have : j = 0 ∨ j = 1 ∨ j = 2 ∨ j = 3 := by omega
                      rcases this with rfl | rfl | rfl | rfl <;> rfl
                  have hoo := HOq.out
                  rw [HN1.out] at hoo
                  have hput := HDe.out.put HNAM.out ((KeepH.only HO3.out).trans hkk) hOq hrow hoo.1 hgW2 hoo.2
                  rw [← HK2'.out] at hput
                  have HPUT : Hid (∃ gm, DrA g K2 em a' ea c' ec gm eb eo sv' (wq.setCell ⟨g, 0, none⟩ (.slice a' n' c'))) := hput
                  clear hkk hOq hrow hoo hput t0 tf hrq hbq
                  go_wp2
                  go_meet
                  obtain ⟨gm, hgm⟩ := HPUT.out
                  exact ⟨a', c', gm, hgm, HKF, HBF⟩
              · have HK2' : Hid (K2 = K1) := by show _ = _; rw [HK2.out, if_neg hlv]
                have hlv' : lv ≤ 0 := by omega
                go_wp2
                go_meet
                exact ⟨la, lc, gv, by show DrA _ _ _ _ _ _ _ _ _ _ _ _; rw [HK2'.out]; exact HDe.out, .below (Below.refl _ _), HBBe⟩
            case rest =>
              rename World => wf
              obtain ⟨la', lc', gv', HDf, HKf, HBf⟩ := hcut
              clear q2
              have hgf := HDf.out.row.lt
              have hzf := HKf.out.size
              have HRf : Hid (wf.rowIs w.heap.size 48 5 (rvF ⟨rs, be, lv, tx, mo⟩)) := HKf.out.row HRe.out hwg
              have hwf := HRf.out.lt
              have hsl : K2.stem.length ≤ 100 := by
                have h1 : K2.stem = K1.stem := by rw [HK2.out]; split <;> rfl
                rw [h1]; exact HA1.out.len
              have HMf : Hid (SlIn wf.heap.size wf (.slice a n c) more) := HSM.out.1.keep (HKe.out.trans HKf.out).cells HSM.out.2
              have HCJ : Hid (Calls Try.prog 62 #[sv', .int .i64 K2.anchor, .slice a n c] wf.drew fun e w' => ∃ (a : Option Addr) (c : Nat), e = .returned (.slice a (K2.stem ++ [K2.anchor] ++ more).length c) ∧ Hid (w'.ownsRow wf.heap.size 3 1 (.slice a (K2.stem ++ [K2.anchor] ++ more).length c) (K2.stem ++ [K2.anchor] ++ more).length ((K2.stem ++ [K2.anchor] ++ more).map (Value.int .i64))) ∧ Below wf.heap.size wf.drew w') := joined_any sv' (.slice a n c) K2.stem more K2.anchor wf.drew (HDf.out.stem.below (Below.refl _ _).drew) (HMf.out.below (Below.refl _ _).drew) hsl (by have := HNM.out; omega)
              obtain ⟨⟨c0, c1, c2, c3⟩, _⟩ := row4F HDf.out.row
              simp only [drF] at c0 c1 c2 c3
              have c2' : wf.cell? ⟨g, 2, none⟩ = some sv' := c2
              have c3' : wf.cell? ⟨g, 3, none⟩ = some (.int .i64 K2.anchor) := c3
              clear c0 c1 c2 c3
              obtain ⟨zs, hzs⟩ : ∃ zs, zs = K2.stem ++ [K2.anchor] ++ more := ⟨_, rfl⟩
              have HZS : Hid (zs = K2.stem ++ [K2.anchor] ++ more) := hzs
              rw [← hzs] at HCJ HUN2
              have hz1 : 1 ≤ zs.length := by rw [hzs]; simp; omega
              have hz125 : zs.length ≤ 125 := by have := HNM.out; rw [hzs]; simp; omega
              clear hzs
              obtain ⟨ssv, hssv⟩ : ∃ x, sv' = x := ⟨_, rfl⟩
              have hsh := HDf.out.stem.shape
              obtain ⟨sa, sn, sc, hsv⟩ : ∃ sa sn sc, sv' = .slice sa sn sc := ⟨_, _, _, hsh⟩
              subst hsv
              clear hsh hssv
              go_upto_region 12 with (fail)
              go_cut [8] from 9 (fun v8 wg => ∃ (a8 : Option Addr) (n8 c8 : Nat), v8 = .slice a8 n8 c8 ∧ n8 ≤ 125 ∧ Hid (n8 = zs.length) ∧ Hid (wg.ownsRow wf.heap.size 3 1 (.slice a8 n8 c8) n8 (zs.map (Value.int .i64))) ∧ Hid (Below wf.heap.size wf wg))
              case first =>
                go_region_with (go_at_call 62; refine (HCJ.out).mono ?_; rintro e w1 ⟨a8, c8, rfl, ho8, hb8⟩)
                all_goals
                  go_wp2
                  go_meet
                  exact ⟨a8, _, c8, rfl, hz125, rfl, ho8, (Below.refl _ _).drew.trans hb8⟩
              case rest =>
                rename World => wg
                obtain ⟨a8, n8, c8, rfl, h125, HN8, HO8, HBg⟩ := hcut
                have hzg := HBg.out.size
                have HBBg : Hid (Below B w wg) := HBf.out.trans (HBg.out.mono (by omega))
                clear c2' c3' HCJ
                by_cases h4 : 4 < n8
                · have HE : Hid (∀ wx, AppR g K r 12 wx) := fun wx => by
                    unfold AppR
                    rw [HUN2.out, if_pos (by rw [← HN8.out]; exact h4)]
                  go_wp2
                  go_ret
                  exact ⟨12, rfl, HE.out _, HBBg⟩
                · have HDg : Hid (DrA g K2 em la' ea lc' ec gv' eb eo (.slice sa sn sc) wg) := HDf.out.below HBg.out
                  have HRg : Hid (wg.rowIs w.heap.size 48 5 (rvF ⟨rs, be, lv, tx, mo⟩)) := HRf.out.of_block (HBg.out.block _ hwf)
                  have hgg := HDg.out.row.lt
                  have hwg' := HRg.out.lt
                  obtain ⟨x, hx⟩ : ∃ x : Em, x = (⟨tx, zs⟩, .slice a8 n8 c8) := ⟨_, rfl⟩
                  have HX1 : Hid (x.1 = ⟨tx, zs⟩ ∧ x.2 = .slice a8 n8 c8) := by show _ ∧ _; rw [hx]; exact ⟨rfl, rfl⟩
                  clear hx
                  have HESL : Hid (esM em = K2.es) := HDf.out.es
                  have hem : em.length ≤ 48 := by
                    have h1 : em.length = (esM em).length := (List.length_map _).symm
                    have h2 : K2.es = K1.es := by rw [HK2.out]; split <;> rfl
                    rw [h1, HESL.out, h2]; exact HG1.out.es
                  have HCE : Hid (Calls Try.prog 63 #[.slice ea em.length ec, .agg #[.string tx, .slice a8 n8 c8]] wg.drew fun e w' => ∃ (a : Option Addr) (c n : Nat) (em' : List Em), e = .returned (.slice a n c) ∧ Hid (n = em'.length ∧ esM em' = insE (esM em) x.1 ∧ (∀ y ∈ em', y = x ∨ y ∈ em) ∧ w'.ownsRow wg.heap.size 41 2 (.slice a n c) n (emC em')) ∧ Below wg.heap.size wg.drew w') := by
                    have := withEntry_any ea ec eb eo em x a8 n8 c8 wg.drew (by omega) HX1.out.2 (HDg.out.ents.below (Below.refl _ _).drew) (fun y hy => ⟨_, _, _, (HDg.out.ents.ints y hy).shape⟩)
                    rw [HX1.out.1] at this
                    rw [HX1.out.1]
                    exact this
                  obtain ⟨⟨c0, c1, c2, c3⟩, f0, f1, f2, f3⟩ := row4F HDg.out.row
                  simp only [drF] at c0 c1 c2 c3
                  have c1' : wg.cell? ⟨g, 1, none⟩ = some (.slice ea em.length ec) := c1
                  have q3 : wg.cell? ⟨w.heap.size, 3, none⟩ = some (.string tx) := HRg.out.cell (i := 3) (by omega)
                  clear c0 c1 c2 c3 f0 f1 f2 f3
                  obtain ⟨m0, hm0⟩ : ∃ m, m = em.length := ⟨_, rfl⟩
                  have HM0 : Hid (m0 = em.length) := hm0
                  rw [← hm0] at HCE c1'
                  clear hm0
                  go_upto_region 15 with (fail)
                  go_cut [] from 9 (fun wh => ∃ (em' : List Em) (ea' : Option Addr) (ec' eb' m' : Nat), Hid (m' = em'.length ∧ esM em' = insE K2.es ⟨tx, zs⟩) ∧ Hid (DrA g { K2 with es := esM em' } em' la' ea' lc' ec' gv' eb' 0 (.slice sa sn sc) wh) ∧ Hid (Below B w wh) ∧ m' ≤ 1000)
                  case first =>
                    go_region_with (go_at_call 63; refine (HCE.out).mono ?_; rintro e wq ⟨ea', ec', m', em', rfl, HOq, hbq⟩; have hrq := (HDg.out.row.drew).of_block (hbq.block _ hgg); have t1 := hrq.cell (i := 1) (by omega); have tf := hrq.frozen 1)
                    all_goals
                      have hkk : KeepH g wg wq := KeepH.trans (.below (Below.refl _ _).drew) (.below hbq)
                      have hOq : OnlyRow g wq (wq.setCell ⟨g, 1, none⟩ (.slice ea' m' ec')) := OnlyRow.setCell _ _ _ _
                      have HBF : Hid (Below B w (wq.setCell ⟨g, 1, none⟩ (.slice ea' m' ec'))) := hOq.below (HBBg.out.drew.trans (hbq.mono (by omega))) hB
                      have hrow : (wq.setCell ⟨g, 1, none⟩ (.slice ea' m' ec')).rowIs g 76 4 (drF la' K2.ls.length lc' ea' m' ec' (.slice sa sn sc) K2.anchor) := (hrq.set 1 _).congr fun j hj => by
                        have : j = 0 ∨ j = 1 ∨ j = 2 ∨ j = 3 := by omega
                        rcases this with rfl | rfl | rfl | rfl <;> rfl
                      have hsl8 : SlIn wg.heap.size wg (.slice a8 n8 c8) zs := SlIn.own HN8.out (by omega) HO8.out
                      have hsf8 : aB a8 ≠ g := by
                        obtain ⟨vo, vc, gq, hv, hva, _⟩ := ownC_cells HO8.out
                        injection hv with hv1 _ _
                        have h3 := hva (by rw [HN8.out]; omega)
                        rw [hv1, h3.1]
                        show gq ≠ g
                        omega
                      have hx2 : SlIn wq.heap.size wq x.2 x.1.zs := by
                        rw [HX1.out.1, HX1.out.2]
                        exact hsl8.keep hkk.cells (fun _ => hsf8)
                      have hent := HDg.out.ent hkk hOq hrow HOq.out.1 hgg HOq.out.2.2.2 HOq.out.2.2.1 hx2 (by rw [HX1.out.1, HX1.out.2]; exact fun _ => hsf8)
                      have hes : esM em' = insE K2.es ⟨tx, zs⟩ := by rw [HOq.out.2.1, HESL.out, HX1.out.1]
                      have HENT : Hid ((m' = em'.length ∧ esM em' = insE K2.es ⟨tx, zs⟩) ∧ (∃ eb', DrA g { K2 with es := esM em' } em' la' ea' lc' ec' gv' eb' 0 (.slice sa sn sc) (wq.setCell ⟨g, 1, none⟩ (.slice ea' m' ec'))) ∧ m' ≤ 1000) := by
                        refine ⟨⟨HOq.out.1, hes⟩, hent, ?_⟩
                        have h1 : em'.length = (esM em').length := (List.length_map _).symm
                        have h2 := insE_len K2.es ⟨tx, zs⟩
                        have h3 : (esM em).length = em.length := List.length_map _
                        rw [← HESL.out, h3] at h2
                        rw [HOq.out.1, h1, hes, ← HESL.out]
                        omega
                      clear hkk hOq hrow hsl8 hsf8 hx2 hent hes t1 tf hrq hbq HOq
                      go_wp2
                      go_meet
                      obtain ⟨h1, ⟨eb', h2⟩, h3⟩ := HENT.out
                      exact ⟨em', ea', ec', eb', m', h1, h2, HBF, h3⟩
                  case rest =>
                    rename World => wh
                    obtain ⟨em', ea', ec', eb', m', HEm, HDh, HBh, hm1000⟩ := hcut
                    clear c1' q3 HCE
                    obtain ⟨⟨c0, c1, c2, c3⟩, _⟩ := row4F HDh.out.row
                    simp only [drF] at c0 c1
                    rw [← HEm.out.1] at c1
                    have HLN : Hid ((insE K2.es ⟨tx, zs⟩).length = m') := by show _ = _; rw [← HEm.out.2, HEm.out.1]; exact List.length_map _
                    have HKN : Hid ({ K2 with es := esM em' } = { K2 with es := insE K2.es ⟨tx, zs⟩ }) := by show _ = _; rw [HEm.out.2]
                    have hn49 : K2.ls.length ≤ 49 := by
                      have h1 := HG1.out.ls
                      rw [HK2.out]
                      split
                      · show (K1.ls.take p ++ [Sp.mk K1.names lv false 0 0 0] ++ K1.ls.drop p).length ≤ 49
                        simp
                        omega
                      · omega
                    obtain ⟨n2, hn2⟩ : ∃ n, n = K2.ls.length := ⟨_, rfl⟩
                    have HN2 : Hid (n2 = K2.ls.length) := hn2
                    have c0' : wh.cell? ⟨g, 0, none⟩ = some (.slice la' n2 lc') := by rw [hn2]; exact c0
                    have c1' : wh.cell? ⟨g, 1, none⟩ = some (.slice ea' m' ec') := c1
                    rw [← hn2] at hn49
                    clear c0 c1 c2 c3 hn2
                    by_cases h48 : 48 < n2
                    · have HE : Hid (∀ wx, AppR g K r 13 wx) := fun wx => by
                        unfold AppR
                        rw [HUN2.out, if_neg (by rw [← HN8.out]; exact h4), if_pos (.inl (by rw [← HN2.out]; exact h48))]
                      go_wp2
                      go_ret
                      exact ⟨13, rfl, HE.out _, HBh⟩
                    · have h48' : n2 ≤ 48 := by omega
                      by_cases hm48 : 48 < m'
                      · have HE : Hid (∀ wx, AppR g K r 13 wx) := fun wx => by
                          unfold AppR
                          rw [HUN2.out, if_neg (by rw [← HN8.out]; exact h4), if_pos (.inr (by rw [HLN.out]; exact hm48))]
                        go_wp2
                        go_ret
                        exact ⟨13, rfl, HE.out _, HBh⟩
                      · have hm48' : m' ≤ 48 := by omega
                        have HE : Hid (AppR g K r 0 wh) := by
                          show AppR _ _ _ _ _
                          unfold AppR
                          rw [HUN2.out, if_neg (by rw [← HN8.out]; exact h4), if_neg (by rw [← HN2.out, HLN.out]; omega)]
                          exact ⟨rfl, em', la', ea', lc', ec', gv', eb', 0, _, by rw [← HKN.out]; exact HDh.out⟩
                        go_wp2
                        go_ret
                        exact ⟨0, rfl, HE, HBh⟩
        · have HE : Hid (∀ wx, AppR g K r 10 wx) := fun wx => by
            rcases HOR.out with ⟨_, hno⟩ | ⟨h, _⟩
            · unfold AppR ruleE
              rw [HVF.out]
              simp only
              rw [HM.out]
              simp only
              rw [hno]
            · cases h
          go_wp2
          go_ret
          exact ⟨10, rfl, HE.out _, HBd⟩

end Go.Proofs.Ytpclldccjpncdab

namespace Go.Proofs.Ytpclldccjpncdab
open Go.RowKit

def txM (em : List Em) (j : Nat) : ByteArray := (em.getD j default).1.tx
def kM (em : List Em) (j : Nat) : Nat := (em.getD j default).1.zs.length
def zP (l : List Sp) (em : List Em) (j q : Nat) : Int := plc l ((em.getD j default).1.zs.getD q 0)

set_option maxRecDepth 100000 in
set_option maxHeartbeats 4000000 in
theorem placedEntries_any (la ea : Option Addr) (lc ec gv eb eo : Nat) (l : List Sp) (em : List Em) (w : World) (hl : l.length ≤ 1000) (hm : em.length ≤ 1000) (h : MemIn w.heap.size w la gv l) (he : EmIn w.heap.size w ea eb eo em) (hz : ∀ x ∈ em, x.1.zs.length ≤ 4 ∧ ∀ z ∈ x.1.zs, ∃ y ∈ l, y.name = z) :
    Calls Try.prog 43 #[.slice la l.length lc, .slice ea em.length ec] w fun e w' => ∃ (a : Option Addr) (c : Nat) (vs : Nat → Option Addr) (cs : Nat → Nat), e = .returned (.slice a em.length c) ∧ Hid (w'.ownsRow w.heap.size 41 2 (.slice a em.length c) em.length (entC (txM em) (kM em) vs cs em.length) ∧ EntsO w.heap.size (kM em) (zP l em) em.length vs cs w') ∧ Below w.heap.size w w' := by
  obtain ⟨i0, hi0, hq0, hq1, hq2⟩ := info_parts infoEntC
  obtain ⟨j0, hj0, hp0, hp1, hp2⟩ := info_parts infoIntC
  have HL : Hid (∀ wx, Below w.heap.size w wx → MemIn wx.heap.size wx la gv l) := fun wx hb => (h.below hb).mono hb.size
  have HE : Hid (∀ wx, Below w.heap.size w wx → EmIn w.heap.size wx ea eb eo em) := fun wx hb => he.below hb
  have HZ : Hid (∀ x ∈ em, x.1.zs.length ≤ 4 ∧ ∀ z ∈ x.1.zs, ∃ y ∈ l, y.name = z) := hz
  clear h he hz
  obtain ⟨m, hmm⟩ : ∃ m, m = em.length := ⟨_, rfl⟩
  have HM : Hid (m = em.length) := hmm
  obtain ⟨n, hnn⟩ : ∃ n, n = l.length := ⟨_, rfl⟩
  have HN : Hid (n = l.length) := hnn
  rw [← hmm] at hm ⊢
  rw [← hnn] at hl ⊢
  clear hmm hnn
  go_enter Try.func43, Try.ntmps43
  go_wp2
  go_loopw [5, 6] (fun v iv wr => ∃ (i : Nat) (vs : Nat → Option Addr) (cs : Nat → Nat), i ≤ m ∧ iv = .int .i64 (i : Nat) ∧ Below w.heap.size w wr ∧ Hid (wr.ownsRow w.heap.size 41 2 v i (entC (txM em) (kM em) vs cs i)) ∧ Hid (EntsO w.heap.size (kM em) (zP l em) i vs cs wr)) (fun _ iv _ => m - (intOf iv).toNat)
  case atStart => exact ⟨0, fun _ => none, fun _ => 0, Nat.zero_le _, rfl, Below.refl _ _, World.ownsRow_nil _ _ _ _, EntsO.nil _ _ _ _ _ _⟩
  case round =>
    obtain ⟨i, vs, cs, hi, rfl, hbel, HO, HEN⟩ := hrel
    have hsz := hbel.size
    obtain ⟨va, vc, hv⟩ := ownC_shape HO.out
    subst hv
    by_cases hlt : i < m
    · have hlt' : i < em.length := by rw [← HM.out]; exact hlt
      have hE := HE.out wr hbel
      have ha := hE.addr (by omega)
      subst ha
      have heb := hE.lt (by omega)
      have hxm : em.getD i default ∈ em := by rw [getD_at hlt']; exact List.getElem_mem hlt'
      have hint := hE.ints _ hxm
      have t1 := hE.list i hlt'
      obtain ⟨ya, hya⟩ : ∃ a, a = slA (em.getD i default).2 := ⟨_, rfl⟩
      obtain ⟨yc, hyc⟩ : ∃ a, a = slC (em.getD i default).2 := ⟨_, rfl⟩
      obtain ⟨k, hk⟩ : ∃ k, k = kM em i := ⟨_, rfl⟩
      have hsh := hint.shape
      rw [← hya, ← hyc] at hsh
      have hkz : (em.getD i default).1.zs.length = k := by rw [hk]; rfl
      rw [hkz] at hsh
      rw [hsh] at t1
      have hk4 : k ≤ 4 := by rw [← hkz]; exact (HZ.out _ hxm).1
      have HII : Hid (IntsIn w.heap.size wr ya k (aB ya) (aO ya) (fun q => (em.getD i default).1.zs.getD q 0)) := by
        have := hint.ints
        rw [← hya, hkz] at this
        exact this
      have HZN : Hid (∀ q, q < k → ∃ y ∈ l, y.name = (em.getD i default).1.zs.getD q 0) := fun q hq => by
        refine (HZ.out _ hxm).2 _ ?_
        generalize (em.getD i default).1.zs = zz at hkz
        rw [List.getD_eq_getElem?_getD, List.getElem?_eq_getElem (by omega)]
        exact List.getElem_mem _
      have HK : Hid (k = kM em i) := hk
      clear hxm hint hya hyc hk hsh hkz hE hlt'
      go_wp2
      clear t1
      go_loopw [8, 9] (fun v qv ws => ∃ q : Nat, q ≤ k ∧ qv = .int .i64 (q : Nat) ∧ Below wr.heap.size wr ws ∧ Hid (ws.ownsRow wr.heap.size 3 1 v q ((List.range q).map fun q => Value.int .i64 (zP l em i q)))) (fun _ qv _ => k - (intOf qv).toNat)
      case atStart => exact ⟨0, Nat.zero_le _, rfl, Below.refl _ _, World.ownsRow_nil _ _ _ _⟩
      case round =>
        rename World => ws
        obtain ⟨q, hq, rfl, hbs, HOS⟩ := hrel
        have hzs := hbs.size
        obtain ⟨sa, sc, hv⟩ := ownC_shape HOS.out
        subst hv
        have HBws : Hid (Below w.heap.size w ws) := hbel.trans (hbs.mono hsz)
        by_cases hqk : q < k
        · have hqk' : (q : Int) < (k : Int) := by omega
          have hya := HII.out.addr (by omega)
          have hyl := HII.out.lt (by omega)
          have z0 := cellTo hbs (HII.out.cell q hqk) (by show aB ya < _; omega)
          rw [hya]
          generalize aB ya = yb at z0 hyl
          generalize aO ya = yo at z0
          have HZP : Hid (zP l em i q = plc l ((em.getD i default).1.zs.getD q 0)) := rfl
          have hzin := HZN.out q hqk
          generalize (em.getD i default).1.zs.getD q 0 = zz at z0 HZP hzin
          obtain ⟨pl, hpl⟩ : ∃ x, x = plc l zz := ⟨_, rfl⟩
          have HCP : Hid (Calls Try.prog 66 #[.slice la n lc, .int .i64 zz] ws fun e w' => e = .returned (.int .i64 pl) ∧ w' = ws) := by
            show Calls _ _ _ _ _
            rw [hpl, HN.out]
            exact placeOf_any la lc gv l zz ws (by have := HN.out; omega) hzin (HL.out ws HBws.out)
          have HPL : Hid (zP l em i q = pl) := by show _ = _; rw [HZP.out, hpl]
          clear hpl hzin hya
          go_wp2_with (first
            | (go_at_call 66; refine (HCP.out).mono ?_; rintro e wq ⟨rfl, hwq⟩; obtain rfl := hwq.symm; clear hwq)
            | (at_builtin; refine wpList_append_lies _ (by rfl) (.tmp 34) (.tmp 36) 22 (by rfl) wr.heap.size 3 j0 (.int .i64 0) 1 8 Try.underlying22 hj0 hp0 hp1 hp2 rfl (by omega) _ q _ (by rfl) (HOS.out.alloc _) ⟨ws.heap.size, 0, none⟩ 1 1 [.int .i64 pl] (by rfl) (by rfl) ?d1 ?d2 (by omega) ?d3 ?d5 ?d4 (ws.heap.size + 1) (by simp) ?_))
          case d1 => exact cell_one_new _ _ _
          case d2 => intro u hu; simp at hu; subst hu; rfl
          case d3 => unfold maxLen; omega
          case d5 => omega
          case d4 => simp; omega
          · intro g3 cap3 w3 hown3 hgrow3 _ _
            have HB3 : Hid (Below wr.heap.size wr w3) := ownC_grown_below (hbs.alloc (by omega) _) (by simp; omega) (HOS.out.alloc _) (Nat.le_refl _) hgrow3
            have HO3 : Hid (w3.ownsRow wr.heap.size 3 1 (.slice (some ⟨g3, 0, none⟩) (q + 1) cap3) (q + 1) ((List.range (q + 1)).map fun q => Value.int .i64 (zP l em i q))) := by
              show World.ownsRow _ _ _ _ _ _ _
              rw [List.range_succ, List.map_append, List.map_cons, List.map_nil, HPL.out]
              exact hown3
            clear hown3 hgrow3 z0 HCP
            go_wp2
            go_roundw
            case rel => exact ⟨q + 1, by omega, by go_num, HB3.out, HO3⟩
            case measure => simp [intOf]; omega
        · have hqe : q = k := by omega
          subst hqe
          have hE2 := HE.out ws HBws.out
          have hlt' : i < em.length := by rw [← HM.out]; exact hlt
          have t0 := hE2.text i hlt'
          have HTX : Hid (txM em i = (em.getD i default).1.tx) := rfl
          generalize (em.getD i default).1.tx = yt at t0 HTX
          have HOA : Hid (ws.ownsRow w.heap.size 41 2 (.slice va i vc) i (entC (txM em) (kM em) vs cs i)) := ownC_below HO.out hbs
          clear hE2 hlt'
          go_wp2_with (first
            | (at_builtin; refine wpList_append_lies _ (by rfl) (.tmp 38) (.tmp 46) 25 (by rfl) w.heap.size 41 i0 (.agg #[.string ByteArray.empty, .slice none 0 0]) 2 40 Try.underlying25 hi0 hq0 hq1 hq2 rfl (by omega) _ i _ (by rfl) (HOA.out.alloc _) ⟨ws.heap.size, 0, none⟩ 1 1 [.string yt, .slice sa q sc] (by rfl) (by rfl) ?e1 ?e2 (by omega) ?e3 ?e5 ?e4 (ws.heap.size + 1) (by simp) ?_))
          case e1 => exact newC2 _ rfl _ _ _
          case e2 => intro u hu; simp at hu; rcases hu with rfl | rfl <;> rfl
          case e3 => unfold maxLen; omega
          case e5 => omega
          case e4 => simp; omega
          · intro g4 cap4 w4 hown4 hgrow4 _ _
            have hba : Below ws.heap.size ws (ws.alloc (.cells #[.string yt, .slice sa q sc] 41)) := below_one _
            have HBN : Hid (Below w.heap.size w w4) := ownC_grown_below (below_then HBws.out hba) (by simp; omega) (HOA.out.alloc _) (Nat.le_refl _) hgrow4
            have ho1 := HOS.out
            rw [HK.out] at ho1
            have hent1 := HEN.out.add hbs hsz ho1
            have HE2 : Hid (EntsO w.heap.size (kM em) (zP l em) (i + 1) (upd vs i sa) (upd cs i sc) w4) := (hent1.below hba).grown (HOA.out.alloc _) (by decide) hgrow4
            have HO2 : Hid (w4.ownsRow w.heap.size 41 2 (.slice (some ⟨g4, 0, none⟩) (i + 1) cap4) (i + 1) (entC (txM em) (kM em) (upd vs i sa) (upd cs i sc) (i + 1))) := by
              show _
              rw [entC_snoc, upd_at, upd_at, entC_congr (txM em) (kM em) (upd vs i sa) vs (upd cs i sc) cs i fun j hj => ⟨upd_ne _ _ _ (by omega), upd_ne _ _ _ (by omega)⟩, ← HK.out, HTX.out]
              exact hown4
            clear hown4 hgrow4 hent1 ho1 hba
            go_wp2
            go_roundw
            case rel => exact ⟨i + 1, _, _, by omega, by go_num, HBN.out, HO2, HE2⟩
            case measure => simp [intOf]; omega
    · have hie : i = m := by omega
      subst hie
      have HF : Hid (wr.ownsRow w.heap.size 41 2 (.slice va i vc) i (entC (txM em) (kM em) vs cs i) ∧ EntsO w.heap.size (kM em) (zP l em) i vs cs wr) := ⟨HO.out, HEN.out⟩
      go_wp2
      go_ret
      exact ⟨_, _, vs, cs, rfl, HF, hbel⟩

end Go.Proofs.Ytpclldccjpncdab

namespace Go.Proofs.Ytpclldccjpncdab
open Go.RowKit

/-- what Compile answers -/
def CmpAns (L : Lay) (s : ByteArray) (w : World) (e : Ending) (w' : World) : Prop := Below w.heap.size w w' ∧
  ((∃ (x : Int) (a : Nat), compE L s = .error (x, a) ∧ e = .returned (.tuple #[.agg #[.slice none 0 0, .slice none 0 0], .int .i64 x, .int .i64 (a : Nat)])) ∨
   (∃ (ls : List Sp) (es : List En) (no : Option Addr) (nc : Nat) (eo : Option Addr) (ec : Nat) (vs : Nat → Option Addr) (cs : Nat → Nat), compE L s = .ok (ls, es) ∧ e = .returned (.tuple #[.agg #[.slice no ls.length nc, .slice eo es.length ec], .int .i64 0, .int .i64 0]) ∧ w'.ownsRow w.heap.size 60 3 (.slice no ls.length nc) ls.length (ndsC ls) ∧ w'.ownsRow w.heap.size 41 2 (.slice eo es.length ec) es.length (entC (txE es) (kE es) vs cs es.length) ∧ EntsO w.heap.size (kE es) (zE es) es.length vs cs w'))
theorem begD {L : Lay} {g : Nat} {a : Option Addr} {c gv : Nat} {w : World} (hrow : w.rowIs g 76 4 (drF a L.n c L.ea L.m L.ec (.slice none 0 0) 0)) (hm : MemIn w.heap.size w a gv (lsB L L.n)) (hf : 0 < L.n → gv ≠ g) (hin : EntriesIn w.heap.size w L.ea L.m L.eb L.eo L.tx L.la L.k L.lc L.lb L.lo L.z) (hfe : 0 < L.m → L.eb ≠ g) (hfi : ∀ i, i < L.m → 0 < L.k i → L.lb i ≠ g) : Dr g (begS L) w := by
  have hls : (begS L).ls.length = L.n := lsB_len L L.n
  refine ⟨emB L, a, L.ea, c, L.ec, gv, L.eb, L.eo, .slice none 0 0, ?_, esM_emB L, hm, emB_in hin, ?_, ?_, ?_, fun x hx h0 => ?_, fun h0 => absurd h0 (Nat.lt_irrefl 0)⟩
  · rw [hls, emB_len]
    exact hrow
  · exact SlIn.of (zs := []) (b := 0) (o := 0) ⟨fun h => absurd h (Nat.lt_irrefl 0), fun h => absurd h (Nat.lt_irrefl 0), fun i h => absurd h (Nat.not_lt_zero _), by decide⟩
  · rw [hls]; exact hf
  · rw [emB_len]; exact hfe
  · rw [emB, List.mem_map] at hx
    obtain ⟨j, hj, rfl⟩ := hx
    rw [List.mem_range] at hj
    have hk : (enB L j).zs.length = L.k j := by simp [enB]
    have h0' : 0 < L.k j := by rw [← hk]; exact h0
    have ha := (hin.ints j hj).addr h0'
    show aB (L.la j) ≠ g
    rw [ha]
    exact hfi j hj h0'

set_option maxRecDepth 100000 in
set_option maxHeartbeats 8000000 in
theorem compileP_any (L : Lay) (s : ByteArray) (w : World) (h : L.In w.heap.size w) (hs : s.size ≤ 140737488351232) :
    Calls Try.prog 31 #[.agg #[.slice L.na L.n L.nc, .slice L.ea L.m L.ec], .string s] w (CmpAns L s w) := by
  have HIN : Hid (∀ wx, Below w.heap.size w wx → L.In w.heap.size wx) := fun wx hb => h.below hb
  have HLA : Hid (∀ wx, Below w.heap.size w wx → L.In wx.heap.size wx) := fun wx hb => h.later hb
  clear h
  obtain ⟨W, hW⟩ : ∃ W, W = (w.alloc (.cells #[.slice L.na L.n L.nc, .slice L.ea L.m L.ec] 27)).alloc (.cells #[.slice none 0 0, .slice none 0 0] 27) := ⟨_, rfl⟩
  have HB0 : Hid (Below w.heap.size w W) := by show Below _ _ _; rw [hW]; exact below_then (below_one _) (below_one _)
  have HT0 : Hid (W.rowIs w.heap.size 27 2 (fun j => #[Value.slice L.na L.n L.nc, .slice L.ea L.m L.ec].getD j undef)) := by show World.rowIs _ _ _ _ _; rw [hW]; exact (row_new _ _ _ 2 rfl).alloc _
  have HR0 : Hid (W.rowIs (w.heap.size + 1) 27 2 (fun j => #[Value.slice none 0 0, .slice none 0 0].getD j undef)) := by show World.rowIs _ _ _ _ _; rw [hW]; exact row_at (row_new _ _ _ 2 rfl) (by simp) (fun _ _ => rfl)
  have HWS : Hid (W.heap.size = w.heap.size + 2) := by show _ = _; rw [hW]; simp
  have hws := HWS.out
  have t0 : W.cell? ⟨w.heap.size, 0, none⟩ = some (.slice L.na L.n L.nc) := HT0.out.cell (i := 0) (by omega)
  have t1 : W.cell? ⟨w.heap.size, 1, none⟩ = some (.slice L.ea L.m L.ec) := HT0.out.cell (i := 1) (by omega)
  have HCV : Hid (Calls Try.prog 32 #[.agg #[.slice L.na L.n L.nc, .slice L.ea L.m L.ec]] W fun e w' => e = .returned (.int .i64 L.err) ∧ Below W.heap.size W w') := tableValid_any L W (HLA.out W HB0.out)
  obtain ⟨er0, her0⟩ : ∃ x, x = L.err := ⟨_, rfl⟩
  have HER : Hid (er0 = L.err) := her0
  rw [← her0] at HCV
  clear her0
  go_enter Try.func31, Try.ntmps31
  go_wp2_with fail
  rw [← hW]
  clear hW
  refine (HCV.out).mono ?_
  rintro e w1 ⟨rfl, hb1⟩
  have HB1 : Hid (Below W.heap.size W w1) := hb1
  have hz1 := hb1.size
  have HR1 : Hid (w1.rowIs (w.heap.size + 1) 27 2 (fun j => #[Value.slice none 0 0, .slice none 0 0].getD j undef)) := HR0.out.of_block (hb1.block _ (by omega))
  have HT1 : Hid (w1.rowIs w.heap.size 27 2 (fun j => #[Value.slice L.na L.n L.nc, .slice L.ea L.m L.ec].getD j undef)) := HT0.out.of_block (hb1.block _ (by omega))
  have HBW1 : Hid (Below w.heap.size w w1) := HB0.out.trans (hb1.mono (by omega))
  clear t0 t1 hb1 HCV
  by_cases he0 : er0 = 0
  · subst he0
    have HL0 : Hid (L.err = 0) := HER.out.symm
    have HCR : Hid (Calls Try.prog 39 #[.string s] w1 fun e w' => ∃ (R : List Rl) (v : Value) (a : Nat) (er : Int), e = .returned (.tuple #[v, .int .i64 er, .int .i64 (a : Nat)]) ∧ Hid (rdAll s = (R, er, a) ∧ R.length ≤ 120) ∧ Hid (w'.ownsRow w1.heap.size 48 5 v R.length (rulC R)) ∧ Below w1.heap.size w1 w') := ruleRead_any s w1 hs
    go_wp2_with fail
    refine (HCR.out).mono ?_
    rintro e w2 ⟨R, v, a, er, rfl, HRD, HRO, hb2⟩
    have hz2 := hb2.size
    have HR2 : Hid (w2.rowIs (w.heap.size + 1) 27 2 (fun j => #[Value.slice none 0 0, .slice none 0 0].getD j undef)) := HR1.out.of_block (hb2.block _ (by omega))
    have HT2 : Hid (w2.rowIs w.heap.size 27 2 (fun j => #[Value.slice L.na L.n L.nc, .slice L.ea L.m L.ec].getD j undef)) := HT1.out.of_block (hb2.block _ (by omega))
    have HBW2 : Hid (Below w.heap.size w w2) := HBW1.out.trans (hb2.mono (by omega))
    have HSM : Hid (∀ x ∈ R, x.small) := by have := rdAll_small s; rw [HRD.out.1] at this; exact this
    obtain ⟨ro, rb, rc, hv, hri⟩ := rules_in HRO.out (by have := HRD.out.2; omega) HSM.out
    subst hv
    have HRI : Hid (RulesIn w2.heap.size w2 ro R.length rb 0 (fun i => R.getD i default)) := hri
    clear hri hb2 HCR
    by_cases her : er = 0
    · subst her
      have HLN : Hid (R.length ≤ 120) := HRD.out.2
      have HGD : Hid ((∀ r ∈ R, r.ok) ∧ (∀ r, R.head? = some r → r.reset.size ≠ 0)) := ⟨(rdAll_good HRD.out.1).1, (rdAll_good HRD.out.1).2.1⟩
      have t0 : w2.cell? ⟨w.heap.size, 0, none⟩ = some (.slice L.na L.n L.nc) := HT2.out.cell (i := 0) (by omega)
      have t1 : w2.cell? ⟨w.heap.size, 1, none⟩ = some (.slice L.ea L.m L.ec) := HT2.out.cell (i := 1) (by omega)
      have HCM : Hid (∀ wz, Below w2.heap.size w2 wz → Calls Try.prog 40 #[.slice L.na L.n L.nc] wz fun e w' => ∃ (a : Option Addr) (c : Nat), e = .returned (.slice a L.n c) ∧ Hid (w'.ownsRow wz.heap.size 97 6 (.slice a L.n c) L.n (memC (lsB L L.n))) ∧ Below wz.heap.size wz w') := fun wz hb => membersOf_any L wz (HLA.out wz (below_then HBW2.out hb)).nodes (err_zero HL0.out).n
      have hzz : w.heap.size < w2.heap.size := by omega
      have hne1 : w.heap.size ≠ w2.heap.size := by omega
      have hne2 : w2.heap.size ≠ w.heap.size := by omega
      have HDZ : Hid ((w2.alloc (.cells #[.slice none 0 0, .slice none 0 0, .slice none 0 0, .int .i64 0] 76)).rowIs w2.heap.size 76 4 (fun j => #[Value.slice none 0 0, .slice none 0 0, .slice none 0 0, .int .i64 0].getD j undef)) := row_new _ _ _ 4 rfl
      go_upto_region 7 with (fail)
      go_cut [10] from 14 (fun v10 wd => ∃ g : Nat, v10 = .pointer (some ⟨g, 0, none⟩) ∧ w2.heap.size ≤ g ∧ Hid (Dr g (begS L) wd) ∧ Hid (Below w2.heap.size w2 wd))
      case first =>
        go_region_held3 (fun w' => w'.cell? ⟨w.heap.size, 0, none⟩ = some (.slice L.na L.n L.nc) ∧ w'.cell? ⟨w.heap.size, 1, none⟩ = some (.slice L.ea L.m L.ec)) (first | go_keep | (simp [hne1, hne2, u0, u1]; done) | (refine ⟨(((((OnlyRow.setCell _ _ _ _).trans (OnlyRow.setCell _ _ _ _)).trans (OnlyRow.setCell _ _ _ _)).trans (OnlyRow.setCell _ _ _ _)).cell u0 hne1), (((((OnlyRow.setCell _ _ _ _).trans (OnlyRow.setCell _ _ _ _)).trans (OnlyRow.setCell _ _ _ _)).trans (OnlyRow.setCell _ _ _ _)).cell u1 hne1)⟩)) (first
          | (go_at_call 40; refine (HCM.out w2.drew (Below.refl _ _).drew).mono ?_; rintro e wq ⟨a', c', rfl, HOq, hbq⟩; have u0 := cellTo ((Below.refl w2.heap.size w2).drew.trans hbq) t0 hzz; have u1 := cellTo ((Below.refl w2.heap.size w2).drew.trans hbq) t1 hzz; have hzq : w.heap.size < wq.heap.size := Nat.lt_of_lt_of_le hzz hbq.size; dsimp only)
          | (go_at_call 40; refine (HCM.out (w2.alloc (.cells #[.slice none 0 0, .slice none 0 0, .slice none 0 0, .int .i64 0] 76)).drew (below_one _).drew).mono ?_; rintro e wq ⟨a', c', rfl, HOq, hbq⟩; have u0 := cellTo ((below_one (w := w2) (.cells #[.slice none 0 0, .slice none 0 0, .slice none 0 0, .int .i64 0] 76)).drew.trans (hbq.mono (by simp))) t0 hzz; have u1 := cellTo ((below_one (w := w2) (.cells #[.slice none 0 0, .slice none 0 0, .slice none 0 0, .int .i64 0] 76)).drew.trans (hbq.mono (by simp))) t1 hzz; have hrq := (HDZ.out.drew).of_block (hbq.block _ (by simp)); have v0 := hrq.cell (i := 0) (by omega); have v1 := hrq.cell (i := 1) (by omega); have v2 := hrq.cell (i := 2) (by omega); have v3 := hrq.cell (i := 3) (by omega); have f0 := hrq.frozen 0; have f1 := hrq.frozen 1; have f2 := hrq.frozen 2; have f3 := hrq.frozen 3; dsimp only))
        · have hl0 : lsB L L.n = (begS L).ls := rfl
          have hoo := HOq.out
          obtain ⟨gm, hm⟩ := mem_in (lsB_len L L.n).symm hoo
          have hbX : Below w2.heap.size w2 (wq.alloc (.cells #[.slice a' L.n c', .slice L.ea L.m L.ec, .slice none 0 0, .int .i64 0] 76)) := ((Below.refl w2.heap.size w2).drew.trans hbq).alloc hbq.size _
          have hzq2 : w2.heap.size ≤ wq.heap.size := hbq.size
          have HD : Hid (Dr wq.heap.size (begS L) (wq.alloc (.cells #[.slice a' L.n c', .slice L.ea L.m L.ec, .slice none 0 0, .int .i64 0] 76))) := by
            have hin := (HIN.out _ (HBW2.out.trans (hbX.mono (by omega)))).entries
            refine begD (gv := gm) (row_new _ _ _ 4 rfl) ((hm.below (below_one _)).mono (below_one _).size) (fun h0 => ?_) (HLA.out _ (HBW2.out.trans (hbX.mono (by omega)))).entries (fun h0 => ?_) (fun i hi h0 => ?_)
            · have := hm.lt (by rw [lsB_len]; exact h0)
              omega
            · have := hin.lt h0
              omega
            · have := (hin.ints i hi).lt h0
              omega
          have HBX : Hid (Below w2.heap.size w2 (wq.alloc (.cells #[.slice a' L.n c', .slice L.ea L.m L.ec, .slice none 0 0, .int .i64 0] 76))) := hbX
          clear hoo hm hbX u0 u1 hbq HOq hl0
          go_wp2
          go_meet
          exact ⟨wq.heap.size, rfl, hzq2, HD, HBX⟩
        · have hoo := HOq.out
          obtain ⟨gm, hm⟩ := mem_in (lsB_len L L.n).symm hoo
          have hOX : OnlyRow w2.heap.size wq ((((wq.setCell ⟨w2.heap.size, 0, none⟩ (.slice a' L.n c')).setCell ⟨w2.heap.size, 1, none⟩ (.slice L.ea L.m L.ec)).setCell ⟨w2.heap.size, 2, none⟩ (.slice none 0 0)).setCell ⟨w2.heap.size, 3, none⟩ (.int .i64 0)) := (((OnlyRow.setCell _ _ _ _).trans (OnlyRow.setCell _ _ _ _)).trans (OnlyRow.setCell _ _ _ _)).trans (OnlyRow.setCell _ _ _ _)
          have hbq2 : Below w2.heap.size w2 wq := (below_one (w := w2) (.cells #[.slice none 0 0, .slice none 0 0, .slice none 0 0, .int .i64 0] 76)).drew.trans (hbq.mono (by simp))
          have hbX : Below w2.heap.size w2 ((((wq.setCell ⟨w2.heap.size, 0, none⟩ (.slice a' L.n c')).setCell ⟨w2.heap.size, 1, none⟩ (.slice L.ea L.m L.ec)).setCell ⟨w2.heap.size, 2, none⟩ (.slice none 0 0)).setCell ⟨w2.heap.size, 3, none⟩ (.int .i64 0)) := hOX.below hbq2 (Nat.le_refl _)
          have HD : Hid (Dr w2.heap.size (begS L) ((((wq.setCell ⟨w2.heap.size, 0, none⟩ (.slice a' L.n c')).setCell ⟨w2.heap.size, 1, none⟩ (.slice L.ea L.m L.ec)).setCell ⟨w2.heap.size, 2, none⟩ (.slice none 0 0)).setCell ⟨w2.heap.size, 3, none⟩ (.int .i64 0))) := by
            have hin := (HIN.out _ (HBW2.out.trans (hbX.mono (by omega)))).entries
            have hgm : 0 < L.n → gm ≠ w2.heap.size := fun h0 => by
              have ha := hm.addr (by rw [lsB_len]; exact h0)
              have := (ownC_lt hoo (b := gm) (by rw [ha]; rfl)).2
              simp at this
              omega
            refine begD (c := c') (gv := gm) ?_ (hm.keep (.only hOX) (by rw [lsB_len]; exact hgm)) hgm (HLA.out _ (HBW2.out.trans (hbX.mono (by omega)))).entries (fun h0 => ?_) (fun i hi h0 => ?_)
            · exact ((((hrq.set 0 _).set 1 _).set 2 _).set 3 _).congr fun j hj => by
                have : j = 0 ∨ j = 1 ∨ j = 2 ∨ j = 3 := by omega
                rcases this with rfl | rfl | rfl | rfl <;> rfl
            · have := hin.lt h0
              omega
            · have := (hin.ints i hi).lt h0
              omega
          have HBX : Hid (Below w2.heap.size w2 ((((wq.setCell ⟨w2.heap.size, 0, none⟩ (.slice a' L.n c')).setCell ⟨w2.heap.size, 1, none⟩ (.slice L.ea L.m L.ec)).setCell ⟨w2.heap.size, 2, none⟩ (.slice none 0 0)).setCell ⟨w2.heap.size, 3, none⟩ (.int .i64 0))) := hbX
          clear hoo hm hbX hOX hbq2 u0 u1 hbq HOq hrq v0 v1 v2 v3 f0 f1 f2 f3
          go_wp2
          go_meet
          exact ⟨w2.heap.size, rfl, Nat.le_refl _, HD, HBX⟩
      case rest =>
        rename World => wd
        obtain ⟨g, rfl, hg2, HDR, HBd⟩ := hcut
        clear t0 t1 HCM HDZ
        obtain ⟨N, hN⟩ : ∃ N, N = R.length := ⟨_, rfl⟩
        have HN : Hid (N = R.length) := hN
        rw [← hN] at HLN HRI HRO ⊢
        have hN120 := HLN.out
        clear hN
        have HRS : Hid (compE L s = match rulesE insE (begS L) R 0 with
            | .error x => .error x
            | .ok K => match weigh K.ls 0 0 0 with
              | none => .error (14, 0)
              | some ls' => .ok (ls', K.es.map fun e => ⟨e.tx, e.zs.map (plc K.ls)⟩)) := by
          show _ = _
          unfold compE
          rw [if_neg (by rw [HL0.out]; simp), HRD.out.1, if_neg (by simp)]
          rfl
        have HR3 : Hid (∀ wx, Below w2.heap.size w2 wx → wx.rowIs (w.heap.size + 1) 27 2 (fun j => #[Value.slice none 0 0, .slice none 0 0].getD j undef)) := fun wx hb => HR2.out.of_block (hb.block _ (by omega))
        go_wp2
        go_loopw [7, 11] (fun ev iv wr => ∃ (i : Nat) (K : Wk), ev = .int .i64 0 ∧ i ≤ N ∧ iv = .int .i64 (i : Nat) ∧ Hid (rulesE insE (begS L) R 0 = rulesE insE K (R.drop i) i) ∧ Hid (GoodK K ∧ SortE K.es ∧ (i = 0 ∨ Anch K)) ∧ Hid (Dr g K wr) ∧ Below w2.heap.size w2 wr) (fun _ iv _ => N - (intOf iv).toNat)
        case atStart => exact ⟨0, begS L, rfl, Nat.zero_le _, rfl, rfl, ⟨begS_good HL0.out, esB_sort HL0.out, .inl rfl⟩, HDR, HBd.out⟩
        case round =>
          obtain ⟨i, K, rfl, hi, rfl, HRU, HGK, HDK, hbel⟩ := hrel
          have hsz := hbel.size
          by_cases hlt : i < N
          · have hlt' : i < R.length := by rw [← HN.out]; exact hlt
            have hltI : (i : Int) < (N : Int) := by omega
            have hri := HRI.out.below hbel
            have hro := hri.addr (by omega)
            have hrb := hri.lt (by omega)
            have c0 := hri.c0 i hlt
            have c1 := hri.c1 i hlt
            have c2 := hri.c2 i hlt
            have c3 := hri.c3 i hlt
            have c4 := hri.c4 i hlt
            simp only [Nat.zero_add] at c0 c1 c2 c3 c4
            subst hro
            obtain ⟨r, hr⟩ : ∃ r, r = R.getD i default := ⟨_, rfl⟩
            rw [← hr] at c0 c1 c2 c3 c4
            have hrm : r ∈ R := by rw [hr, getD_at hlt']; exact List.getElem_mem hlt'
            have HROK : Hid (r.ok) := HGD.out.1 r hrm
            have HDROP : Hid (R.drop i = r :: R.drop (i + 1)) := by show _ = _; rw [List.drop_eq_getElem_cons hlt', hr, getD_at hlt']
            have HAN : Hid (r.reset.size ≠ 0 ∨ Anch K) := by
              rcases HGK.out.2.2 with h0 | h0
              · left
                refine HGD.out.2 r ?_
                rw [hr, h0]
                cases R with
                | nil => simp at hlt'
                | cons a b => rfl
              · exact .inr h0
            obtain ⟨em, la, ea, lc, ec, gv, eb, eo, sv, hD⟩ := HDK.out
            have HCA : Hid (Calls Try.prog 41 #[.pointer (some ⟨g, 0, none⟩), .agg #[.string r.reset, .int .i64 r.before, .int .i64 r.level, .string r.text, .string r.more]] wr fun e w' => ∃ er : Int, e = .returned (.int .i64 er) ∧ Hid (AppR g K r er w') ∧ Hid (Below w2.heap.size wr w')) := apply_any w2.heap.size g K em la ea lc ec gv eb eo sv wr r HGK.out.1 HGK.out.2.1 HROK.out HAN.out hD hg2
            have HNEXT : Hid (∀ K', ruleE insE K r = .ok K' → GoodK K' ∧ SortE K'.es ∧ Anch K') := fun K' hq => by
              obtain ⟨g2, a2⟩ := ruleE_good HGK.out.1 (upd_ins HGK.out.2.1) HROK.out HAN.out hq
              refine ⟨g2, ?_, a2⟩
              have h1 : rulesE insE K [r] 0 = .ok K' := by
                unfold rulesE
                rw [hq]
                rfl
              exact (rulesE_good [r] K K' 0 HGK.out.1 HGK.out.2.1 (fun x hx => by rw [List.mem_singleton] at hx; rw [hx]; exact HROK.out) (HAN.out.imp (fun h x hx => by simp at hx; rw [← hx]; exact h) id) h1).2
            clear hr hrm hri hlt' hD
            go_wp2_with fail
            refine (HCA.out).mono ?_
            rintro e we ⟨er, rfl, HAP, HBe⟩
            have HBwe : Hid (Below w2.heap.size w2 we) := hbel.trans HBe.out
            clear c0 c1 c2 c3 c4 HCA
            cases hq : ruleE insE K r with
            | error x =>
              have hx := ruleE_err hq
              have hex : er = x := by
                have := HAP.out
                unfold AppR at this
                rw [hq] at this
                exact this
              subst hex
              have HE : Hid (compE L s = .error (er, i)) := by
                show _ = _
                rw [HRS.out, HRU.out, HDROP.out, rulesE, hq]
              have hne' : (er == 0) = false := by simp; omega
              have hne3 : (er != 0) = true := by simp; omega
              have HR4 : Hid (we.rowIs (w.heap.size + 1) 27 2 (fun j => #[Value.slice none 0 0, .slice none 0 0].getD j undef)) := HR3.out we HBwe.out
              have r0 := HR4.out.cell (i := 0) (by omega)
              have r1 := HR4.out.cell (i := 1) (by omega)
              have f0 := HR4.out.frozen 0
              have f1 := HR4.out.frozen 1
              clear hq hx HAP
              go_wp2
              refine bodyPost_ret (resC3 rfl _ (w.heap.size + 1) _ _ (by rfl) ((HR4.out.set 0 (.slice none 0 0)).set 1 (.slice none 0 0)) Try.underlying27 rfl sizeTabC) rfl ?_
              have hO : OnlyRow (w.heap.size + 1) we ((we.setCell ⟨w.heap.size + 1, 0, none⟩ (.slice none 0 0)).setCell ⟨w.heap.size + 1, 1, none⟩ (.slice none 0 0)) := (OnlyRow.setCell _ _ _ _).trans (OnlyRow.setCell _ _ _ _)
              exact ⟨hO.below (HBW2.out.trans (HBwe.out.mono (by omega))) (by omega), .inl ⟨er, i, HE.out, rfl⟩⟩
            | ok K' =>
              have hAP := HAP.out
              unfold AppR at hAP
              rw [hq] at hAP
              obtain ⟨hex, hdr⟩ := hAP
              subst hex
              have HD' : Hid (Dr g K' we) := hdr
              have HG' : Hid (GoodK K' ∧ SortE K'.es ∧ (i + 1 = 0 ∨ Anch K')) := ⟨(HNEXT.out K' hq).1, (HNEXT.out K' hq).2.1, .inr (HNEXT.out K' hq).2.2⟩
              have HRU' : Hid (rulesE insE (begS L) R 0 = rulesE insE K' (R.drop (i + 1)) (i + 1)) := by
                show _ = _
                rw [HRU.out, HDROP.out, rulesE, hq]
              clear hq hdr HAP
              go_wp2
              go_roundw
              case rel => exact ⟨i + 1, K', rfl, by omega, by go_num, HRU', HG', HD', HBwe.out⟩
              case measure => simp [intOf]; omega
          · have HRK : Hid (rulesE insE (begS L) R 0 = .ok K) := by
              show _ = _
              rw [HRU.out, List.drop_of_length_le (by rw [← HN.out]; omega)]
              rfl
            have hge : (N : Int) ≤ (i : Int) := by omega
            obtain ⟨em, la, ea, lc, ec, gv, eb, eo, sv, hD⟩ := HDK.out
            have HD : Hid (DrA g K em la ea lc ec gv eb eo sv wr) := hD
            have hn48 := HGK.out.1.ls
            have hm48 := HGK.out.1.es
            have hml : em.length = K.es.length := by rw [← hD.es]; exact (List.length_map _).symm
            obtain ⟨⟨d0, d1, _, _⟩, _⟩ := row4F hD.row
            simp only [drF] at d0 d1
            have HCW : Hid (Calls Try.prog 42 #[.slice la K.ls.length lc] wr fun e w' => ∃ (a : Option Addr) (n c : Nat) (b : Bool), e = .returned (.tuple #[.slice a n c, .bool b]) ∧ Hid ((weigh K.ls 0 0 0 = none ∧ b = false) ∨ (∃ ls', weigh K.ls 0 0 0 = some ls' ∧ b = true ∧ n = ls'.length ∧ w'.ownsRow wr.heap.size 60 3 (.slice a n c) n (ndsC ls'))) ∧ Below wr.heap.size wr w') := weighedP_any la lc gv K.ls wr (by omega) hD.list HGK.out.1.str
            obtain ⟨nk, hnk⟩ : ∃ n, n = K.ls.length := ⟨_, rfl⟩
            have HNK : Hid (nk = K.ls.length) := hnk
            rw [← hnk] at d0 HCW hn48
            obtain ⟨mk, hmk⟩ : ∃ n, n = em.length := ⟨_, rfl⟩
            have HMK : Hid (mk = em.length) := hmk
            rw [← hmk] at d1 hml
            have d0' : wr.cell? ⟨g, 0, none⟩ = some (.slice la nk lc) := d0
            have d1' : wr.cell? ⟨g, 1, none⟩ = some (.slice ea mk ec) := d1
            have hgr := hD.row.lt
            have HML : Hid (mk = K.es.length) := hml
            clear hD d0 d1 hnk hmk hml
            go_wp2_with fail
            refine (HCW.out).mono ?_
            rintro e we ⟨a', n', c', b, rfl, HWE, hbw⟩
            have HBwe : Hid (Below w2.heap.size w2 we) := hbel.trans (hbw.mono hsz)
            have hze := hbw.size
            have HR4 : Hid (we.rowIs (w.heap.size + 1) 27 2 (fun j => #[Value.slice none 0 0, .slice none 0 0].getD j undef)) := HR3.out we HBwe.out
            have e0 := cellTo hbw d0' hgr
            have e1 := cellTo hbw d1' hgr
            clear d0' d1' HCW
            cases b
            · have HE : Hid (compE L s = .error (14, 0)) := by
                show _ = _
                rw [HRS.out, HRK.out]
                rcases HWE.out with ⟨hn, _⟩ | ⟨_, _, hb, _⟩
                · simp only
                  rw [hn]
                · cases hb
              have r0 := HR4.out.cell (i := 0) (by omega)
              have r1 := HR4.out.cell (i := 1) (by omega)
              have f0 := HR4.out.frozen 0
              have f1 := HR4.out.frozen 1
              go_wp2
              refine bodyPost_ret (resC3 rfl _ (w.heap.size + 1) _ _ (by rfl) ((HR4.out.set 0 (.slice none 0 0)).set 1 (.slice none 0 0)) Try.underlying27 rfl sizeTabC) rfl ?_
              have hO : OnlyRow (w.heap.size + 1) we ((we.setCell ⟨w.heap.size + 1, 0, none⟩ (.slice none 0 0)).setCell ⟨w.heap.size + 1, 1, none⟩ (.slice none 0 0)) := (OnlyRow.setCell _ _ _ _).trans (OnlyRow.setCell _ _ _ _)
              exact ⟨hO.below (HBW2.out.trans (HBwe.out.mono (by omega))) (by omega), .inl ⟨14, 0, HE.out, rfl⟩⟩
            · have HWY : ∃ ls', weigh K.ls 0 0 0 = some ls' ∧ n' = ls'.length ∧ we.ownsRow wr.heap.size 60 3 (.slice a' n' c') n' (ndsC ls') := by
                rcases HWE.out with ⟨_, hb⟩ | ⟨ls', h1, _, h2, h3⟩
                · cases hb
                · exact ⟨ls', h1, h2, h3⟩
              obtain ⟨ls', hw1, hw2, hw3⟩ := HWY
              have HE : Hid (compE L s = .ok (ls', K.es.map fun e => ⟨e.tx, e.zs.map (plc K.ls)⟩)) := by
                show _ = _
                rw [HRS.out, HRK.out]
                simp only
                rw [hw1]
              have HWO : Hid (n' = ls'.length ∧ we.ownsRow wr.heap.size 60 3 (.slice a' n' c') n' (ndsC ls')) := ⟨hw2, hw3⟩
              have HDe : Hid (DrA g K em la ea lc ec gv eb eo sv we) := HD.out.below hbw
              have HCP : Hid (Calls Try.prog 43 #[.slice la nk lc, .slice ea mk ec] we fun e w' => ∃ (a : Option Addr) (c : Nat) (vs : Nat → Option Addr) (cs : Nat → Nat), e = .returned (.slice a mk c) ∧ Hid (w'.ownsRow we.heap.size 41 2 (.slice a mk c) mk (entC (txM em) (kM em) vs cs mk) ∧ EntsO we.heap.size (kM em) (zP K.ls em) mk vs cs w') ∧ Below we.heap.size we w') := by
                show Calls _ _ _ _ _
                rw [HNK.out, HMK.out]
                refine placedEntries_any la ea lc ec gv eb eo K.ls em we (by have := HNK.out; omega) (by have := HMK.out; have := HML.out; omega) HDe.out.list HDe.out.ents (fun x hx => ?_)
                have hxe : x.1 ∈ K.es := by rw [← HD.out.es]; exact List.mem_map_of_mem hx
                have hxg := HGK.out.1.ent _ hxe
                exact ⟨hxg.2.1.2, fun z hz => HGK.out.1.name z (hxg.2.2 z hz).1 (hxg.2.2 z hz).2⟩
              clear hw1 hw2 hw3 HWE
              go_wp2_with fail
              refine (HCP.out).mono ?_
              rintro e wf ⟨pa, pc, vs, cs, rfl, HPE, hbf⟩
              have HBwf : Hid (Below w2.heap.size w2 wf) := HBwe.out.trans (hbf.mono (by omega))
              have HR5 : Hid (wf.rowIs (w.heap.size + 1) 27 2 (fun j => #[Value.slice none 0 0, .slice none 0 0].getD j undef)) := HR3.out wf HBwf.out
              have r0 := HR5.out.cell (i := 0) (by omega)
              have r1 := HR5.out.cell (i := 1) (by omega)
              have f0 := HR5.out.frozen 0
              have f1 := HR5.out.frozen 1
              have HNO : Hid (wf.ownsRow wr.heap.size 60 3 (.slice a' n' c') n' (ndsC ls')) := ownC_below HWO.out.2 hbf
              have hze2 := hbf.size
              clear e0 e1 HCP hbf
              go_wp2
              refine bodyPost_ret (resC3 rfl _ (w.heap.size + 1) _ _ (by rfl) ((HR5.out.set 0 (.slice a' n' c')).set 1 (.slice pa mk pc)) Try.underlying27 rfl sizeTabC) rfl ?_
              have hO : OnlyRow (w.heap.size + 1) wf ((wf.setCell ⟨w.heap.size + 1, 0, none⟩ (.slice a' n' c')).setCell ⟨w.heap.size + 1, 1, none⟩ (.slice pa mk pc)) := (OnlyRow.setCell _ _ _ _).trans (OnlyRow.setCell _ _ _ _)
              have hel : (K.es.map fun e => (⟨e.tx, e.zs.map (plc K.ls)⟩ : En)).length = mk := by rw [List.length_map]; exact HML.out.symm
              have hat : ∀ j, j < mk → (K.es.map fun e => (⟨e.tx, e.zs.map (plc K.ls)⟩ : En)).getD j default = ⟨txM em j, (em.getD j default).1.zs.map (plc K.ls)⟩ := fun j hj => by
                have h1 : j < em.length := by rw [← HMK.out]; exact hj
                have h2 : j < (K.es.map fun e => (⟨e.tx, e.zs.map (plc K.ls)⟩ : En)).length := by rw [hel]; exact hj
                rw [getD_at h2, List.getElem_map]
                have h5 : j < K.es.length := by rw [← HML.out]; exact hj
                have h3 : K.es[j]'h5 = em[j].1 := by
                  have h4 := esM_at h1
                  rw [HD.out.es, getD_at h5, getD_at h1] at h4
                  exact h4
                rw [h3, txM, getD_at h1]
              refine ⟨hO.below (HBW2.out.trans (HBwf.out.mono (by omega))) (by omega), .inr ⟨ls', _, a', c', pa, pc, vs, cs, HE.out, ?_, ?_, ?_, ?_⟩⟩
              · rw [hel, ← HWO.out.1]
                rfl
              · rw [← HWO.out.1]
                exact ownC_base (own_only hO HNO.out (fun e => by have := (ownC_lt HNO.out e).2; omega)) (by omega)
              · rw [hel]
                have hec : entC (txE (K.es.map fun e => (⟨e.tx, e.zs.map (plc K.ls)⟩ : En))) (kE (K.es.map fun e => (⟨e.tx, e.zs.map (plc K.ls)⟩ : En))) vs cs mk = entC (txM em) (kM em) vs cs mk := by
                  unfold entC
                  rw [List.flatMap_def, List.flatMap_def]
                  congr 1
                  refine List.map_congr_left fun j hj => ?_
                  rw [List.mem_range] at hj
                  rw [txE, kE, hat j hj]
                  simp only [List.length_map]
                  rfl
                rw [hec]
                exact ownC_base (own_only hO HPE.out.1 (fun e => by have := (ownC_lt HPE.out.1 e).2; omega)) (by omega)
              · rw [hel]
                refine ⟨fun j hj => ?_, HPE.out.2.apart⟩
                have ho := HPE.out.2.own j hj
                have hk1 : kE (K.es.map fun e => (⟨e.tx, e.zs.map (plc K.ls)⟩ : En)) j = kM em j := by rw [kE, hat j hj, List.length_map]; rfl
                have hz1 : (List.range (kM em j)).map (fun q => Value.int .i64 (zE (K.es.map fun e => (⟨e.tx, e.zs.map (plc K.ls)⟩ : En)) j q)) = (List.range (kM em j)).map (fun q => Value.int .i64 (zP K.ls em j q)) := by
                  refine List.map_congr_left fun q hq => ?_
                  rw [List.mem_range] at hq
                  rw [zE, hat j hj, zP]
                  have hq' : q < (em.getD j default).1.zs.length := hq
                  simp only
                  generalize (em.getD j default).1.zs = zz at hq' ⊢
                  rw [List.getD_eq_getElem?_getD, List.getElem?_map, List.getD_eq_getElem?_getD, List.getElem?_eq_getElem hq']
                  rfl
                rw [hk1, hz1]
                exact ownC_base (own_only hO ho (fun e => by have := (ownC_lt ho e).2; omega)) (by omega)
    · have HE : Hid (compE L s = .error (er, a)) := by
        show _ = _
        unfold compE
        rw [if_neg (by rw [HL0.out]; simp), HRD.out.1, if_pos her]
      have her' : (er == 0) = false := beq_eq_false_iff_ne.2 her
      have her2 : (er != 0) = true := by simp [her]
      have r0 := HR2.out.cell (i := 0) (by omega)
      have r1 := HR2.out.cell (i := 1) (by omega)
      have f0 := HR2.out.frozen 0
      have f1 := HR2.out.frozen 1
      go_wp2
      refine bodyPost_ret (resC3 rfl _ (w.heap.size + 1) _ _ (by rfl) ((HR2.out.set 0 (.slice none 0 0)).set 1 (.slice none 0 0)) Try.underlying27 rfl sizeTabC) rfl ?_
      have hO : OnlyRow (w.heap.size + 1) w2 ((w2.setCell ⟨w.heap.size + 1, 0, none⟩ (.slice none 0 0)).setCell ⟨w.heap.size + 1, 1, none⟩ (.slice none 0 0)) := (OnlyRow.setCell _ _ _ _).trans (OnlyRow.setCell _ _ _ _)
      exact ⟨hO.below HBW2.out (by omega), .inl ⟨er, a, HE.out, rfl⟩⟩
  · have HE : Hid (compE L s = .error (er0, 0)) := by
      show _ = _
      unfold compE
      rw [← HER.out, if_pos he0]
    have her' : (er0 == 0) = false := beq_eq_false_iff_ne.2 he0
    have her2 : (er0 != 0) = true := by simp [he0]
    have r0 := HR1.out.cell (i := 0) (by omega)
    have r1 := HR1.out.cell (i := 1) (by omega)
    have f0 := HR1.out.frozen 0
    have f1 := HR1.out.frozen 1
    go_wp2
    refine bodyPost_ret (resC3 rfl _ (w.heap.size + 1) _ _ (by rfl) ((HR1.out.set 0 (.slice none 0 0)).set 1 (.slice none 0 0)) Try.underlying27 rfl sizeTabC) rfl ?_
    have hO : OnlyRow (w.heap.size + 1) w1 ((w1.setCell ⟨w.heap.size + 1, 0, none⟩ (.slice none 0 0)).setCell ⟨w.heap.size + 1, 1, none⟩ (.slice none 0 0)) := (OnlyRow.setCell _ _ _ _).trans (OnlyRow.setCell _ _ _ _)
    exact ⟨hO.below HBW1.out (by omega), .inl ⟨er0, 0, HE.out, rfl⟩⟩

set_option maxRecDepth 100000 in
set_option maxHeartbeats 1000000 in
theorem compile_any (L : Lay) (s : ByteArray) (w : World) (h : L.In w.heap.size w) (hs : s.size ≤ 140737488351232) :
    Calls Try.prog 10 #[.agg #[.slice L.na L.n L.nc, .slice L.ea L.m L.ec], .string s] w (CmpAns L s w) := by
  obtain ⟨W, hW⟩ : ∃ W, W = (w.alloc (.cells #[.slice L.na L.n L.nc, .slice L.ea L.m L.ec] 27)).alloc (.cells #[.slice none 0 0, .slice none 0 0] 27) := ⟨_, rfl⟩
  have HB0 : Hid (Below w.heap.size w W) := by show Below _ _ _; rw [hW]; exact below_then (below_one _) (below_one _)
  have HT0 : Hid (W.rowIs w.heap.size 27 2 (fun j => #[Value.slice L.na L.n L.nc, .slice L.ea L.m L.ec].getD j undef)) := by show World.rowIs _ _ _ _ _; rw [hW]; exact (row_new _ _ _ 2 rfl).alloc _
  have HR0 : Hid (W.rowIs (w.heap.size + 1) 27 2 (fun j => #[Value.slice none 0 0, .slice none 0 0].getD j undef)) := by show World.rowIs _ _ _ _ _; rw [hW]; exact row_at (row_new _ _ _ 2 rfl) (by simp) (fun _ _ => rfl)
  have HWS : Hid (W.heap.size = w.heap.size + 2) := by show _ = _; rw [hW]; simp
  have hws := HWS.out
  have HC : Hid (Calls Try.prog 31 #[.agg #[.slice L.na L.n L.nc, .slice L.ea L.m L.ec], .string s] W (CmpAns L s W)) := compileP_any L s W (h.later HB0.out) hs
  have t0 : W.cell? ⟨w.heap.size, 0, none⟩ = some (.slice L.na L.n L.nc) := HT0.out.cell (i := 0) (by omega)
  have t1 : W.cell? ⟨w.heap.size, 1, none⟩ = some (.slice L.ea L.m L.ec) := HT0.out.cell (i := 1) (by omega)
  clear h
  go_enter Try.func10, Try.ntmps10
  go_wp2_with fail
  rw [← hW]
  clear hW
  refine Calls.mono HC.out ?_
  rintro e w1 ⟨hb1, hor⟩
  have hz1 := hb1.size
  have HR1 : Hid (w1.rowIs (w.heap.size + 1) 27 2 (fun i => #[Value.slice none 0 0, .slice none 0 0].getD i undef)) := HR0.out.of_block (hb1.block _ (by omega))
  have HB1 : Hid (Below w.heap.size w w1) := HB0.out.trans (hb1.mono (by omega))
  have r0 := HR1.out.cell (i := 0) (by omega)
  have r1 := HR1.out.cell (i := 1) (by omega)
  have f0 := HR1.out.frozen 0
  have f1 := HR1.out.frozen 1
  clear hb1 HC t0 t1
  rcases hor with ⟨x, a, hE, rfl⟩ | ⟨ls, es, no, nc, eo, ec, vs, cs, hE, rfl, hn, he, hi⟩
  · have HE : Hid (compE L s = .error (x, a)) := hE
    clear hE
    go_wp2
    refine bodyPost_ret (resC3 rfl _ (w.heap.size + 1) _ _ (by rfl) ((HR1.out.set 0 (.slice none 0 0)).set 1 (.slice none 0 0)) Try.underlying27 rfl sizeTabC) rfl ?_
    have hO : OnlyRow (w.heap.size + 1) w1 ((w1.setCell ⟨w.heap.size + 1, 0, none⟩ (.slice none 0 0)).setCell ⟨w.heap.size + 1, 1, none⟩ (.slice none 0 0)) := (OnlyRow.setCell _ _ _ _).trans (OnlyRow.setCell _ _ _ _)
    exact ⟨hO.below HB1.out (by omega), .inl ⟨x, a, HE.out, rfl⟩⟩
  · rw [HWS.out] at hn he hi
    have HE : Hid (compE L s = .ok (ls, es)) := hE
    have HA : Hid (w1.ownsRow (w.heap.size + 2) 60 3 (.slice no ls.length nc) ls.length (ndsC ls) ∧ w1.ownsRow (w.heap.size + 2) 41 2 (.slice eo es.length ec) es.length (entC (txE es) (kE es) vs cs es.length) ∧ EntsO (w.heap.size + 2) (kE es) (zE es) es.length vs cs w1) := ⟨hn, he, hi⟩
    obtain ⟨n1, hn1⟩ : ∃ n, n = ls.length := ⟨_, rfl⟩
    obtain ⟨m1, hm1⟩ : ∃ n, n = es.length := ⟨_, rfl⟩
    have HN1 : Hid (n1 = ls.length ∧ m1 = es.length) := ⟨hn1, hm1⟩
    rw [← hn1, ← hm1]
    clear hE hn he hi hn1 hm1
    go_wp2
    refine bodyPost_ret (resC3 rfl _ (w.heap.size + 1) _ _ (by rfl) ((HR1.out.set 0 (.slice no n1 nc)).set 1 (.slice eo m1 ec)) Try.underlying27 rfl sizeTabC) rfl ?_
    have hO : OnlyRow (w.heap.size + 1) w1 ((w1.setCell ⟨w.heap.size + 1, 0, none⟩ (.slice no n1 nc)).setCell ⟨w.heap.size + 1, 1, none⟩ (.slice eo m1 ec)) := (OnlyRow.setCell _ _ _ _).trans (OnlyRow.setCell _ _ _ _)
    obtain ⟨hn, he, hi⟩ := HA.out
    refine ⟨hO.below HB1.out (by omega), .inr ⟨ls, es, no, nc, eo, ec, vs, cs, HE.out, ?_, ownC_base (own_only hO hn (fun e => by have := (ownC_lt hn e).2; omega)) (by omega), ownC_base (own_only hO he (fun e => by have := (ownC_lt he e).2; omega)) (by omega), fun j hj => ownC_base (own_only hO (hi.own j hj) (fun e => by have := (ownC_lt (hi.own j hj) e).2; omega)) (by omega), hi.apart⟩⟩
    rw [← HN1.out.1, ← HN1.out.2]
    rfl

end Go.Proofs.Ytpclldccjpncdab

namespace Go.Proofs.Ytpclldccjpncdab
open Go.RowKit

theorem ndL_len (s : ByteArray) : ∀ n, (ndL s n).length = n * 3
  | 0 => rfl
  | n + 1 => by rw [ndL_snoc, List.length_append, ndL_len s n]; simp; omega
theorem ndL_at (s : ByteArray) : ∀ n i, i < n → (ndL s n)[i * 3]? = some (.int .i64 (dp s i)) ∧ (ndL s n)[i * 3 + 1]? = some (.int .i64 (ds s i)) ∧ (ndL s n)[i * 3 + 2]? = some (.int .i64 (dt s i))
  | n + 1, i, h => by
    have hl := ndL_len s n
    rw [ndL_snoc]
    by_cases e : i = n
    · subst e
      refine ⟨?_, ?_, ?_⟩
      · rw [List.getElem?_append_right (by omega), hl, show i * 3 - i * 3 = 0 by omega]; rfl
      · rw [List.getElem?_append_right (by omega), hl, show i * 3 + 1 - i * 3 = 1 by omega]; rfl
      · rw [List.getElem?_append_right (by omega), hl, show i * 3 + 2 - i * 3 = 2 by omega]; rfl
    · rw [List.getElem?_append_left (by omega), List.getElem?_append_left (by omega), List.getElem?_append_left (by omega)]
      exact ndL_at s n i (by omega)
theorem entC_len (tx : Nat → ByteArray) (k : Nat → Nat) (vs : Nat → Option Addr) (cs : Nat → Nat) : ∀ n, (entC tx k vs cs n).length = n * 2
  | 0 => rfl
  | n + 1 => by rw [entC_snoc, List.length_append, entC_len tx k vs cs n]; simp; omega
theorem entC_at (tx : Nat → ByteArray) (k : Nat → Nat) (vs : Nat → Option Addr) (cs : Nat → Nat) : ∀ n i, i < n → (entC tx k vs cs n)[i * 2]? = some (.string (tx i)) ∧ (entC tx k vs cs n)[i * 2 + 1]? = some (.slice (vs i) (k i) (cs i))
  | n + 1, i, h => by
    have hl := entC_len tx k vs cs n
    rw [entC_snoc]
    by_cases e : i = n
    · subst e
      refine ⟨?_, ?_⟩
      · rw [List.getElem?_append_right (by omega), hl, show i * 2 - i * 2 = 0 by omega]; rfl
      · rw [List.getElem?_append_right (by omega), hl, show i * 2 + 1 - i * 2 = 1 by omega]; rfl
    · rw [List.getElem?_append_left (by omega), List.getElem?_append_left (by omega)]
      exact entC_at tx k vs cs n i (by omega)

def blk (a : Option Addr) : Nat := match a with | some a => a.block | none => 0
/-- the table that was read, as it lies in memory -/
def toldL (s : ByteArray) (no : Option Addr) (nc : Nat) (eo : Option Addr) (ec : Nat) (vs : Nat → Option Addr) (cs : Nat → Nat) : Lay :=
  { dL s with na := no, nc := nc, nb := blk no, ea := eo, ec := ec, eb := blk eo, la := vs, lc := cs, lb := fun i => blk (vs i) }
theorem toldL_err (s : ByteArray) (no : Option Addr) (nc : Nat) (eo : Option Addr) (ec : Nat) (vs : Nat → Option Addr) (cs : Nat → Nat) : (toldL s no nc eo ec vs cs).err = (dL s).err := rfl
theorem told_in {s : ByteArray} {B : Nat} {no : Option Addr} {nc : Nat} {eo : Option Addr} {ec : Nat} {vs : Nat → Option Addr} {cs : Nat → Nat} {w : World} (h : Told s B (.slice no (dn s) nc) (.slice eo (dm s) ec) vs cs w) : (toldL s no nc eo ec vs cs).In w.heap.size w := by
  have hn := bt_le s 0
  have hm := bt_le s (q0 s)
  refine ⟨?_, ?_⟩
  · obtain ⟨vo, vc, gv, hv, ha, hc⟩ := ownC_cells h.nodes
    cases hv
    have key : ∀ i, i < dn s → blk no = gv := fun i hi => by rw [(ha (by omega)).1]; rfl
    refine ⟨fun h0 => ?_, fun h0 => ?_, fun i hi => ?_, fun i hi => ?_, fun i hi => ?_, ?_⟩
    · show no = some ⟨blk no, 0, none⟩
      rw [(ha h0).1]; rfl
    · show blk no < _
      rw [(ha h0).1]; exact (ha h0).2.1
    · show w.cell? ⟨blk no, 0 + i * 3, none⟩ = _
      rw [key i hi, Nat.zero_add]
      have hi : i < dn s := hi
      exact hc _ _ (by omega) (ndL_at s _ i hi).1
    · show w.cell? ⟨blk no, 0 + i * 3 + 1, none⟩ = _
      rw [key i hi, Nat.zero_add]
      have hi : i < dn s := hi
      exact hc _ _ (by omega) (ndL_at s _ i hi).2.1
    · show w.cell? ⟨blk no, 0 + i * 3 + 2, none⟩ = _
      rw [key i hi, Nat.zero_add]
      have hi : i < dn s := hi
      exact hc _ _ (by omega) (ndL_at s _ i hi).2.2
    · show dn s * 24 ≤ _
      unfold dn; omega
  · obtain ⟨vo, vc, gv, hv, ha, hc⟩ := ownC_cells h.row
    cases hv
    have key : ∀ i, i < dm s → blk eo = gv := fun i hi => by rw [(ha (by omega)).1]; rfl
    refine ⟨fun h0 => ?_, fun h0 => ?_, fun i hi => ?_, fun i hi => ?_, fun i hi => ?_, ?_⟩
    · show eo = some ⟨blk eo, 0, none⟩
      rw [(ha h0).1]; rfl
    · show blk eo < _
      rw [(ha h0).1]; exact (ha h0).2.1
    · show w.cell? ⟨blk eo, 0 + i * 2, none⟩ = _
      rw [key i hi, Nat.zero_add]
      have hi : i < dm s := hi
      exact hc _ _ (by omega) (entC_at _ _ _ _ _ i hi).1
    · show w.cell? ⟨blk eo, 0 + i * 2 + 1, none⟩ = _
      rw [key i hi, Nat.zero_add]
      have hi : i < dm s := hi
      exact hc _ _ (by omega) (entC_at _ _ _ _ _ i hi).2
    · have hi : i < dm s := hi
      have hk := bt_le s (dkp s i)
      obtain ⟨vo', vc', gv', hv', ha', hc'⟩ := ownC_cells (h.ents.own i hi)
      injection hv' with hv1 hv2 hv3
      refine ⟨fun h0 => ?_, fun h0 => ?_, fun j hj => ?_, ?_⟩
      · show vs i = some ⟨blk (vs i), 0, none⟩
        rw [hv1, (ha' h0).1]; rfl
      · show blk (vs i) < _
        rw [hv1, (ha' h0).1]; exact (ha' h0).2.1
      · have hj : j < dk s i := hj
        show w.cell? ⟨blk (vs i), 0 + j, none⟩ = _
        rw [hv1, (ha' (by omega)).1, Nat.zero_add]
        exact hc' j _ (by omega) (by simp [hj]; rfl)
      · show dk s i * 8 ≤ _
        unfold dk; omega
    · show dm s * 40 ≤ _
      unfold dm; omega

/-- what Decode answers -/
def DecAns (s : ByteArray) (w : World) (e : Ending) (w' : World) : Prop := Below w.heap.size w w' ∧
  ((decE s = 0 ∧ ∃ no nc eo ec vs cs, e = .returned (.tuple #[.agg #[.slice no (dn s) nc, .slice eo (dm s) ec], .int .i64 0]) ∧ Told s w.heap.size (.slice no (dn s) nc) (.slice eo (dm s) ec) vs cs w') ∨
   (decE s ≠ 0 ∧ e = .returned (.tuple #[.agg #[.slice none 0 0, .slice none 0 0], .int .i64 (decE s)])))

end Go.Proofs.Ytpclldccjpncdab
