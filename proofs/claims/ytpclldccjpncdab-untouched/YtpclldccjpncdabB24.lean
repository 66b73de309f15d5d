import Derived.Test.YtpclldccjpncdabB23
namespace Go.Proofs.Ytpclldccjpncdab
open Go.RowKit

set_option maxRecDepth 100000 in
set_option maxHeartbeats 4000000 in
theorem made_any (nk nc nb no : Nat) (na : Option Addr) (nz : Nat → Int) (ek ec eb eo : Nat) (ea : Option Addr) (ez : Nat → Int) (w : World)
    (hn : IntsIn w.heap.size w na nk nb no nz) (hnz : ∀ i, i < nk → -9223372036854775808 ≤ nz i ∧ nz i ≤ 9223372036854775807)
    (he : IntsIn w.heap.size w ea ek eb eo ez) (hez : ∀ i, i < ek → -9223372036854775808 ≤ ez i ∧ ez i ≤ 9223372036854775807) :
    Calls Try.prog 7 #[.slice na nk nc, .slice ea ek ec] w (MadeResB w) := by
  have HN : Hid (IntsIn w.heap.size w na nk nb no nz) := hn
  have HNZ : Hid (∀ i, i < nk → -9223372036854775808 ≤ nz i ∧ nz i ≤ 9223372036854775807) := hnz
  have HE : Hid (IntsIn w.heap.size w ea ek eb eo ez) := he
  have HEZ : Hid (∀ i, i < ek → -9223372036854775808 ≤ ez i ∧ ez i ≤ 9223372036854775807) := hez
  clear hn hnz he hez
  go_enter Try.func7, Try.ntmps7
  go_wp2
  obtain ⟨R, hR⟩ : ∃ R, R = w.heap.size := ⟨_, rfl⟩
  obtain ⟨T, hT⟩ : ∃ T, T = w.heap.size + 1 := ⟨_, rfl⟩
  rw [← hT]
  obtain ⟨A, hA⟩ : ∃ A, A = T + 1 := ⟨_, rfl⟩
  rw [← hA]
  have HST : Hid (MadeN w R T A [] (.slice none 0 0) (((w.alloc (.cells #[.slice none 0 0, .slice none 0 0] 27)).alloc (.cells #[.slice none 0 0, .slice none 0 0] 27)).alloc (.cells #[.int .i64 0, .int .i64 0, .int .i64 0] 60))) := madeN_start hR hT hA
  clear hR hT hA
  go_loopw [7] (fun iv wr => ∃ (i : Nat) (ns : List Nd) (vo : Option Addr) (n vc : Nat), iv = .int .i64 (i : Nat) ∧ i ≤ 20 ∧ i ≤ nk ∧ n ≤ i ∧ ns.length = n ∧ MadeN w R T A ns (.slice vo n vc) wr) (fun iv _ => 20 - (intOf iv).toNat)
  case atStart => exact ⟨0, [], none, 0, 0, rfl, by omega, by omega, by omega, rfl, HST.out⟩
  case round =>
    clear HST
    obtain ⟨i, ns, vo, n, vc, rfl, hi20, hik, hni, hnn, hM⟩ := hrel
    have HM : Hid (MadeN w R T A ns (.slice vo n vc) wr) := hM
    have HNN : Hid (ns.length = n) := hnn
    clear hM hnn
    by_cases hlt : i < nk ∧ i < 20
    · obtain ⟨hlt1, hlt2⟩ := hlt
      have hb0 := HN.out.lt (by omega)
      have ha := HN.out.addr (by omega)
      subst ha
      have c0 := cellTo HM.out.below (HN.out.cell i hlt1) hb0
      obtain ⟨⟨p0, s0, t0⟩, hx0⟩ : ∃ x0, x0 = lastN ns := ⟨_, rfl⟩
      have HX0 : Hid ((p0, s0, t0) = lastN ns) := hx0
      have HFT : Hid (NodeFit p0 s0 t0) := by have := HM.out.fit; rw [← hx0] at this; exact this
      have hl := HM.out.last
      rw [← hx0] at hl
      obtain ⟨a0, a1, a2⟩ := nd_cells hl
      simp only [] at a0 a1 a2
      clear hx0 hl
      have hnz0 : nb < wr.heap.size := by have := HM.out.below.size; omega
      have hAz := HM.out.last.lt
      go_wp2
      go_cut [8] from 16 to 51 (fun x wc => NextMade w R T A ns (.slice vo n vc) wr x wc)
      case first =>
        go_region_with (go_at_call 26; refine (next_any _ _ _ _ _ HFT.out (HNZ.out i hlt1)).mono ?_; rintro e w1 ⟨⟨p', s', t', rfl, hnx⟩, hb1⟩; obtain ⟨hc, hf⟩ := bcell hb1; have hz1 := hb1.size)
        all_goals
          go_wp2
          go_meet
          first | exact next_after HM.out HX0.out hnx hb1 | exact next_before HM.out HX0.out hnx hb1
      case rest =>
        clear c0 a0 a1 a2
        obtain ⟨g, p', s', t', rfl, hM2, hg, hgz, hnx⟩ := hcut
        have HM2 : Hid (MadeN w R T A ns (.slice vo n vc) wc) := hM2
        have HG : Hid (wc.rowIs g 60 3 (ndFM (p', s', t'))) := hg
        have HNX : Hid (NextOf (lastN ns).1 (lastN ns).2.1 (lastN ns).2.2 p' s' t') := hnx
        clear hM2
        obtain ⟨a0, a1, a2⟩ := nd_cells hg
        simp only [] at a0 a1 a2
        clear hg hnx
        by_cases hfit : p' ≤ 250 ∧ s' ≤ 250 ∧ t' ≤ 250
        · obtain ⟨f1, f2, f3⟩ := hfit
          obtain ⟨b0, _, _, _⟩ := t_cells HM2.out.t
          obtain ⟨i0, hi0, hq0, hq1, hq2⟩ := info_parts Try.info53
          have hTz := HM2.out.t.lt
          have hwz : w.heap.size + 3 ≤ wc.heap.size := by have := HM2.out.last.lt; have := HM2.out.eA; omega
          go_wp2_with (at_builtin; refine wpList_append_lies _ (by rfl) (.tmp 46) (.tmp 48) 24 (by rfl) (w.heap.size + 3) 60 i0 (.agg #[.int .i64 0, .int .i64 0, .int .i64 0]) 3 24 Try.underlying24 hi0 hq0 hq1 hq2 rfl (by omega) _ n (flatN ns) (by rfl) (HNN.out ▸ HM2.out.own.alloc _) ⟨wc.heap.size, 0, none⟩ 1 1 (ndC (p', s', t')) (by rfl) (by rfl) ?c1 ?c2 (by omega) ?c3 ?c5 ?c4 (wc.heap.size + 1) (by simp) ?_)
          case c1 => exact new_nd3 _ _ _ _ _
          case c2 => intro u hu; simp [ndC] at hu; rcases hu with rfl | rfl | rfl <;> rfl
          case c3 => unfold maxLen; omega
          case c5 => omega
          case c4 => simp; omega
          intro g3 cap3 w3 hown2 hgrow _ _
          have HM3 : Hid (MadeN w R T A ns (.slice vo n vc) (wc.alloc (.cells #[.int .i64 p', .int .i64 s', .int .i64 t'] 60))) := HM2.out.later (below_one _)
          have hgr := HM3.out.grown hgrow
          obtain ⟨tb0, tb1, tf0, tf1⟩ := t_cells hgr.2.2.1
          have HGR : Hid (w3.rowIs g 60 3 (ndFM (p', s', t'))) := row_grown hgrow (HG.out.alloc _) (fun e => by have := (HM.out.own.lt _ e.symm).2; omega)
          obtain ⟨d0, d1, d2⟩ := nd_cells HGR.out
          simp only [] at d0 d1 d2
          obtain ⟨l0, l1, l2⟩ := nd_cells hgr.2.2.2
          have lf0 := hgr.2.2.2.frozen 0
          have lf1 := hgr.2.2.2.frozen 1
          have lf2 := hgr.2.2.2.frozen 2
          obtain ⟨q0, hq0'⟩ : ∃ q0, q0 = (lastN ns).1 := ⟨_, rfl⟩
          obtain ⟨q1, hq1'⟩ : ∃ q1, q1 = (lastN ns).2.1 := ⟨_, rfl⟩
          obtain ⟨q2, hq2'⟩ : ∃ q2, q2 = (lastN ns).2.2 := ⟨_, rfl⟩
          rw [← hq0'] at l0
          rw [← hq1'] at l1
          rw [← hq2'] at l2
          have hTA : ¬ T = A := by have := HM2.out.eT; have := HM2.out.eA; omega
          have hAT : ¬ A = T := fun h => hTA h.symm
          have hgT : ¬ g = T := by have := HM.out.t.lt; omega
          have hTg : ¬ T = g := fun h => hgT h.symm
          have hgA : ¬ g = A := by omega
          have hAg : ¬ A = g := fun h => hgA h.symm
          have HNB : Hid (nodeB p' s' t' = true ∧ NodeFit p' s' t') := next_node HNX.out ⟨f1, f2, f3⟩
          have HMA : Hid (MadeN w R T A (ns ++ [(p', s', t')]) (.slice (some ⟨g3, 0, none⟩) (n + 1) cap3) ((((w3.setCell ⟨T, 0, none⟩ (.slice (some ⟨g3, 0, none⟩) (n + 1) cap3)).setCell ⟨A, 0, none⟩ (.int .i64 p')).setCell ⟨A, 1, none⟩ (.int .i64 s')).setCell ⟨A, 2, none⟩ (.int .i64 t'))) :=
            HM3.out.add hgrow (by rw [HNN.out]; exact hown2) (nsOk_add HM2.out.ok HNB.out.1 (fun _ => HNX.out.above)) HNB.out.2
          clear hq0' hq1' hq2' hgr hown2 hgrow hi0 hq0 hq1 hq2 a0 a1 a2 b0
          go_wp2
          go_roundw
          case rel => exact ⟨i + 1, _, _, n + 1, _, by go_num, by omega, by omega, by omega, by rw [List.length_append, HNN.out]; rfl, HMA.out⟩
          case measure => simp [intOf]; omega
        · have HNF : Hid (¬ (p' ≤ 250 ∧ s' ≤ 250 ∧ t' ≤ 250)) := hfit
          clear hfit
          go_wp2
          all_goals first
            | (exfalso; have := HNF.out; omega)
            | (go_roundw
               case rel => exact ⟨i + 1, ns, vo, n, vc, by go_num, by omega, by omega, by omega, HNN.out, HM2.out⟩
               case measure => simp [intOf]; omega)
    · have HLT : Hid (¬ (i < nk ∧ i < 20)) := hlt
      clear hlt
      go_upto_region 4 with (fail)
      go_cut [23] from 16 to 51 (fun b wc => b = .bool false ∧ wc = wr)
      case first =>
        by_cases hk : i < nk
        · have hk2 : ¬ i < 20 := fun h => HLT.out ⟨hk, h⟩
          go_wp2
          go_meet
          exact ⟨by simp <;> omega, rfl⟩
        · go_wp2
          go_meet
          exact ⟨rfl, rfl⟩
      case rest =>
        obtain ⟨rfl, hwc⟩ := hcut
        subst hwc
        obtain ⟨b0, _, bf0, _⟩ := t_cells HM.out.t
        go_upto_if 55 with (fail)
        go_cut [] from 16 (fun wd => ∃ (ns : List Nd) (vo : Option Addr) (n vc : Nat), 1 ≤ n ∧ n ≤ 20 ∧ ns.length = n ∧ MadeE w R T ns (.slice vo n vc) [] (.slice none 0 0) wd)
        case first =>
          by_cases h0 : n = 0
          · subst h0
            obtain ⟨i0, hi0, hq0, hq1, hq2⟩ := info_parts Try.info53
            have hns : ns = [] := List.length_eq_zero_iff.1 HNN.out
            subst hns
            have hTz := HM.out.t.lt
            have hwz : w.heap.size + 3 ≤ wc.heap.size := by have := HM.out.last.lt; have := HM.out.eA; omega
            go_wp2_with (at_builtin; refine wpList_append_lies _ (by rfl) (.tmp 57) (.tmp 59) 24 (by rfl) (w.heap.size + 3) 60 i0 (.agg #[.int .i64 0, .int .i64 0, .int .i64 0]) 3 24 Try.underlying24 hi0 hq0 hq1 hq2 rfl (by omega) _ 0 [] (by rfl) (HM.out.own.alloc _) ⟨wc.heap.size, 0, none⟩ 1 1 (ndC (8, 8, 8)) (by rfl) (by rfl) ?c1 ?c2 (by omega) ?c3 ?c5 ?c4 (wc.heap.size + 1) (by simp) ?_)
            case c1 => exact new_nd3 _ _ _ _ _
            case c2 => intro u hu; simp [ndC] at hu; rw [hu]; rfl
            case c3 => unfold maxLen; omega
            case c5 => omega
            case c4 => simp; omega
            intro g3 cap3 w3 hown2 hgrow _ _
            have HM3 : Hid (MadeN w R T A [] (.slice vo 0 vc) (wc.alloc (.cells #[.int .i64 8, .int .i64 8, .int .i64 8] 60))) := HM.out.later (below_one _)
            have hgr := HM3.out.grown hgrow
            obtain ⟨tb0, tb1, tf0, tf1⟩ := t_cells hgr.2.2.1
            have HME : Hid (MadeE w R T [(8, 8, 8)] (.slice (some ⟨g3, 0, none⟩) 1 cap3) [] (.slice none 0 0) (w3.setCell ⟨T, 0, none⟩ (.slice (some ⟨g3, 0, none⟩) 1 cap3))) := HM3.out.fill hgrow (by simpa using hown2) (by decide)
            clear hown2 hgrow hgr hi0 hq0 hq1 hq2
            go_wp2
            go_meet
            exact ⟨_, _, 1, _, by omega, by omega, rfl, HME.out⟩
          · go_wp2
            go_meet
            exact ⟨ns, vo, n, vc, by omega, by omega, HNN.out, HM.out.toE⟩
        case rest =>
          clear HM HNN b0 bf0 HLT hni hi20 hik
          rename World => wd
          obtain ⟨ns, vo, n, vc, hn1, hn20, hnn, hME⟩ := hcut
          have HNN : Hid (ns.length = n) := hnn
          have HME : Hid (MadeE w R T ns (.slice vo n vc) [] (.slice none 0 0) wd) := hME
          clear hnn hME
          obtain ⟨b0, b1, _, _⟩ := t_cells HME.out.t
          go_wp2
          clear b0 b1
          go_loopw [10] (fun iv wr => ∃ (i : Nat) (es : List Ent) (eo' : Option Addr) (ec' : Nat), iv = .int .i64 (i : Nat) ∧ i ≤ 12 ∧ i ≤ n ∧ LettersE i es ∧ MadeE w R T ns (.slice vo n vc) es (.slice eo' i ec') wr) (fun iv _ => 12 - (intOf iv).toNat)
          case atStart => exact ⟨0, [], none, 0, rfl, by omega, by omega, lettersE_nil, HME.out⟩
          case round =>
            clear HME
            rename World => ws
            obtain ⟨i, es, eo', ec', rfl, hi12, hin, hle, hME⟩ := hrel
            have HLE : Hid (LettersE i es) := hle
            have HME : Hid (MadeE w R T ns (.slice vo n vc) es (.slice eo' i ec') ws) := hME
            clear hle hME
            by_cases hlt : i < n ∧ i < 12
            · obtain ⟨hlt1, hlt2⟩ := hlt
              obtain ⟨_, b1, _, bf1⟩ := t_cells HME.out.t
              have hTz := HME.out.t.lt
              have HOE : Hid (ws.ownsRow (w.heap.size + 3) 41 2 (.slice eo' i ec') i (flat es)) := by have := HME.out.ownE; rw [HLE.out.1] at this; exact this
              have hwz := HME.out.room
              have HTN : Hid (some T ≠ (Value.slice eo' i ec').ownBlock) := own_farM HME.out.ownE (by have := HME.out.eT; omega)
              go_wp2
              obtain ⟨i0, hi0, hq0, hq1, hq2⟩ := info_parts Try.info57
              go_region_law (first
                | ((refine step_append_lies _ (by rfl) (.tmp 75) (.tmp 81) 25 (by rfl) (w.heap.size + 3) 41 i0 (.agg #[.string ByteArray.empty, .slice none 0 0]) 2 40 Try.underlying25 hi0 hq0 hq1 hq2 rfl (by omega) (.slice eo' i ec') i (flat es) (by rfl) ((HOE.out.drew.alloc _).alloc _) ⟨ws.heap.size + 1, 0, none⟩ 1 1 [.string (ltr i), .slice (some ⟨ws.heap.size, 0, none⟩) 1 1] (by rfl) (by rfl) (new_two_at _ _ _ _ _ (by simp)) (by intro u hu; simp at hu; rcases hu with rfl | rfl <;> rfl) (by omega) (by unfold maxLen; omega) (by omega) (by simp; omega) (ws.heap.size + 1 + 1) (by simp) ?_; intro g3 cap3 w3 hown2 hgrow _ _; obtain ⟨tb0, tb1, tf0, tf1⟩ := t_cells ((((HME.out.later (Below.refl _ _).drew).later (below_one (.cells #[.int .i64 i] 3))).later (below_one (.cells #[.string (ltr i), .slice (some ⟨ws.heap.size, 0, none⟩) 1 1] 41))).grown hgrow).2.2.1))
                | (go_simp; go_at_call 27; refine (letter_any i _ (by omega)).mono ?_; rintro e w1 ⟨rfl, rfl⟩; dsimp only))
              all_goals
                have HLM : Hid (LetterMade w R T ns (.slice vo n vc) es i (w3.setCell ⟨T, 1, none⟩ (.slice (some ⟨g3, 0, none⟩) (i + 1) cap3))) := letter_made HME.out HLE.out.1 hown2 hgrow
                clear hown2 hgrow hi0 hq0 hq1 hq2
                go_wp2
                go_roundw
                case rel =>
                  obtain ⟨x, eo2, ec2, hx1, hx2, hx3, hME2⟩ := HLM.out
                  exact ⟨i + 1, _, _, _, by go_num, by omega, by omega, lettersE_add HLE.out ⟨hx1, hx2, hx3⟩, hME2⟩
                case measure => simp [intOf]; omega
            · have HLT2 : Hid (¬ (i < n ∧ i < 12)) := hlt
              clear hlt
              go_upto_region 14 with (fail)
              go_cut [71] from 65 to 83 (fun b wc => b = .bool false ∧ wc = ws)
              case first =>
                by_cases hk : i < n
                · have hk2 : ¬ i < 12 := fun h => HLT2.out ⟨hk, h⟩
                  go_wp2
                  go_meet
                  exact ⟨by simp <;> omega, rfl⟩
                · go_wp2
                  go_meet
                  exact ⟨rfl, rfl⟩
              case rest =>
                obtain ⟨rfl, hwc⟩ := hcut
                rename World => wy
                subst hwc
                obtain ⟨_, b1, _, _⟩ := t_cells HME.out.t
                have hk1 : 1 ≤ i := by have := HLT2.out; omega
                have HGE : Hid (GoodE n i es) := goodE_letters HLE.out hi12 hin
                have HEL : Hid (es.length = i) := HLE.out.1
                clear HLT2
                go_wp2
                clear b1
                go_loopw [12] (fun qv wr => ∃ (q : Nat) (es' : List Ent) (eo' : Option Addr) (m ec' : Nat), qv = .int .i64 (q : Nat) ∧ q ≤ 10 ∧ q ≤ ek ∧ m ≤ 12 + q ∧ es'.length = m ∧ GoodE n i es' ∧ MadeE w R T ns (.slice vo n vc) es' (.slice eo' m ec') wr) (fun qv _ => 10 - (intOf qv).toNat)
                case atStart => exact ⟨0, es, _, i, _, rfl, by omega, by omega, by omega, HEL.out, HGE.out, HME.out⟩
                case round =>
                  clear HME HGE HEL HLE
                  rename World => ws
                  obtain ⟨q, es', eo', m, ec', rfl, hq10, hqe, hm, hlen, hge, hME⟩ := hrel
                  have HLEN : Hid (es'.length = m) := hlen
                  have HGE : Hid (GoodE n i es') := hge
                  have HME : Hid (MadeE w R T ns (.slice vo n vc) es' (.slice eo' m ec') ws) := hME
                  clear hlen hge hME
                  by_cases hlt : q < ek ∧ q < 10
                  · obtain ⟨hlt1, hlt2⟩ := hlt
                    have hb0 := HE.out.lt (by omega)
                    have ha := HE.out.addr (by omega)
                    subst ha
                    have c0 := cellTo HME.out.below (HE.out.cell q hlt1) hb0
                    have hez := HEZ.out q hlt1
                    obtain ⟨v, hv⟩ : ∃ v, v = ez q := ⟨_, rfl⟩
                    rw [← hv] at c0 hez
                    clear hv
                    have v2 := quoIn v hez 2 (by omega)
                    have v3 := quoIn v hez 3 (by omega)
                    have v5 := quoIn v hez 5 (by omega)
                    have v7 := quoIn v hez 7 (by omega)
                    have v11 := quoIn v hez 11 (by omega)
                    have hwz : w.heap.size + 3 ≤ ws.heap.size := HME.out.room
                    go_upto_if 115 with (first
                      | (go_at_call 17; refine (pick_any _ _ _ (by omega) (by omega)).mono ?_; rintro e w1 ⟨r, rfl, hr, hw⟩; obtain rfl := hw.symm)
                      | (go_at_call 27; refine (letter_any _ _ (by omega)).mono ?_; rintro e w1 ⟨rfl, hw⟩; obtain rfl := hw.symm))
                    generalize htx : (ltr _ ++ ltr _) = tx0
                    have HTS : Hid (tx0.size = 2) := by show _ = _; rw [← htx, ByteArray.size_append, ltr_size, ltr_size]
                    clear htx
                    have HX0 : Hid (XMade ws n tx0 [] (.slice none 0 0) (ws.alloc (.cells #[.string tx0, .slice none 0 0] 41))) := xMade_start ws n tx0 (by have := HTS.out; omega)
                    have e11 := IntWalk.i64_quo' v 11 ⟨hez.1, hez.2, by omega⟩
                    have e7 := IntWalk.i64_quo' v 7 ⟨hez.1, hez.2, by omega⟩
                    go_cut [] from 87 to 149 (fun wf => ∃ tx, XMade ws n tx [] (.slice none 0 0) wf)
                    case first =>
                      by_cases hr0 : r = 0
                      · subst hr0
                        have hts : tx0.size = 2 := HTS.out
                        go_wp2
                        go_region_with (first
                          | (go_at_call 17; refine (pick_any _ _ _ (by first | omega | exact wrapIn _) (by omega)).mono ?_; rintro e w1 ⟨r2, rfl, hr2, hw⟩; obtain rfl := hw.symm)
                          | (go_at_call 27; refine (letter_any _ _ (by omega)).mono ?_; rintro e w1 ⟨rfl, hw⟩; obtain rfl := hw.symm))
                        all_goals
                          go_wp2
                          go_meet
                          exact ⟨_, (xMade_start ws n (tx0 ++ ltr r2) (by rw [ByteArray.size_append, HTS.out, ltr_size]; omega)).drew⟩
                      · go_wp2
                        go_meet
                        exact ⟨tx0, HX0.out⟩
                    case rest =>
                      clear c0 HX0 HTS
                      rename World => wf
                      obtain ⟨tx, hxm⟩ := hcut
                      have HXM : Hid (XMade ws n tx [] (.slice none 0 0) wf) := hxm
                      clear hxm
                      go_wp2
                      go_loopw [15] (fun jv wq => ∃ (j : Nat) (zs : List Int) (xo : Option Addr) (xc : Nat), jv = .int .i64 (j : Nat) ∧ j ≤ 4 ∧ zs.length = j ∧ XMade ws n tx zs (.slice xo j xc) wq) (fun jv _ => 4 - (intOf jv).toNat)
                      case atStart => exact ⟨0, [], none, 0, rfl, by omega, rfl, HXM.out⟩
                      case round =>
                        clear HXM
                        rename World => wq
                        obtain ⟨j, zs, xo, xc, rfl, hj4, hzl, hxm⟩ := hrel
                        have HXM : Hid (XMade ws n tx zs (.slice xo j xc) wq) := hxm
                        have HZL : Hid (zs.length = j) := hzl
                        clear hxm hzl
                        obtain ⟨x0, x1, xf0, xf1⟩ := x_cells HXM.out.x
                        have hqz : ws.heap.size < wq.heap.size := HXM.out.x.lt
                        go_upto_if 129 with (go_at_call 17; refine (pick_any _ _ _ (by omega) (by omega)).mono ?_; rintro e w1 ⟨rj, rfl, hrj, hw⟩; obtain rfl := hw.symm)
                        by_cases hjr : j ≤ rj
                        · have hjr' : (j : Int) ≤ (rj : Int) := by omega
                          go_wp2
                          obtain ⟨i0, hi0, hq0, hq1, hq2⟩ := info_parts Try.info3
                          have HXO : Hid (wq.ownsRow (ws.heap.size + 1) 3 1 (.slice xo j xc) j (zs.map (.int .i64))) := by have := HXM.out.own; rw [HZL.out] at this; exact this
                          go_region_law (first
                            | ((refine step_append_lies _ (by rfl) (.tmp 133) (.tmp 142) 22 (by rfl) (ws.heap.size + 1) 3 i0 (.int .i64 0) 1 8 Try.underlying22 hi0 hq0 hq1 hq2 rfl (by omega) (.slice xo j xc) j (zs.map (.int .i64)) (by rfl) (HXO.out.drew.alloc _) ⟨wq.heap.size, 0, none⟩ 1 1 [.int .i64 (r4 : Nat)] (by rfl) (by rfl) (new_one_at _ _ _ _ (by simp)) (by intro u hu; simp at hu; subst hu; rfl) (by omega) (by unfold maxLen; omega) (by omega) (by simp; omega) (wq.heap.size + 1) (by simp) ?_; intro g3 cap3 w3 hown2 hgrow _ _; obtain ⟨y0, y1, yf0, yf1⟩ := x_cells ((HXM.out.drew.later (below_one (.cells #[.int .i64 (r4 : Nat)] 3))).grown hgrow)))
                            | (go_simp; go_at_call 17; refine (pick_any _ _ _ (by first | omega | exact wrapIn _) (by omega)).mono ?_; rintro e w1 ⟨r4, rfl, hr4, hw⟩; obtain rfl := hw.symm; dsimp only))
                          all_goals
                            have HXA : Hid (XMade ws n tx (zs ++ [(r4 : Int)]) (.slice (some ⟨g3, 0, none⟩) (j + 1) cap3) (w3.setCell ⟨ws.heap.size, 1, none⟩ (.slice (some ⟨g3, 0, none⟩) (j + 1) cap3))) := (HXM.out.drew.later (below_one (.cells #[.int .i64 (r4 : Nat)] 3))).add hgrow (by rw [HZL.out]; exact hown2) hr4
                            clear hown2 hgrow hi0 hq0 hq1 hq2
                            go_wp2
                            go_roundw
                            case rel => exact ⟨j + 1, _, _, _, by go_num, by omega, by rw [List.length_append, HZL.out]; rfl, HXA.out⟩
                            case measure => simp [intOf]; omega
                        · have hjr' : ¬ ((j : Int) ≤ (rj : Int)) := by omega
                          obtain ⟨x, hx1, hx2, hx3, hx4, hx5⟩ := HXM.out.ent (by have := HZL.out; omega) (base := w.heap.size + 3) (by omega)
                          rw [← hx1] at x0
                          rw [← hx2] at x1
                          have HX4 : Hid (EntIn wq (w.heap.size + 3) x) := hx4
                          have HX5 : Hid (∀ q, q < x.k → 0 ≤ x.z q ∧ x.z q < (n : Int)) := hx5
                          have HX3 : Hid (x.k = j) := hx3.trans HZL.out
                          have HX1 : Hid (2 ≤ x.tx.size ∧ x.tx.size ≤ 3) := by show _ ∧ _; rw [hx1]; exact HXM.out.size
                          clear hx1 hx2 hx3 hx4 hx5
                          have HMQ : Hid (MadeE w R T ns (.slice vo n vc) es' (.slice eo' m ec') wq) := HME.out.later HXM.out.below
                          obtain ⟨_, b1, _, bf1⟩ := t_cells HMQ.out.t
                          have HOE : Hid (wq.ownsRow (w.heap.size + 3) 41 2 (.slice eo' m ec') m (flat es')) := by have := HMQ.out.ownE; rw [HLEN.out] at this; exact this
                          have hTz : T < wq.heap.size := HMQ.out.t.lt
                          go_wp2_with (go_at_call 28; refine (laid_some x es' m _ (w.heap.size + 3) _ HLEN.out (by omega) HOE.out).mono ?_; rintro e w2 ⟨vo2, m2, vc2, rfl, hm2, hown, hb1⟩; obtain ⟨hc, hf⟩ := bcell hb1)
                          go_roundw
                          case rel =>
                            refine ⟨q + 1, layL x es', _, m2, _, by go_num, by omega, by omega, ?_, hm2, goodE_lay HGE.out HX1.out (by rw [HX3.out]; omega) HX5.out, HMQ.out.turn hb1 (by rw [hm2]; exact hown) fun e he => ?_⟩
                            · have := layL_len x es'; have := HLEN.out; omega
                            · rcases layL_mem x es' e he with rfl | he
                              · exact HX4.out
                              · exact HMQ.out.ints e he
                          case measure => simp [intOf]; omega
                  · have HLT3 : Hid (¬ (q < ek ∧ q < 10)) := hlt
                    clear hlt
                    go_upto_region 19 with (fail)
                    go_cut [94] from 87 to 149 (fun b wc => b = .bool false ∧ wc = ws)
                    case first =>
                      by_cases hk : q < ek
                      · have hk2 : ¬ q < 10 := fun h => HLT3.out ⟨hk, h⟩
                        go_wp2
                        go_meet
                        exact ⟨by simp <;> omega, rfl⟩
                      · go_wp2
                        go_meet
                        exact ⟨rfl, rfl⟩
                    case rest =>
                      obtain ⟨rfl, hwc⟩ := hcut
                      rename World => wy
                      subst hwc
                      obtain ⟨b0, b1, _, _⟩ := t_cells HME.out.t
                      have HRR : Hid (wy.rowIs w.heap.size 27 2 (fun _ => .slice none 0 0)) := by have := HME.out.res; rw [HME.out.eR] at this; exact this
                      have r0 := HRR.out.cell (i := 0) (by omega)
                      have r1 := HRR.out.cell (i := 1) (by omega)
                      have rf0 := HRR.out.frozen 0
                      have rf1 := HRR.out.frozen 1
                      have hTR : ¬ T = w.heap.size := by have := HME.out.eT; omega
                      have hRT : ¬ w.heap.size = T := fun h => hTR h.symm
                      go_wp2
                      refine bodyPost_ret (v := .agg #[.slice vo n vc, .slice eo' m ec']) (results_cell_row rfl _ _ w.heap.size 27 #[.slice vo n vc, .slice eo' m ec'] (0, 0) _ (by rfl) ?hrow Try.underlying27 rfl size29) rfl ?_
                      case hrow => exact row2_cells ((HRR.out.set 0 (.slice vo n vc)).set 1 (.slice eo' m ec'))
                      exact made_res HME.out HGE.out HNN.out (by omega) HLEN.out (by omega) ⟨hk1, hi12⟩ (by rw [HME.out.eR]; exact (OnlyRow.setCell _ _ _ _).trans (OnlyRow.setCell _ _ _ _))

end Go.Proofs.Ytpclldccjpncdab

namespace Go.Proofs.Ytpclldccjpncdab
open Go.RowKit

/-- numbers that came in: they lie there, and are int's -/
structure RawIn (B : Nat) (w : World) (ao : Option Addr) (k b off : Nat) (z : Nat → Int) : Prop where
  ints : IntsIn B w ao k b off z
  range : ∀ i, i < k → -9223372036854775808 ≤ z i ∧ z i ≤ 9223372036854775807
theorem RawIn.later {w w' : World} {ao : Option Addr} {k b off : Nat} {z : Nat → Int} (h : RawIn w.heap.size w ao k b off z) (hb : Below w.heap.size w w') : RawIn w'.heap.size w' ao k b off z :=
  ⟨(h.ints.below hb).mono hb.size, h.range⟩

end Go.Proofs.Ytpclldccjpncdab

namespace Go.Proofs.Ytpclldccjpncdab
open Go.RowKit

theorem made_raw (nk nc nb no : Nat) (na : Option Addr) (nz : Nat → Int) (ek ec eb eo : Nat) (ea : Option Addr) (ez : Nat → Int) (w : World)
    (hn : RawIn w.heap.size w na nk nb no nz) (he : RawIn w.heap.size w ea ek eb eo ez) : Calls Try.prog 7 #[.slice na nk nc, .slice ea ek ec] w (MadeRes w) := by
  refine (made_any nk nc nb no na nz ek ec eb eo ea ez w hn.ints hn.range he.ints he.range).mono ?_
  rintro e w' ⟨L, k, h1, h2, h3, h4, h5, h6, h7, h8, _⟩
  exact ⟨L, k, h1, h2, h3, h4, h5, h6, h7, h8⟩
theorem spelled_24 (L : Lay) (rk rc rb ro : Nat) (ra : Option Addr) (rz : Nat → Int) (k : Nat) (w : World) (h : L.In w.heap.size w) (hm : L.m ≤ 48) (hk : 1 ≤ k ∧ k ≤ 12) (ho : ones L L.m = k) (hl : ∀ j, j < k → isText L.m L.tx (ltr j))
    (hr : RawIn w.heap.size w ra rk rb ro rz) :
    Calls Try.prog 16 #[.agg #[.slice L.na L.n L.nc, .slice L.ea L.m L.ec], .slice ra rk rc, .int .i64 24] w fun e w' => (∃ s, e = .returned (.string s) ∧ 1 ≤ s.size ∧ s.size ≤ 24 ∧ Spelt L s) ∧ Below w.heap.size w w' :=
  spelled_any L rk rc rb ro ra rz 24 k w h hm hk ho hl hr.ints hr.range (by omega)
/-- a text of letters that have an entry has pieces -/
theorem spelt_pos {L : Lay} {s : ByteArray} (h : Spelt L s) {q : Nat} (hq : Cut L.m L.tx s q) : pos L.m L.tx s q = s.size := by
  have h1 := pos_le L.m L.tx s q
  by_cases e : pos L.m L.tx s q < s.size
  · have := lenAt_max (n := 1) (by omega) (by omega) (by omega) (h _ e)
    have := hq.stop
    omega
  · omega
theorem pieces_spelt {L : Lay} {s : ByteArray} {v : Value} {er : Int} {w' : World} (he : L.err = 0) (hs : s.size ≤ 24) (h : Spelt L s) (ha : PiecesAns L s v er w') :
    ∃ q ao cap b off, er = 0 ∧ v = .slice ao q cap ∧ Cut L.m L.tx s q ∧ pos L.m L.tx s q = s.size ∧ StrsIn w'.heap.size w' ao q b off (piece L.m L.tx s) := by
  rcases ha with ⟨h1, _⟩ | ⟨_, h2, _⟩ | ⟨_, _, q, hq, ⟨h3, _⟩ | ⟨h3, h4, ao, cap, b, off, h5, h6⟩⟩
  · exact absurd he h1
  · omega
  · exact absurd (spelt_pos h hq) h3
  · exact ⟨q, ao, cap, b, off, h4, h5, hq, h3, h6⟩

theorem has_yes (L : Lay) (s : ByteArray) (w : World) (h : L.In w.heap.size w) (hm : L.m ≤ 48) (ht : isText L.m L.tx s) :
    Calls Try.prog 14 #[.agg #[.slice L.na L.n L.nc, .slice L.ea L.m L.ec], .string s] w fun e w' => e = .returned (.bool true) ∧ Below w.heap.size w w' := by
  rw [hasT_yes ht]; exact has_any L s w h hm
theorem has_no (L : Lay) (s : ByteArray) (w : World) (h : L.In w.heap.size w) (hm : L.m ≤ 48) (ht : ¬ isText L.m L.tx s) :
    Calls Try.prog 14 #[.agg #[.slice L.na L.n L.nc, .slice L.ea L.m L.ec], .string s] w fun e w' => e = .returned (.bool false) ∧ Below w.heap.size w w' := by
  rw [hasT_no ht]; exact has_any L s w h hm

end Go.Proofs.Ytpclldccjpncdab

namespace Go.Proofs.Ytpclldccjpncdab
open Go.RowKit

set_option maxHeartbeats 1000000 in
theorem kcompare_any (L : Lay) (a b : ByteArray) (n : Nat) (w : World) (h : L.In w.heap.size w) (he : cmpE L a b (n : Int) = 0 ∧ cmpV L a b (n : Int) = cmpFrom L a b n 1) :
    Calls Try.prog 36 #[.agg #[.slice L.na L.n L.nc, .slice L.ea L.m L.ec], .string a, .string b, .int .i64 (n : Nat)] w fun e w' => (∃ r, e = .returned (.int .i64 r) ∧ Hid (r = cmpFrom L a b n 1)) ∧ Below w.heap.size w w' := by
  have HL : Hid (∀ w', Below w.heap.size w w' → L.In w'.heap.size w') := fun w' hb => h.later hb
  have HE : Hid (cmpE L a b (n : Int) = 0 ∧ cmpV L a b (n : Int) = cmpFrom L a b n 1) := he
  obtain ⟨r, hr⟩ : ∃ r, r = cmpFrom L a b n 1 := ⟨_, rfl⟩
  have hv := cmpF_vals L a b n 1
  rw [← hr] at hv
  have HR : Hid (r = cmpFrom L a b n 1) := hr
  have h1 : -1 ≤ r := by omega
  have h2 : r ≤ 1 := by omega
  clear h he hr hv
  go_enter Try.func36, Try.ntmps36
  go_wp2_with (go_at_call 50; refine (compare_any L _ _ _ _ (HL.out _ (below_one _))).mono ?_; rintro e w1 ⟨rfl, hb1⟩; rw [HE.out.1, HE.out.2, ← HR.out])
  go_ret
  exact ⟨⟨_, rfl, HR⟩, below_then (below_one _) hb1⟩

theorem spelled_6 (L : Lay) (rk rc rb ro : Nat) (ra : Option Addr) (rz : Nat → Int) (k : Nat) (w : World) (h : L.In w.heap.size w) (hm : L.m ≤ 48) (hk : 1 ≤ k ∧ k ≤ 12) (ho : ones L L.m = k) (hl : ∀ j, j < k → isText L.m L.tx (ltr j))
    (hr : RawIn w.heap.size w ra rk rb ro rz) :
    Calls Try.prog 16 #[.agg #[.slice L.na L.n L.nc, .slice L.ea L.m L.ec], .slice ra rk rc, .int .i64 6] w fun e w' => (∃ s, e = .returned (.string s) ∧ 1 ≤ s.size ∧ s.size ≤ 6 ∧ Spelt L s) ∧ Below w.heap.size w w' :=
  spelled_any L rk rc rb ro ra rz 6 k w h hm hk ho hl hr.ints hr.range (by omega)

end Go.Proofs.Ytpclldccjpncdab
