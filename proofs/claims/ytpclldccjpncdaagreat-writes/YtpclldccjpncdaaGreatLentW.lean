import Derived.Test.YtpclldccjpncdaaGreatLend
import Derived.Deep.Cut
import Derived.Deep.CutRange
import Derived.Deep.DeepCutAuto
import Derived.Deep.RegionLaw
namespace Go.Proofs.YtpclldccjpncdaaGreat
open Go.RowKit

theorem Tryz.info3 : (Tryz.prog.info? 3).map (fun i => (i.zero, i.size, i.bytes)) = some (some (.int .i64 0), 1, 8) := by kernel_rfl
theorem Tryz.info53 : (Tryz.prog.info? 65).map (fun i => (i.zero, i.size, i.bytes)) = some (some (.agg #[.int .i64 0, .int .i64 0, .int .i64 0]), 3, 24) := by kernel_rfl
theorem Tryz.info57 : (Tryz.prog.info? 63).map (fun i => (i.zero, i.size, i.bytes)) = some (some (.agg #[.string ByteArray.empty, .slice none 0 0]), 2, 40) := by kernel_rfl
theorem Tryz.info25 : (Tryz.prog.info? 61).map (fun i => (i.zero, i.size, i.bytes)) = some (some (.slice none 0 0), 1, 24) := by kernel_rfl
theorem Tryz.size53 : (Tryz.prog.info? 65).map (·.size) = some 3 := by kernel_rfl
theorem Tryz.size3 : (Tryz.prog.info? 3).map (·.size) = some 1 := by kernel_rfl

/-- 'make' of n elements, for every world -/
theorem run_made {P : Program} (t e : TypeId) (z : Value) (size bytes : Nat) (ht : P.underlying t = some (.slice e))
    (hinfo : (P.info? e).map (fun i => (i.zero, i.size, i.bytes)) = some (some z, size, bytes)) (n : Nat) (hb : bytes * n ≤ 281474976710656) (h63 : n ≤ 9223372036854775807) (w : World) :
    (Instr.makeSlice t (.int .i64 n) (.int .i64 n)).run P w = .ok (.slice (some ⟨w.heap.size, 0, none⟩) n n) (w.alloc (.cells (madeCells z.cells (n * size)) e)) := by
  obtain ⟨i, hi, h⟩ := Option.map_eq_some_iff.1 hinfo
  simp only [Prod.mk.injEq] at h
  obtain ⟨h1, h2, h3⟩ := h
  have hb' : (i.bytes : Int) * (n : Int) ≤ 281474976710656 := by rw [h3, ← Int.natCast_mul]; exact Int.ofNat_le.2 hb
  have := run_make (P := P) w t e i z ht hi h1 .i64 .i64 n n (by omega) (by omega) hb' (by omega)
  rw [h2] at this
  exact this

set_option maxRecDepth 100000 in
set_option maxHeartbeats 1000000 in
theorem lent_any (L : Lay) (w : World) (h : L.In w.heap.size w) :
    Calls Tryz.prog 17 #[.agg #[.slice L.na L.n L.nc, .slice L.ea L.m L.ec]] w fun e w' => ∃ g gn ge gl vo vc, e = .returned (.pointer (some ⟨g, 0, none⟩)) ∧ LentIn L w g gn ge gl vo vc w' := by
  have hn := h.nodes.le
  have hm := h.entries.le
  have HL : Hid (L.In w.heap.size w) := h
  clear h
  have mk1 := run_made (P := Tryz.prog) 25 65 _ 3 24 Tryz.underlying25 Tryz.info53 (L.n + 8) (by omega) (by omega)
  have mk2 := run_made (P := Tryz.prog) 26 63 _ 2 40 Tryz.underlying26 Tryz.info57 (L.m + 8) (by omega) (by omega)
  rw [show ((L.n + 8 : Nat) : Int) = (L.n : Int) + 8 by omega] at mk1
  rw [show ((L.m + 8 : Nat) : Int) = (L.m : Int) + 8 by omega] at mk2
  go_enter Tryz.func17, Tryz.ntmps17
  go_wp2
  go_cut [5] from 11 (fun x wc => ∃ g gn ge, x = .pointer (some ⟨g, 0, none⟩) ∧ Begun L w g gn ge wc)
  case first =>
    go_region
    · go_wp2
      go_meet
      exact ⟨_, _, _, rfl, begun1 L w _ _ (size_madeCells _ _) (size_madeCells _ _)⟩
    · go_wp2
      go_meet
      exact ⟨_, _, _, rfl, begun2 L w _ _ (size_madeCells _ _) (size_madeCells _ _)⟩
  case rest =>
    clear mk1 mk2
    obtain ⟨g, gn, ge, rfl, hbeg⟩ := hcut
    have HB : Hid (Begun L w g gn ge wc) := hbeg
    clear hbeg
    obtain ⟨_, hbox, hx, ⟨f1, hn1⟩, _⟩ := HB.out
    have x2 := hx.cell (i := 2) (by omega)
    have b0 := hbox.cell (i := 0) (by omega)
    simp only [xF, boxF] at x2 b0
    have HR : Hid (wc.rowIs gn 65 ((L.n + 8) * 3) f1) := hn1
    have HS : Hid (0 < L.n → ∃ sb so, L.na = some ⟨sb, so, none⟩ ∧ ∀ j, j < L.n * 3 → wc.drew.cell? ⟨sb, so + j, none⟩ = some (nodeC L j)) := fun h0 =>
      ⟨_, _, HL.out.nodes.addr h0, fun j hj => cellTo HB.out.1.drew (HL.out.nodes.flat j hj) (HL.out.nodes.lt h0)⟩
    clear hn1 hx hbox
    go_wp2
    go_cut [] from 11 (fun wd => Lending L w g gn ge 0 (fun _ => 0) none 0 wd)
    case first =>
      go_region_law ((refine step_copy_rows rfl (.tmp 28) (.tmp 30) 25 25 rfl 65 3 gn (L.n + 8) (L.n + 8) L.na L.n L.nc (by simp [Act.eval]) (by simp [Act.eval]) 65 ((L.n + 8) * 3) f1 (nodeC L) Tryz.underlying25 Tryz.size53 (by omega) HR.out.drew (by omega) HS.out (fun j _ => nodeC_one L j) ?_; intro w1 hO1 hr1))
      all_goals
        go_wp2
        go_meet
        exact Begun.lending ⟨HB.out.1.drew, HB.out.2.1.drew, HB.out.2.2.1.drew, ⟨_, HB.out.2.2.2.1.choose_spec.drew⟩, ⟨_, HB.out.2.2.2.2.1.choose_spec.drew⟩, HB.out.2.2.2.2.2⟩ hO1 hr1
    case rest =>
      clear x2 b0 HR HS HB
      go_wp2
      go_loopw [6] (fun iv wr => ∃ i gl vo vc, i ≤ L.m ∧ iv = .int .i64 (i : Nat) ∧ Lending L w g gn ge i gl vo vc wr) (fun iv _ => L.m - (intOf iv).toNat)
      case atStart => exact ⟨0, _, _, _, Nat.zero_le _, rfl, hcut⟩
      case round =>
        clear hcut
        rename World => wr
        obtain ⟨i, gl, vo, vc, hi, rfl, hlend⟩ := hrel
        have HLE : Hid (Lending L w g gn ge i gl vo vc wr) := hlend
        clear hlend
        by_cases hlt : i < L.m
        · have hbb := HL.out.entries.lt (by omega)
          have b1 := HLE.out.box.cell (i := 1) (by omega)
          simp only [boxF] at b1
          simp only [Nat.one_ne_zero, if_false] at b1
          rw [HL.out.entries.addr (by omega)] at b1
          have c0 := cellTo HLE.out.below (HL.out.entries.text i hlt) hbb
          have c1 := cellTo HLE.out.below (HL.out.entries.list i hlt) hbb
          have hk := (HL.out.entries.ints i hlt).le
          have mk3 := run_made (P := Tryz.prog) 61 3 _ 1 8 Tryz.underlying61 Tryz.info3 (L.k i + 8) (by omega) (by omega)
          rw [show ((L.k i + 8 : Nat) : Int) = (L.k i : Int) + 8 by omega] at mk3
          have hz0 := HLE.out.box.lt
          have hz1 : L.eb < wr.heap.size := by omega
          have HS : Hid (∀ o, 0 < L.k i → ∃ sb so, L.la i = some ⟨sb, so, none⟩ ∧ ∀ j, j < L.k i * 1 → (wr.alloc o).cell? ⟨sb, so + j, none⟩ = some (.int .i64 (L.z i j))) := fun o h0 =>
            ⟨_, _, (HL.out.entries.ints i hlt).addr h0, fun j hj => cellTo (below_then HLE.out.below (below_one _)) ((HL.out.entries.ints i hlt).cell j (by omega)) ((HL.out.entries.ints i hlt).lt h0)⟩
          obtain ⟨w1, hcp, hO1, hr1⟩ := run_copy_rows (P := Tryz.prog) (wr.alloc (.cells (madeCells #[.int .i64 0] (L.k i + 8)) 3)) 61 61 3 3 1 wr.heap.size (L.k i + 8) (L.k i + 8) (L.la i) (L.k i) (L.lc i) 3 (L.k i + 8) _ (fun j => .int .i64 (L.z i j)) Tryz.underlying61 Tryz.size3 (by omega) (World.rowIs_made wr (.int .i64 0) (L.k i + 8) 3) (by omega) (HS.out _) (fun j _ => rfl)
          have HW : Hid (OnlyRow wr.heap.size (wr.alloc (.cells (madeCells #[.int .i64 0] (L.k i + 8)) 3)) w1 ∧ w1.rowIs wr.heap.size 3 (L.k i + 8) (fun j => if j < L.k i * 1 then .int .i64 (L.z i j) else .int .i64 0)) := ⟨hO1, hr1⟩
          clear hO1 hr1
          go_wp2
          have HLW : Hid (Lending L w g gn ge i gl vo vc w1) := (HLE.out.alloc _).only (World.rowIs_made wr (.int .i64 0) (L.k i + 8) 3) hz0 (fun j hj => by have := (HLE.out.rows j hj).lt; omega) HW.out.1
          have HNE : Hid (∀ j, j < i → gl j ≠ wr.heap.size) := fun j hj => by have := (HLE.out.rows j hj).lt; omega
          have HMS : Hid (w1.rowIs wr.heap.size 3 (L.k i + 8) (markF (L.k i) (L.z i) (L.k i))) := mark_start HW.out.2
          clear HW HLE HS mk3 b1 c0 c1 hcp
          rename World => w1'
          go_loopw [9] (fun jv ws => ∃ j, L.k i ≤ j ∧ j ≤ L.k i + 8 ∧ jv = .int .i64 (j : Nat) ∧ Lending L w g gn ge i gl vo vc ws ∧ ws.rowIs wr.heap.size 3 (L.k i + 8) (markF (L.k i) (L.z i) j)) (fun jv _ => L.k i + 8 - (intOf jv).toNat)
          case atStart => exact ⟨L.k i, by omega, by omega, rfl, HLW.out, HMS.out⟩
          case round =>
            clear HLW HMS
            rename World => ws
            obtain ⟨j, hj1, hj2, rfl, hlen, hrow⟩ := hrel
            have HLEN : Hid (Lending L w g gn ge i gl vo vc ws) := hlen
            have HROW : Hid (ws.rowIs wr.heap.size 3 (L.k i + 8) (markF (L.k i) (L.z i) j)) := hrow
            clear hlen hrow
            by_cases hjk : j < L.k i + 8
            · have cj := HROW.out.cell hjk
              have fj := HROW.out.frozen j
              go_wp2
              go_roundw
              case rel => exact ⟨j + 1, by omega, by omega, by go_num, HLEN.out.only HROW.out hz0 HNE.out (OnlyRow.setCell _ _ _ _), mark_step hj1 HROW.out⟩
              case measure => simp [intOf]; omega
            · have hje : j = L.k i + 8 := by omega
              subst hje
              have x4 := x_cell4 HLEN.out
              have HR2 : Hid (ws.rowIs wr.heap.size 3 (L.k i + 8) (fun q => .int .i64 (markZ (L.k i) (L.z i) q))) := mark_end HROW.out
              obtain ⟨i0, hi0, hq0, hq1, hq2⟩ := info_parts Tryz.info25
              go_wp2_with (first
                | (at_builtin; refine wpList_append_lies _ (by rfl) (.tmp 69) (.tmp 71) 37 (by rfl) (w.heap.size + 1) 61 i0 (.slice none 0 0) 1 24 Tryz.underlying37 hi0 hq0 hq1 hq2 rfl (by omega) (.slice vo i vc) i _ (by rfl) (HLEN.out.own.alloc _) ⟨ws.heap.size, 0, none⟩ 1 1 [.slice (some ⟨wr.heap.size, 0, none⟩) (L.k i + 8) (L.k i + 8)] (by rfl) (by rfl) ?c1 ?c2 (by omega) ?c3 (by omega) ?c4 (ws.heap.size + 1) (by simp) ?_))
              case c1 => exact cell_one_new _ _ _
              case c2 => intro u hu; simp at hu; subst hu; rfl
              case c3 => unfold maxLen; omega
              case c4 => have := HLEN.out.box.lt; simp; omega
              · intro gv cap w2 hown2 hgrow _ _
                have HLI : Hid (Listed L w g gn ge i gl wr.heap.size (some ⟨gv, 0, none⟩) cap (w2.setCell ⟨g, 4, none⟩ (.slice (some ⟨gv, 0, none⟩) (i + 1) cap))) := listed_of (HLEN.out.alloc _) (HR2.out.alloc _) HNE.out hz0 hown2 hgrow
                obtain ⟨y4, yf⟩ := row_cell4 (grown_x (HLEN.out.alloc _) hgrow)
                clear hown2 hgrow HLEN HROW HR2 x4 hi0 hq0 hq1 hq2
                go_wp2
                clear y4 yf
                generalize w2.setCell ⟨g, 4, none⟩ (.slice (some ⟨gv, 0, none⟩) (i + 1) cap) = w3 at HLI
                have y3 := row_cell3 HLI.out.x
                have b1 := HLI.out.box.cell (i := 1) (by omega)
                simp only [boxF] at b1
                simp only [Nat.one_ne_zero, if_false] at b1
                rw [HL.out.entries.addr (by omega)] at b1
                have c0 := cellTo HLI.out.below (HL.out.entries.text i hlt) hbb
                obtain ⟨f2, e1, _⟩ := HLI.out.entries
                have s0 := e1.cell (i := i * 2) (by omega)
                have s1 := e1.cell (i := i * 2 + 1) (by omega)
                have t0 := e1.frozen (i * 2)
                have t1 := e1.frozen (i * 2 + 1)
                have q1 : ¬ g = ge := row_ne HLI.out.x e1 (by decide)
                have q2 : ¬ w.heap.size = ge := by have := HLI.out.old.2.2.1; omega
                have q3 : ¬ L.eb = ge := by have := HLI.out.old.2.2.1; omega
                have q1' : ¬ ge = g := fun h => q1 h.symm
                have q2' : ¬ ge = w.heap.size := fun h => q2 h.symm
                have q3' : ¬ ge = L.eb := fun h => q3 h.symm
                have r1 : (i : Int) < ((L.m + 8 : Nat) : Int) := by omega
                have r2 : ((L.k i : Nat) : Int) ≤ ((L.k i + 8 : Nat) : Int) := by omega
                have r3 : (0 : Int) ≤ (i : Int) := by omega
                have r4 : (0 : Int) ≤ ((L.k i : Nat) : Int) := by omega
                clear e1
                go_region
                all_goals
                  go_wp2
                  go_roundw
                  case rel => exact ⟨i + 1, _, _, _, by omega, by go_num, listed_done (wr := w3.drew) ⟨HLI.out.below.drew, HLI.out.box.drew, HLI.out.x.drew, let ⟨f, a, b⟩ := HLI.out.nodes; ⟨f, a.drew, b⟩, let ⟨f, a, b⟩ := HLI.out.entries; ⟨f, a.drew, b⟩, HLI.out.own.drew, fun j hj => (HLI.out.rows j hj).drew, HLI.out.row.drew, HLI.out.inj, HLI.out.inj', HLI.out.old⟩ rfl⟩
                  case measure => simp [intOf]; omega
        · have him : i = L.m := by omega
          subst him
          have HM0 : Hid (Marked L w g gn ge gl vo vc 0 wr) := HLE.out.marked
          go_wp2
          clear HLE
          rename World => wq
          go_loopw [10] (fun qv ws => ∃ q : Nat, q ≤ 8 ∧ qv = .int .i64 (q : Nat) ∧ Marked L w g gn ge gl vo vc q ws) (fun qv _ => 8 - (intOf qv).toNat)
          case atStart => exact ⟨0, by omega, rfl, HM0.out⟩
          case round =>
            clear HM0
            rename World => ws
            obtain ⟨q, hq, rfl, hmk⟩ := hrel
            have HM : Hid (Marked L w g gn ge gl vo vc q ws) := hmk
            clear hmk
            obtain ⟨f1, a1, _⟩ := HM.out.nodes
            obtain ⟨f2, e1, _⟩ := HM.out.entries
            have n1 : ¬ gn = g := row_ne a1 HM.out.lend.x (by decide)
            have n2 : ¬ ge = g := row_ne e1 HM.out.lend.x (by decide)
            have n3 : ¬ gn = ge := row_ne a1 e1 (by decide)
            have n1' : ¬ g = gn := fun h => n1 h.symm
            have n2' : ¬ g = ge := fun h => n2 h.symm
            have n3' : ¬ ge = gn := fun h => n3 h.symm
            have x2 := row_cell2 HM.out.lend.x
            have x3 := row_cell3 HM.out.lend.x
            by_cases hq8 : q < 8
            · have p0 := a1.cell (i := (L.n + q) * 3) (by omega)
              have p1 := a1.cell (i := (L.n + q) * 3 + 1) (by omega)
              have p2 := a1.cell (i := (L.n + q) * 3 + 2) (by omega)
              have g0 := a1.frozen ((L.n + q) * 3)
              have g1 := a1.frozen ((L.n + q) * 3 + 1)
              have g2 := a1.frozen ((L.n + q) * 3 + 2)
              have r0 := e1.cell (i := (L.m + q) * 2) (by omega)
              have r1 := e1.cell (i := (L.m + q) * 2 + 1) (by omega)
              have t0 := e1.frozen ((L.m + q) * 2)
              have t1 := e1.frozen ((L.m + q) * 2 + 1)
              clear a1 e1
              go_wp2
              go_roundw
              case rel => exact ⟨q + 1, by omega, by go_num, marked_step HM.out rfl⟩
              case measure => simp [intOf]; omega
            · have hqe : q = 8 := by omega
              subst hqe
              have p0 := HM.out.lend.x.cell (i := 0) (by omega)
              have p1 := HM.out.lend.x.cell (i := 1) (by omega)
              have g0 := HM.out.lend.x.frozen 0
              have g1 := HM.out.lend.x.frozen 1
              clear a1 e1
              go_wp2
              go_region
              all_goals
                go_wp2
                go_ret
                exact ⟨g, gn, ge, gl, vo, vc, rfl, marked_lent (wr := ws.drew) ⟨⟨HM.out.lend.below.drew, HM.out.lend.box.drew, HM.out.lend.x.drew, let ⟨f, a, b⟩ := HM.out.lend.nodes; ⟨f, a.drew, b⟩, let ⟨f, a, b⟩ := HM.out.lend.entries; ⟨f, a.drew, b⟩, HM.out.lend.own.drew, fun j hj => (HM.out.lend.rows j hj).drew, HM.out.lend.inj, HM.out.lend.old⟩, let ⟨f, a, b⟩ := HM.out.nodes; ⟨f, a.drew, b⟩, let ⟨f, a, b⟩ := HM.out.entries; ⟨f, a.drew, b⟩⟩ rfl⟩

end Go.Proofs.YtpclldccjpncdaaGreat
