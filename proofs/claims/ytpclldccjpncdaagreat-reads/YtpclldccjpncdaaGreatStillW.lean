import Derived.Test.YtpclldccjpncdaaGreatStillP
namespace Go.Proofs.YtpclldccjpncdaaGreat
open Go.RowKit

set_option maxRecDepth 100000 in
set_option maxHeartbeats 2000000 in
theorem still_any (L : Lay) (w : World) (h : L.In w.heap.size w) (g gn ge : Nat) (gl : Nat → Nat) (vo : Option Addr) (vc : Nat) (wr : World) (hlent : LentIn L w g gn ge gl vo vc wr) :
    Calls Tryz.prog 29 #[.pointer (some ⟨g, 0, none⟩), .agg #[.slice L.na L.n L.nc, .slice L.ea L.m L.ec]] wr fun e w' => e = .returned (.bool true) ∧ Below w.heap.size w w' := by
  have hn := h.nodes.le
  have hm := h.entries.le
  have HL : Hid (L.In w.heap.size w) := h
  have HT : Hid (LentIn L w g gn ge gl vo vc wr) := hlent
  clear h hlent
  obtain ⟨fx, x1, z0, z1, _⟩ := HT.out.x
  have hgl := x1.lt
  have k0 := x1.cell (i := 0) (by omega)
  have k1 := x1.cell (i := 1) (by omega)
  rw [z0] at k0
  rw [z1] at k1
  have HBX : Hid ((wr.alloc (.cells #[.slice L.na L.n L.nc, .slice L.ea L.m L.ec] 28)).rowIs wr.heap.size 28 2 (boxF L)) := row_at (row_new wr _ _ 2 rfl) rfl (fun i hi => by
    match i, hi with
    | 0, _ => rfl
    | 1, _ => rfl)
  have k0' := Wb.cell (w := wr.alloc (.cells #[.slice L.na L.n L.nc, .slice L.ea L.m L.ec] 28)) (B := wr.heap.size + 1) (by show g < _; omega) (cellTo (below_one _) k0 hgl)
  have k1' := Wb.cell (w := wr.alloc (.cells #[.slice L.na L.n L.nc, .slice L.ea L.m L.ec] 28)) (B := wr.heap.size + 1) (by show g < _; omega) (cellTo (below_one _) k1 hgl)
  have k2' := Wb.cell (B := wr.heap.size + 1) (by show wr.heap.size < _; omega) (HBX.out.cell (i := 0) (by omega))
  have k3' := Wb.cell (B := wr.heap.size + 1) (by show wr.heap.size < _; omega) (HBX.out.cell (i := 1) (by omega))
  simp only [boxF] at k2' k3'
  simp only [Nat.one_ne_zero, if_true, if_false] at k2' k3'
  have HI : Hid (∀ x : Wb (wr.heap.size + 1) (wr.alloc (.cells #[.slice L.na L.n L.nc, .slice L.ea L.m L.ec] 28)), (L.lent gn ge gl).In x.val.heap.size x.val ∧ L.In x.val.heap.size x.val ∧ LentIn L w g gn ge gl vo vc x.val ∧ x.val.rowIs wr.heap.size 28 2 (boxF L)) := fun x => by
    have hb : Below wr.heap.size wr x.val := (below_one _).trans (x.below.mono (by omega))
    have hlt := HT.out.later hb
    exact ⟨hlt.lay HL.out, (HL.out.below hlt.below).mono hlt.below.size, hlt, row_below x.below HBX.out (by omega)⟩
  clear k0 k1 x1
  go_enter Tryz.func29, Tryz.ntmps29
  go_wp2
  refine wp_region_below (wr.heap.size + 1) (by kernel_rfl) (by kernel_rfl) ?_
  repeat (go_big_quiet_step ((go_at_call 32; exact Wb.ofCall _ (by simp) (sameTable_any (L.lent gn ge gl) L _ (HI.out _).1 (HI.out _).2.1 ⟨rfl, rfl, rfl, rfl, rfl, rfl, rfl, rfl⟩))))
  refine wpQuiet_nil ?_
  rintro _ ⟨x, rfl⟩
  have HS : Hid (Stilling L w g gn ge gl vo vc wr.heap.size 0 x.val) := (HI.out x).2.2.1.stilling (HI.out x).2.2.2 (by have := HT.out.old.1; omega)
  generalize x.val = w2 at HS
  clear k0' k1' k2' k3' HI HT HBX
  have c0 := HS.out.box.cell (i := 0) (by omega)
  have c1 := HS.out.box.cell (i := 1) (by omega)
  simp only [boxF] at c0 c1
  simp only [Nat.one_ne_zero, if_true, if_false] at c0 c1
  go_wp2
  clear c0 c1
  go_loop [5, 8] (fun o q => ∃ a : Nat, a ≤ 8 ∧ q = .int .i64 a ∧ o = .bool true) (fun _ q => 8 - (intOf q).toNat)
  case atStart => exact ⟨0, by omega, rfl, rfl⟩
  case round =>
    obtain ⟨a, ha, rfl, rfl⟩ := hrel
    by_cases ha8 : a < 8
    · obtain ⟨fx, x1, _, _, z2, z3, _⟩ := HS.out.x
      obtain ⟨fn, n1, _, n3⟩ := HS.out.nodes
      obtain ⟨fe, e1, _, e3⟩ := HS.out.entries
      have c2 := x1.cell (i := 2) (by omega)
      have c3 := x1.cell (i := 3) (by omega)
      rw [z2] at c2
      rw [z3] at c3
      have d1 := n1.cell (i := (L.n + a) * 3) (by omega)
      have d2 := e1.cell (i := (L.m + a) * 2) (by omega)
      rw [n3 a ha8] at d1
      rw [e3 a ha8] at d2
      unfold beyondS at d2
      clear z2 z3 x1 n1 n3 e1 e3
      go_wp2
      go_round
      case rel => exact ⟨a + 1, by omega, by go_num, rfl⟩
      case measure => simp [intOf]; omega
    · go_wp2
      go_loopw [5, 9] (fun o iv ws => ∃ i : Nat, i ≤ L.m ∧ iv = .int .i64 i ∧ o = .bool true ∧ Stilling L w g gn ge gl vo vc wr.heap.size i ws) (fun _ iv _ => L.m - (intOf iv).toNat)
      case atStart => exact ⟨0, by omega, rfl, rfl, HS.out⟩
      case round =>
        clear HS ha8 ha
        rename World => wi
        obtain ⟨i, hi, rfl, rfl, hst⟩ := hrel
        have HS : Hid (Stilling L w g gn ge gl vo vc wr.heap.size i wi) := hst
        clear hst
        by_cases hlt : i < L.m
        · obtain ⟨fx, x1, _, _, _, _, z4⟩ := HS.out.x
          have c4 := x1.cell (i := 4) (by omega)
          rw [z4] at c4
          obtain ⟨gv, hvo, cv⟩ := own_cell HS.out.own hlt (v := .slice (some ⟨gl i, 0, none⟩) (L.k i + 8) (L.k i + 8)) (by simp [hlt])
          rw [hvo] at c4
          have c1 := HS.out.box.cell (i := 1) (by omega)
          simp only [boxF] at c1
          simp only [Nat.one_ne_zero, if_false] at c1
          rw [HL.out.entries.addr (by omega)] at c1
          have hbb := HL.out.entries.lt (by omega)
          have l1 := cellTo HS.out.below (HL.out.entries.list i hlt) hbb
          have hk := (HL.out.entries.ints i hlt).le
          have HR : Hid (wi.rowIs (gl i) 3 (L.k i + 8) (wipeF (L.k i) (L.z i) 0)) := wipe_start (HS.out.rows i (by omega) hlt)
          have HS1 : Hid (Stilling L w g gn ge gl vo vc wr.heap.size (i + 1) wi) := HS.out.next
          clear z4 x1 hvo
          go_wp2
          clear HS c4 cv c1 l1
          rename World => wj
          go_loopw [5, 12] (fun o jv ws => ∃ j : Nat, j ≤ L.k i + 8 ∧ jv = .int .i64 j ∧ o = .bool true ∧ Stilling L w g gn ge gl vo vc wr.heap.size (i + 1) ws ∧ ws.rowIs (gl i) 3 (L.k i + 8) (wipeF (L.k i) (L.z i) j)) (fun _ jv _ => L.k i + 8 - (intOf jv).toNat)
          case atStart => exact ⟨0, by omega, rfl, rfl, HS1.out, HR.out⟩
          case round =>
            clear HS1 HR
            rename World => wk
            obtain ⟨j, hj, rfl, rfl, hst, hrow⟩ := hrel
            have HS : Hid (Stilling L w g gn ge gl vo vc wr.heap.size (i + 1) wk) := hst
            have HR : Hid (wk.rowIs (gl i) 3 (L.k i + 8) (wipeF (L.k i) (L.z i) j)) := hrow
            clear hst hrow
            by_cases hjk : j < L.k i + 8
            · have cj := HR.out.cell hjk
              have fj := HR.out.frozen j
              by_cases hjj : j < L.k i
              · rw [wipe_at _ _ _ hjj] at cj
                have c1 := HS.out.box.cell (i := 1) (by omega)
                simp only [boxF] at c1
                simp only [Nat.one_ne_zero, if_false] at c1
                rw [HL.out.entries.addr (by omega)] at c1
                have l1 := cellTo HS.out.below (HL.out.entries.list i hlt) hbb
                rw [(HL.out.entries.ints i hlt).addr (by omega)] at l1
                have l2 := cellTo HS.out.below ((HL.out.entries.ints i hlt).cell j hjj) ((HL.out.entries.ints i hlt).lt (by omega))
                go_wp2
                go_quiet (fail)
                go_wp2
                go_roundw
                case rel => exact ⟨j + 1, by omega, by go_num, by simp, (HS.out.drewN _).only hlt (HR.out.of_block rfl) (OnlyRow.setCell _ _ _ _), wipe_step (HR.out.of_block rfl)⟩
                case measure => simp [intOf]; omega
              · rw [wipe_at' _ _ _ hjj] at cj
                go_wp2
                go_roundw
                case rel => exact ⟨j + 1, by omega, by go_num, by simp, HS.out.only hlt HR.out (OnlyRow.setCell _ _ _ _), wipe_step HR.out⟩
                case measure => simp [intOf]; omega
            · go_wp2
              go_roundw
              case rel => exact ⟨i + 1, by omega, by go_num, rfl, HS.out⟩
              case measure => simp [intOf]; omega
        · have HW : Hid (Wiping L w g gn ge wi) := HS.out.wiping
          clear HS
          go_wp2
          go_loopw [13] (fun av ws => ∃ a : Nat, a ≤ L.n + 8 ∧ av = .int .i64 a ∧ Wiping L w g gn ge ws) (fun av _ => L.n + 8 - (intOf av).toNat)
          case atStart => exact ⟨0, by omega, rfl, HW.out⟩
          case round =>
            clear HW
            rename World => wa
            obtain ⟨a, ha, rfl, hwp⟩ := hrel
            have HW : Hid (Wiping L w g gn ge wa) := hwp
            clear hwp
            by_cases han : a < L.n + 8
            · obtain ⟨fx, x1, z2, z3⟩ := HW.out.x
              obtain ⟨fn, n1⟩ := HW.out.nodes
              have y1 : ¬ gn = g := row_ne n1 x1 (by decide)
              have y2 : ¬ g = gn := fun h => y1 h.symm
              have c2 := x1.cell (i := 2) (by omega)
              rw [z2] at c2
              have d0 := n1.cell (i := a * 3) (by omega)
              have d1 := n1.cell (i := a * 3 + 1) (by omega)
              have d2 := n1.cell (i := a * 3 + 2) (by omega)
              have f0 := n1.frozen (a * 3)
              have f1 := n1.frozen (a * 3 + 1)
              have f2 := n1.frozen (a * 3 + 2)
              clear z2 z3 x1 n1
              go_wp2
              go_roundw
              case rel => exact ⟨a + 1, by omega, by go_num, HW.out.node _ _ _ _ _ _ rfl⟩
              case measure => simp [intOf]; omega
            · go_wp2
              go_loopw [14] (fun av ws => ∃ a : Nat, a ≤ L.m + 8 ∧ av = .int .i64 a ∧ Wiping L w g gn ge ws) (fun av _ => L.m + 8 - (intOf av).toNat)
              case atStart => exact ⟨0, by omega, rfl, HW.out⟩
              case round =>
                clear HW ha han
                rename World => wb
                obtain ⟨a, ha, rfl, hwp⟩ := hrel
                have HW : Hid (Wiping L w g gn ge wb) := hwp
                clear hwp
                by_cases han : a < L.m + 8
                · obtain ⟨fx, x1, z2, z3⟩ := HW.out.x
                  obtain ⟨fn, n1⟩ := HW.out.entries
                  have y1 : ¬ ge = g := row_ne n1 x1 (by decide)
                  have y2 : ¬ g = ge := fun h => y1 h.symm
                  have c3 := x1.cell (i := 3) (by omega)
                  rw [z3] at c3
                  have d0 := n1.cell (i := a * 2) (by omega)
                  have d1 := n1.cell (i := a * 2 + 1) (by omega)
                  have f0 := n1.frozen (a * 2)
                  have f1 := n1.frozen (a * 2 + 1)
                  clear z2 z3 x1 n1
                  go_wp2
                  go_roundw
                  case rel => exact ⟨a + 1, by omega, by go_num, HW.out.entry _ _ _ _ rfl⟩
                  case measure => simp [intOf]; omega
                · go_wp2
                  go_ret
                  exact ⟨rfl, HW.out.below⟩

end Go.Proofs.YtpclldccjpncdaaGreat
