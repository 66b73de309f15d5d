import Derived.Test.YtpclldccjpncdaaSame
namespace Go.Proofs.Ytpclldccjpncdaa
open Go.RowKit

set_option maxHeartbeats 400000 in
theorem keepNode_any (p s t : Int) (w : World) :
    Calls Try.prog 36 #[.agg #[.int .i64 p, .int .i64 s, .int .i64 t], .agg #[.int .i64 p, .int .i64 s, .int .i64 t]] w fun e w' => e = .returned (.bool true) ∧ Below w.heap.size w w' := by
  go_enter Try.func36, Try.ntmps36
  go_wp2
  go_ret
  exact ⟨rfl, below_then (below_one _) (below_one _)⟩

set_option maxRecDepth 100000 in
set_option maxHeartbeats 1000000 in
theorem keepTable_any (L M : Lay) (w : World) (hL : L.In w.heap.size w) (hM : M.In w.heap.size w) (hT : L.Twin M) :
    Calls Try.prog 20 #[.agg #[.slice L.na L.n L.nc, .slice L.ea L.m L.ec], .agg #[.slice M.na M.n M.nc, .slice M.ea M.m M.ec]] w fun e w' => e = .returned (.bool true) ∧ Below w.heap.size w w' := by
  obtain ⟨n, m, na, ea, nc, ec, nb, no, eb, eo, p, s, t, tx, la, k, lc, lb, lo, z⟩ := L
  obtain ⟨n', m', na', ea', nc', ec', nb', no', eb', eo', p', s', t', tx', la', k', lc', lb', lo', z'⟩ := M
  obtain ⟨e1, e2, e3, e4, e5, e6, e7, e8⟩ := hT
  simp only at e1 e2 e3 e4 e5 e6 e7 e8
  subst e1 e2 e3 e4 e5 e6 e7 e8
  obtain ⟨hn, he⟩ := hL
  obtain ⟨hn', he'⟩ := hM
  simp only at hn he hn' he' ⊢
  have HN : Hid (NodesIn w.heap.size w na n' nb no p' s' t') := hn
  have HE : Hid (EntriesIn w.heap.size w ea m' eb eo tx' la k' lc lb lo z') := he
  have HN' : Hid (NodesIn w.heap.size w na' n' nb' no' p' s' t') := hn'
  have HE' : Hid (EntriesIn w.heap.size w ea' m' eb' eo' tx' la' k' lc' lb' lo' z') := he'
  have len := hn.le
  have lem := he.le
  clear hn he hn' he'
  go_enter Try.func20, Try.ntmps20
  go_wp2
  go_loopw [5] (fun i wr => ∃ j : Nat, j ≤ n' ∧ i = .int .i64 j ∧ Below w.heap.size w wr ∧ w.heap.size + 1 < wr.heap.size ∧ (wr.cell? ⟨w.heap.size, 0, none⟩ = some (.slice na n' nc) ∧ wr.cell? ⟨w.heap.size, 1, none⟩ = some (.slice ea m' ec)) ∧ wr.cell? ⟨w.heap.size + 1, 0, none⟩ = some (.slice na' n' nc') ∧ wr.cell? ⟨w.heap.size + 1, 1, none⟩ = some (.slice ea' m' ec')) (fun i _ => n' - (intOf i).toNat)
  case atStart =>
    refine ⟨0, Nat.zero_le _, rfl, below_then (below_one _) (below_one _), by simp, ⟨?_, ?_⟩, ?_, ?_⟩
    all_goals go_simp
  case round =>
    obtain ⟨j, hj, rfl, hbel, hsz, ⟨a0, a1⟩, b0, b1⟩ := hrel
    have HC : Hid ((wr.cell? ⟨w.heap.size, 0, none⟩ = some (.slice na n' nc) ∧ wr.cell? ⟨w.heap.size, 1, none⟩ = some (.slice ea m' ec)) ∧ wr.cell? ⟨w.heap.size + 1, 0, none⟩ = some (.slice na' n' nc') ∧ wr.cell? ⟨w.heap.size + 1, 1, none⟩ = some (.slice ea' m' ec')) := ⟨⟨a0, a1⟩, b0, b1⟩
    by_cases hlt : j < n'
    · have l1 := HN.out.lt (by omega)
      have l2 := HN'.out.lt (by omega)
      rw [HN.out.addr (by omega)] at a0
      rw [HN'.out.addr (by omega)] at b0
      have d0 := Wb.cell (w := wr) (B := wr.heap.size) (by show nb < _; omega) (cellTo hbel (HN.out.p j hlt) l1)
      have d1 := Wb.cell (w := wr) (B := wr.heap.size) (by show nb < _; omega) (cellTo hbel (HN.out.s j hlt) l1)
      have d2 := Wb.cell (w := wr) (B := wr.heap.size) (by show nb < _; omega) (cellTo hbel (HN.out.t j hlt) l1)
      have g0 := Wb.cell (w := wr) (B := wr.heap.size) (by show nb' < _; omega) (cellTo hbel (HN'.out.p j hlt) l2)
      have g1 := Wb.cell (w := wr) (B := wr.heap.size) (by show nb' < _; omega) (cellTo hbel (HN'.out.s j hlt) l2)
      have g2 := Wb.cell (w := wr) (B := wr.heap.size) (by show nb' < _; omega) (cellTo hbel (HN'.out.t j hlt) l2)
      have x0 := Wb.cell (w := wr) (B := wr.heap.size) (by show w.heap.size < _; omega) a0
      have y0 := Wb.cell (w := wr) (B := wr.heap.size) (by show w.heap.size + 1 < _; omega) b0
      go_wp2
      refine wp_region_below wr.heap.size (by kernel_rfl) (by kernel_rfl) ?_
      repeat (go_big_quiet_step ((go_at_call 36; exact Wb.ofCall _ (Nat.le_refl _) (keepNode_any _ _ _ _))))
      refine wpQuiet_nil ?_
      rintro _ ⟨x, rfl⟩
      have hx := x.below
      generalize x.val = w2 at hx
      have hz2 := hx.size
      clear d0 d1 d2 g0 g1 g2 x0 y0
      go_wp2
      go_roundw
      case rel => exact ⟨j + 1, by omega, by go_num, below_then hbel hx, by omega, ⟨cellTo hx HC.out.1.1 (by show w.heap.size < _; omega), cellTo hx HC.out.1.2 (by show w.heap.size < _; omega)⟩, cellTo hx HC.out.2.1 (by show w.heap.size + 1 < _; omega), cellTo hx HC.out.2.2 (by show w.heap.size + 1 < _; omega)⟩
      case measure => simp [intOf]; omega
    · have hjn : j = n' := by omega
      have hbel' := hbel
      have hsz' := hsz
      go_wp2
      go_loopw [7] (fun i wr => ∃ j : Nat, j ≤ m' ∧ i = .int .i64 j ∧ Below w.heap.size w wr ∧ w.heap.size + 1 < wr.heap.size ∧ (wr.cell? ⟨w.heap.size, 0, none⟩ = some (.slice na n' nc) ∧ wr.cell? ⟨w.heap.size, 1, none⟩ = some (.slice ea m' ec)) ∧ wr.cell? ⟨w.heap.size + 1, 0, none⟩ = some (.slice na' n' nc') ∧ wr.cell? ⟨w.heap.size + 1, 1, none⟩ = some (.slice ea' m' ec')) (fun i _ => m' - (intOf i).toNat)
      case atStart => exact ⟨0, Nat.zero_le _, rfl, hbel', hsz', HC.out⟩
      case round =>
        clear hbel' hsz' HC hbel hsz a0 a1 b0 b1 hlt hj hjn
        rename World => wr
        obtain ⟨j, hj, rfl, hbel, hsz, ⟨a0, a1⟩, b0, b1⟩ := hrel
        have HC : Hid ((wr.cell? ⟨w.heap.size, 0, none⟩ = some (.slice na n' nc) ∧ wr.cell? ⟨w.heap.size, 1, none⟩ = some (.slice ea m' ec)) ∧ wr.cell? ⟨w.heap.size + 1, 0, none⟩ = some (.slice na' n' nc') ∧ wr.cell? ⟨w.heap.size + 1, 1, none⟩ = some (.slice ea' m' ec')) := ⟨⟨a0, a1⟩, b0, b1⟩
        by_cases hlt : j < m'
        · have l1 := HE.out.lt (by omega)
          have l2 := HE'.out.lt (by omega)
          rw [HE.out.addr (by omega)] at a1
          rw [HE'.out.addr (by omega)] at b1
          have d0 := cellTo hbel (HE.out.text j hlt) l1
          have d1 := cellTo hbel (HE.out.list j hlt) l1
          have g0 := cellTo hbel (HE'.out.text j hlt) l2
          have g1 := cellTo hbel (HE'.out.list j hlt) l2
          have HI : Hid (IntsIn w.heap.size w (la j) (k' j) (lb j) (lo j) (z' j) ∧ IntsIn w.heap.size w (la' j) (k' j) (lb' j) (lo' j) (z' j)) := ⟨HE.out.ints j hlt, HE'.out.ints j hlt⟩
          obtain ⟨tx, htx⟩ : ∃ x, x = tx' j := ⟨_, rfl⟩
          obtain ⟨K, hK⟩ : ∃ x, x = k' j := ⟨_, rfl⟩
          obtain ⟨A, hA⟩ : ∃ x, x = la j := ⟨_, rfl⟩
          obtain ⟨A2, hA2⟩ : ∃ x, x = la' j := ⟨_, rfl⟩
          obtain ⟨C, hC⟩ : ∃ x, x = lc j := ⟨_, rfl⟩
          obtain ⟨C2, hC2⟩ : ∃ x, x = lc' j := ⟨_, rfl⟩
          rw [← htx] at d0 g0
          rw [← hA, ← hK, ← hC] at d1
          rw [← hA2, ← hK, ← hC2] at g1
          rw [← hA, ← hA2, ← hK] at HI
          have hKl := HI.out.1.le
          have HBR : Hid (Below w.heap.size w wr) := hbel
          have HB2 : Hid (Below wr.heap.size wr ((wr.alloc (.cells #[.string tx, .slice A K C] 64)).alloc (.cells #[.string tx, .slice A2 K C2] 64))) := below_then (below_one _) (below_one _)
          have HX : Hid (∀ wy : World, Below ((wr.alloc (.cells #[.string tx, .slice A K C] 64)).alloc (.cells #[.string tx, .slice A2 K C2] 64)).heap.size ((wr.alloc (.cells #[.string tx, .slice A K C] 64)).alloc (.cells #[.string tx, .slice A2 K C2] 64)) wy →
              wy.cell? ⟨wr.heap.size, 1, none⟩ = some (.slice A K C) ∧ wy.cell? ⟨wr.heap.size + 1, 1, none⟩ = some (.slice A2 K C2) ∧ Below wr.heap.size wr wy ∧ wr.heap.size + 2 ≤ wy.heap.size) := fun wy hy => by
            have r1 := (row_new wr #[.string tx, .slice A K C] 64 2 rfl).alloc (.cells #[.string tx, .slice A2 K C2] 64)
            have r2 := row_at (row_new (wr.alloc (.cells #[.string tx, .slice A K C] 64)) #[.string tx, .slice A2 K C2] 64 2 rfl) (size_one _ _) (fun _ _ => rfl)
            refine ⟨cellTo hy (r1.cell (i := 1) (by omega)) (by simp; omega), cellTo hy (r2.cell (i := 1) (by omega)) (by simp), below_then HB2.out hy, by have := hy.size; simpa using this⟩
          clear htx hK hA hA2 hC hC2 hbel
          have l3 : eb' < wr.heap.size := by omega
          have l4 : eb < wr.heap.size := by omega
          have l5 : w.heap.size + 1 < wr.heap.size := by omega
          have l6 : w.heap.size < wr.heap.size := by omega
          obtain ⟨Y, hY⟩ : ∃ Y, Y = (wr.alloc (.cells #[.string tx, .slice A K C] 64)).alloc (.cells #[.string tx, .slice A2 K C2] 64) := ⟨_, rfl⟩
          rw [← hY] at HX
          have HYE : Hid (Y = (wr.alloc (.cells #[.string tx, .slice A K C] 64)).alloc (.cells #[.string tx, .slice A2 K C2] 64)) := hY
          clear hY
          go_wp2
          clear a0 a1 b0 b1 d0 d1 g0 g1
          go_loopw [10] (fun cv wy => ∃ c : Nat, c ≤ K ∧ cv = .int .i64 (c : Nat) ∧ Below Y.heap.size Y wy) (fun cv _ => K - (intOf cv).toNat)
          case atStart => exact ⟨0, Nat.zero_le _, rfl, by rw [HYE.out]; exact Below.refl _ _⟩
          case round =>
            rename World => wy
            obtain ⟨c, hc, rfl, hbc⟩ := hrel
            have HBC : Hid (Below Y.heap.size Y wy) := hbc
            obtain ⟨x1, y1, hby, hzy⟩ := HX.out wy hbc
            have HBY : Hid (Below wr.heap.size wr wy) := hby
            clear hbc
            by_cases hcl : c < K
            · have hbw := below_then HBR.out hby
              have z1 := cellTo hbw (HI.out.1.cell c hcl) (HI.out.1.lt (by omega))
              have z2 := cellTo hbw (HI.out.2.cell c hcl) (HI.out.2.lt (by omega))
              rw [HI.out.1.addr (by omega)] at x1
              rw [HI.out.2.addr (by omega)] at y1
              obtain ⟨x, hx⟩ : ∃ x, x = z' j c := ⟨_, rfl⟩
              rw [← hx] at z1 z2
              clear hx hbw hby
              go_wp2
              go_quiet (fail)
              go_wp2
              go_roundw
              case rel => exact ⟨c + 1, by omega, by go_num, below_drewN HBC.out _⟩
              case measure => simp [intOf]; omega
            · have hbw := below_then HBR.out hby
              have HBW : Hid (Below w.heap.size w wy) := hbw
              have HC' : Hid ((wy.cell? ⟨w.heap.size, 0, none⟩ = some (.slice na n' nc) ∧ wy.cell? ⟨w.heap.size, 1, none⟩ = some (.slice ea m' ec)) ∧ wy.cell? ⟨w.heap.size + 1, 0, none⟩ = some (.slice na' n' nc') ∧ wy.cell? ⟨w.heap.size + 1, 1, none⟩ = some (.slice ea' m' ec')) :=
                ⟨⟨cellTo hby HC.out.1.1 (by show w.heap.size < _; omega), cellTo hby HC.out.1.2 (by show w.heap.size < _; omega)⟩, cellTo hby HC.out.2.1 (by show w.heap.size + 1 < _; omega), cellTo hby HC.out.2.2 (by show w.heap.size + 1 < _; omega)⟩
              clear hbw hby
              go_wp2
              go_roundw
              case rel => exact ⟨j + 1, by omega, by go_num, HBW.out, by omega, HC'.out⟩
              case measure => simp [intOf]; omega
        · go_wp2
          go_ret
          exact ⟨rfl, hbel⟩

end Go.Proofs.Ytpclldccjpncdaa
