import Derived.Test.YtpclldccjpncdaaGreatLentW
namespace Go.Proofs.YtpclldccjpncdaaGreat
open Go.RowKit

set_option maxHeartbeats 400000 in
theorem sameNode_any (p s t : Int) (w : World) :
    Calls Tryz.prog 55 #[.agg #[.int .i64 p, .int .i64 s, .int .i64 t], .agg #[.int .i64 p, .int .i64 s, .int .i64 t]] w fun e w' => e = .returned (.bool true) ∧ Below w.heap.size w w' := by
  go_enter Tryz.func55, Tryz.ntmps55
  go_wp2
  go_ret
  exact ⟨rfl, below_then (below_one _) (below_one _)⟩

set_option maxHeartbeats 400000 in
theorem sameInts_any (k b off b' off' cap cap' : Nat) (ao ao' : Option Addr) (z : Nat → Int) (w : World) (h : IntsIn w.heap.size w ao k b off z) (h' : IntsIn w.heap.size w ao' k b' off' z) :
    Calls Tryz.prog 56 #[.slice ao k cap, .slice ao' k cap'] w fun e w' => e = .returned (.bool true) ∧ Below w.heap.size w w' := by
  have hk := h.le
  obtain ⟨ha, hb, hc, _⟩ := h
  obtain ⟨ha', hb', hc', _⟩ := h'
  go_enter Tryz.func56, Tryz.ntmps56
  go_wp2
  go_loopw [5] (fun i wr => ∃ j : Nat, j ≤ k ∧ i = .int .i64 j ∧ Below w.heap.size w wr) (fun i _ => k - (intOf i).toNat)
  case atStart => exact ⟨0, Nat.zero_le _, rfl, Below.refl _ _⟩
  case round =>
    obtain ⟨j, hj, rfl, hbel⟩ := hrel
    by_cases hlt : j < k
    · have e1 := ha (by omega)
      have e2 := ha' (by omega)
      subst e1
      subst e2
      have c0 := cellTo hbel (hc j hlt) (hb (by omega))
      have c1 := cellTo hbel (hc' j hlt) (hb' (by omega))
      go_wp2
      go_quiet (fail)
      go_wp2
      go_roundw
      case rel => exact ⟨j + 1, by omega, by go_num, below_drewN hbel _⟩
      case measure => simp [intOf]; omega
    · go_wp2
      go_ret
      exact ⟨rfl, hbel⟩


/-- two tables of one content -/
structure Lay.Twin (L M : Lay) : Prop where
  n : M.n = L.n
  m : M.m = L.m
  p : M.p = L.p
  s : M.s = L.s
  t : M.t = L.t
  tx : M.tx = L.tx
  k : M.k = L.k
  z : M.z = L.z

set_option maxRecDepth 100000 in
set_option maxHeartbeats 1000000 in
theorem sameTable_any (L M : Lay) (w : World) (hL : L.In w.heap.size w) (hM : M.In w.heap.size w) (hT : L.Twin M) :
    Calls Tryz.prog 32 #[.agg #[.slice L.na L.n L.nc, .slice L.ea L.m L.ec], .agg #[.slice M.na M.n M.nc, .slice M.ea M.m M.ec]] w fun e w' => e = .returned (.bool true) ∧ Below w.heap.size w w' := by
  obtain ⟨n, m, na, ea, nc, ec, nb, no, eb, eo, p, s, t, tx, la, k, lc, lb, lo, z⟩ := L
  obtain ⟨n', m', na', ea', nc', ec', nb', no', eb', eo', p', s', t', tx', la', k', lc', lb', lo', z'⟩ := M
  obtain ⟨e1, e2, e3, e4, e5, e6, e7, e8⟩ := hT
  simp only at e1 e2 e3 e4 e5 e6 e7 e8
  subst e1 e2 e3 e4 e5 e6 e7 e8
  obtain ⟨hn, he⟩ := hL
  obtain ⟨hn', he'⟩ := hM
  simp only at hn he hn' he' ⊢
  have HN : Hid (NodesIn w.heap.size w na n' nb no p' s' t') := hn
  have HE : Hid (EntriesIn w.heap.size w ea m' eb eo tx' la k' lc lb lo z') := he
  have HN' : Hid (NodesIn w.heap.size w na' n' nb' no' p' s' t') := hn'
  have HE' : Hid (EntriesIn w.heap.size w ea' m' eb' eo' tx' la' k' lc' lb' lo' z') := he'
  have len := hn.le
  have lem := he.le
  clear hn he hn' he'
  go_enter Tryz.func32, Tryz.ntmps32
  go_wp2
  go_loopw [5] (fun i wr => ∃ j : Nat, j ≤ n' ∧ i = .int .i64 j ∧ Below w.heap.size w wr ∧ w.heap.size + 1 < wr.heap.size ∧ (wr.cell? ⟨w.heap.size, 0, none⟩ = some (.slice na n' nc) ∧ wr.cell? ⟨w.heap.size, 1, none⟩ = some (.slice ea m' ec)) ∧ wr.cell? ⟨w.heap.size + 1, 0, none⟩ = some (.slice na' n' nc') ∧ wr.cell? ⟨w.heap.size + 1, 1, none⟩ = some (.slice ea' m' ec')) (fun i _ => n' - (intOf i).toNat)
  case atStart =>
    refine ⟨0, Nat.zero_le _, rfl, below_then (below_one _) (below_one _), by simp, ⟨?_, ?_⟩, ?_, ?_⟩
    all_goals go_simp
  case round =>
    obtain ⟨j, hj, rfl, hbel, hsz, ⟨a0, a1⟩, b0, b1⟩ := hrel
    have HC : Hid ((wr.cell? ⟨w.heap.size, 0, none⟩ = some (.slice na n' nc) ∧ wr.cell? ⟨w.heap.size, 1, none⟩ = some (.slice ea m' ec)) ∧ wr.cell? ⟨w.heap.size + 1, 0, none⟩ = some (.slice na' n' nc') ∧ wr.cell? ⟨w.heap.size + 1, 1, none⟩ = some (.slice ea' m' ec')) := ⟨⟨a0, a1⟩, b0, b1⟩
    by_cases hlt : j < n'
    · have l1 := HN.out.lt (by omega)
      have l2 := HN'.out.lt (by omega)
      rw [HN.out.addr (by omega)] at a0
      rw [HN'.out.addr (by omega)] at b0
      have d0 := Wb.cell (w := wr) (B := wr.heap.size) (by show nb < _; omega) (cellTo hbel (HN.out.p j hlt) l1)
      have d1 := Wb.cell (w := wr) (B := wr.heap.size) (by show nb < _; omega) (cellTo hbel (HN.out.s j hlt) l1)
      have d2 := Wb.cell (w := wr) (B := wr.heap.size) (by show nb < _; omega) (cellTo hbel (HN.out.t j hlt) l1)
      have g0 := Wb.cell (w := wr) (B := wr.heap.size) (by show nb' < _; omega) (cellTo hbel (HN'.out.p j hlt) l2)
      have g1 := Wb.cell (w := wr) (B := wr.heap.size) (by show nb' < _; omega) (cellTo hbel (HN'.out.s j hlt) l2)
      have g2 := Wb.cell (w := wr) (B := wr.heap.size) (by show nb' < _; omega) (cellTo hbel (HN'.out.t j hlt) l2)
      have x0 := Wb.cell (w := wr) (B := wr.heap.size) (by show w.heap.size < _; omega) a0
      have y0 := Wb.cell (w := wr) (B := wr.heap.size) (by show w.heap.size + 1 < _; omega) b0
      go_wp2
      refine wp_region_below wr.heap.size (by kernel_rfl) (by kernel_rfl) ?_
      repeat (go_big_quiet_step ((go_at_call 55; exact Wb.ofCall _ (Nat.le_refl _) (sameNode_any _ _ _ _))))
      refine wpQuiet_nil ?_
      rintro _ ⟨x, rfl⟩
      have hx := x.below
      generalize x.val = w2 at hx
      have hz2 := hx.size
      clear d0 d1 d2 g0 g1 g2 x0 y0
      go_wp2
      go_roundw
      case rel => exact ⟨j + 1, by omega, by go_num, below_then hbel hx, by omega, ⟨cellTo hx HC.out.1.1 (by show w.heap.size < _; omega), cellTo hx HC.out.1.2 (by show w.heap.size < _; omega)⟩, cellTo hx HC.out.2.1 (by show w.heap.size + 1 < _; omega), cellTo hx HC.out.2.2 (by show w.heap.size + 1 < _; omega)⟩
      case measure => simp [intOf]; omega
    · have hjn : j = n' := by omega
      have hbel' := hbel
      have hsz' := hsz
      go_wp2
      go_loopw [7] (fun i wr => ∃ j : Nat, j ≤ m' ∧ i = .int .i64 j ∧ Below w.heap.size w wr ∧ w.heap.size + 1 < wr.heap.size ∧ (wr.cell? ⟨w.heap.size, 0, none⟩ = some (.slice na n' nc) ∧ wr.cell? ⟨w.heap.size, 1, none⟩ = some (.slice ea m' ec)) ∧ wr.cell? ⟨w.heap.size + 1, 0, none⟩ = some (.slice na' n' nc') ∧ wr.cell? ⟨w.heap.size + 1, 1, none⟩ = some (.slice ea' m' ec')) (fun i _ => m' - (intOf i).toNat)
      case atStart => exact ⟨0, Nat.zero_le _, rfl, hbel', hsz', HC.out⟩
      case round =>
        clear hbel' hsz' HC hbel hsz a0 a1 b0 b1 hlt hj hjn
        rename World => wr
        obtain ⟨j, hj, rfl, hbel, hsz, ⟨a0, a1⟩, b0, b1⟩ := hrel
        have HC : Hid ((wr.cell? ⟨w.heap.size, 0, none⟩ = some (.slice na n' nc) ∧ wr.cell? ⟨w.heap.size, 1, none⟩ = some (.slice ea m' ec)) ∧ wr.cell? ⟨w.heap.size + 1, 0, none⟩ = some (.slice na' n' nc') ∧ wr.cell? ⟨w.heap.size + 1, 1, none⟩ = some (.slice ea' m' ec')) := ⟨⟨a0, a1⟩, b0, b1⟩
        by_cases hlt : j < m'
        · have l1 := HE.out.lt (by omega)
          have l2 := HE'.out.lt (by omega)
          rw [HE.out.addr (by omega)] at a1
          rw [HE'.out.addr (by omega)] at b1
          have d0 := Wb.cell (w := wr) (B := wr.heap.size) (by show eb < _; omega) (cellTo hbel (HE.out.list j hlt) l1)
          have g0 := Wb.cell (w := wr) (B := wr.heap.size) (by show eb' < _; omega) (cellTo hbel (HE'.out.list j hlt) l2)
          have x0 := Wb.cell (w := wr) (B := wr.heap.size) (by show w.heap.size < _; omega) a1
          have y0 := Wb.cell (w := wr) (B := wr.heap.size) (by show w.heap.size + 1 < _; omega) b1
          have HI : Hid (∀ x : Wb wr.heap.size wr, IntsIn x.val.heap.size x.val (la j) (k' j) (lb j) (lo j) (z' j) ∧ IntsIn x.val.heap.size x.val (la' j) (k' j) (lb' j) (lo' j) (z' j)) := fun x =>
            ⟨((HE.out.ints j hlt).below (below_then hbel x.below)).mono (below_then hbel x.below).size, ((HE'.out.ints j hlt).below (below_then hbel x.below)).mono (below_then hbel x.below).size⟩
          go_wp2
          refine wp_region_below wr.heap.size (by kernel_rfl) (by kernel_rfl) ?_
          repeat (go_big_quiet_step ((go_at_call 56; exact Wb.ofCall _ (Nat.le_refl _) (sameInts_any _ _ _ _ _ _ _ _ _ _ _ (HI.out _).1 (HI.out _).2))))
          refine wpQuiet_nil ?_
          rintro _ ⟨x, rfl⟩
          have hx := x.below
          generalize x.val = w2 at hx
          have hz2 := hx.size
          clear d0 g0 x0 y0 HI
          go_wp2
          have d0 := Wb.cell (w := w2) (B := wr.heap.size) (by show eb < _; omega) (cellTo (below_then hbel hx) (HE.out.text j hlt) l1)
          have g0 := Wb.cell (w := w2) (B := wr.heap.size) (by show eb' < _; omega) (cellTo (below_then hbel hx) (HE'.out.text j hlt) l2)
          have x0 := Wb.cell (w := w2) (B := wr.heap.size) (by show w.heap.size < _; omega) (cellTo hx a1 (by show w.heap.size < _; omega))
          have y0 := Wb.cell (w := w2) (B := wr.heap.size) (by show w.heap.size + 1 < _; omega) (cellTo hx b1 (by show w.heap.size + 1 < _; omega))
          refine wp_region_below wr.heap.size (by kernel_rfl) (by kernel_rfl) ?_
          repeat (go_big_quiet_step (fail))
          refine wpQuiet_nil ?_
          rintro _ ⟨x2, rfl⟩
          have hx3 := hx.trans x2.below
          generalize x2.val = w3 at hx3
          have hz3 := hx3.size
          clear d0 g0 x0 y0
          go_wp2
          go_roundw
          case rel => exact ⟨j + 1, by omega, by go_num, below_then hbel hx3, by omega, ⟨cellTo hx3 HC.out.1.1 (by show w.heap.size < _; omega), cellTo hx3 HC.out.1.2 (by show w.heap.size < _; omega)⟩, cellTo hx3 HC.out.2.1 (by show w.heap.size + 1 < _; omega), cellTo hx3 HC.out.2.2 (by show w.heap.size + 1 < _; omega)⟩
          case measure => simp [intOf]; omega
        · go_wp2
          go_ret
          exact ⟨rfl, hbel⟩

end Go.Proofs.YtpclldccjpncdaaGreat
