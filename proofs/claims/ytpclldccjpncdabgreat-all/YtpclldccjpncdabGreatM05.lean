import Derived.Test.YtpclldccjpncdabGreatM04
namespace Go.Proofs.YtpclldccjpncdabGreat
open Go.RowKit

theorem row_below {B : Nat} {w w' : World} (hb : Below B w w') {b : Nat} {t : TypeId} {n : Nat} {f : Nat → Value} (h : w.rowIs b t n f) (hB : b < B) : w'.rowIs b t n f := h.of_block (hb.block b hB)
theorem own_lt {w : World} {base : Nat} {e : TypeId} {size : Nat} {v : Value} {k : Nat} {xs : List Value} (ho : w.ownsRow base e size v k xs) {b : Nat} (hb : v.ownBlock = some b) : b < w.heap.size := by
  obtain ⟨_, h2⟩ := ho
  rcases h2 with ⟨rfl, _⟩ | ⟨g, cap, cur, rfl, _, hh, _⟩
  · simp [Value.ownBlock] at hb
  · simp only [Value.ownBlock, Option.some.injEq] at hb
    subst hb
    exact (Array.getElem?_eq_some_iff.1 hh).1
theorem own_below {w w' : World} (hb : Below w.heap.size w w') {base : Nat} {e : TypeId} {size : Nat} {v : Value} {k : Nat} {xs : List Value} (ho : w.ownsRow base e size v k xs) : w'.ownsRow base e size v k xs :=
  own_of_block ho fun b h => hb.block b (own_lt ho h)
theorem own_cell {w : World} {base : Nat} {e : TypeId} {vo : Option Addr} {n vc : Nat} {xs : List Value} (ho : w.ownsRow base e 1 (.slice vo n vc) n xs) {i : Nat} (hi : i < n) {v : Value} (hv : xs[i]? = some v) :
    ∃ gv, vo = some ⟨gv, 0, none⟩ ∧ w.cell? ⟨gv, i, none⟩ = some v := by
  obtain ⟨_, h2⟩ := ho
  rcases h2 with ⟨_, h0⟩ | ⟨g, cap, cur, hs, _, hh, hnc, _, hcs, ht⟩
  · omega
  · cases hs
    refine ⟨g, rfl, ?_⟩
    rw [← ht, List.getElem?_take] at hv
    rw [if_pos (by omega)] at hv
    simp only [Array.getElem?_toList] at hv
    simp [World.cell?, hh, hv]

/-- what 'still' works on: lists from i on are as they were lent -/
structure Stilling (L : Lay) (w : World) (g gn ge : Nat) (gl : Nat → Nat) (vo : Option Addr) (vc b1 i : Nat) (ws : World) : Prop where
  below : Below w.heap.size w ws
  x : ∃ f, ws.rowIs g 39 5 f ∧ f 0 = .slice (some ⟨gn, 0, none⟩) L.n (L.n + 8) ∧ f 1 = .slice (some ⟨ge, 0, none⟩) L.m (L.m + 8) ∧ f 2 = .slice (some ⟨gn, 0, none⟩) (L.n + 8) (L.n + 8) ∧ f 3 = .slice (some ⟨ge, 0, none⟩) (L.m + 8) (L.m + 8) ∧ f 4 = .slice vo L.m vc
  nodes : ∃ f, ws.rowIs gn 65 ((L.n + 8) * 3) f ∧ (∀ j, j < L.n * 3 → f j = nodeC L j) ∧ ∀ a, a < 8 → f ((L.n + a) * 3) = .int .i64 (-77)
  entries : ∃ f, ws.rowIs ge 63 ((L.m + 8) * 2) f ∧ (∀ j, j < L.m → f (j * 2) = .string (L.tx j) ∧ f (j * 2 + 1) = .slice (some ⟨gl j, 0, none⟩) (L.k j) (L.k j + 8)) ∧ ∀ a, a < 8 → f ((L.m + a) * 2) = .string beyondS
  own : ws.ownsRow (w.heap.size + 1) 61 1 (.slice vo L.m vc) L.m ((List.range L.m).map fun j => .slice (some ⟨gl j, 0, none⟩) (L.k j + 8) (L.k j + 8))
  rows : ∀ j, i ≤ j → j < L.m → ws.rowIs (gl j) 3 (L.k j + 8) (fun q => .int .i64 (markZ (L.k j) (L.z j) q))
  inj : ∀ j j', j < L.m → j' < L.m → gl j = gl j' → j = j'
  old : w.heap.size < g ∧ w.heap.size < gn ∧ w.heap.size < ge ∧ ∀ j, j < L.m → w.heap.size < gl j
  box : ws.rowIs b1 28 2 (boxF L)
  boxOld : w.heap.size < b1

theorem LentIn.later {L : Lay} {w : World} {g gn ge : Nat} {gl : Nat → Nat} {vo : Option Addr} {vc : Nat} {wr w' : World} (h : LentIn L w g gn ge gl vo vc wr) (hb : Below wr.heap.size wr w') : LentIn L w g gn ge gl vo vc w' :=
  ⟨h.below.trans (hb.mono h.below.size), let ⟨f, a, b⟩ := h.x; ⟨f, row_below hb a a.lt, b⟩, let ⟨f, a, b⟩ := h.nodes; ⟨f, row_below hb a a.lt, b⟩, let ⟨f, a, b⟩ := h.entries; ⟨f, row_below hb a a.lt, b⟩, own_below hb h.own, fun j hj => row_below hb (h.rows j hj) (h.rows j hj).lt, h.inj, h.old⟩

theorem LentIn.stilling {L : Lay} {w : World} {g gn ge : Nat} {gl : Nat → Nat} {vo : Option Addr} {vc b1 : Nat} {wr : World} (h : LentIn L w g gn ge gl vo vc wr) (hbox : wr.rowIs b1 28 2 (boxF L)) (hb1 : w.heap.size < b1) : Stilling L w g gn ge gl vo vc b1 0 wr :=
  ⟨h.below, h.x, h.nodes, h.entries, h.own, fun j _ hj => h.rows j hj, h.inj, h.old, hbox, hb1⟩

theorem Stilling.drew {L : Lay} {w : World} {g gn ge : Nat} {gl : Nat → Nat} {vo : Option Addr} {vc b1 i : Nat} {ws : World} (h : Stilling L w g gn ge gl vo vc b1 i ws) : Stilling L w g gn ge gl vo vc b1 i ws.drew :=
  ⟨h.below.drew, let ⟨f, a, b⟩ := h.x; ⟨f, a.drew, b⟩, let ⟨f, a, b⟩ := h.nodes; ⟨f, a.drew, b⟩, let ⟨f, a, b⟩ := h.entries; ⟨f, a.drew, b⟩, h.own.drew, fun j h1 hj => (h.rows j h1 hj).drew, h.inj, h.old, h.box.drew, h.boxOld⟩
theorem Stilling.drewN {L : Lay} {w : World} {g gn ge : Nat} {gl : Nat → Nat} {vo : Option Addr} {vc b1 i : Nat} {ws : World} (h : Stilling L w g gn ge gl vo vc b1 i ws) : ∀ n, Stilling L w g gn ge gl vo vc b1 i (ws.drewN n) := fun n =>
  ⟨below_drewN h.below n, let ⟨f, a, b⟩ := h.x; ⟨f, a.of_block rfl, b⟩, let ⟨f, a, b⟩ := h.nodes; ⟨f, a.of_block rfl, b⟩, let ⟨f, a, b⟩ := h.entries; ⟨f, a.of_block rfl, b⟩, own_of_block h.own (fun _ _ => rfl), fun j h1 hj => (h.rows j h1 hj).of_block rfl, h.inj, h.old, h.box.of_block rfl, h.boxOld⟩

/-- the row of list i is written: from i + 1 on all is as it was -/
theorem Stilling.only {L : Lay} {w : World} {g gn ge : Nat} {gl : Nat → Nat} {vo : Option Addr} {vc b1 i : Nat} {ws w' : World} (h : Stilling L w g gn ge gl vo vc b1 (i + 1) ws) (hi : i < L.m) {n : Nat} {f : Nat → Value} (hr : ws.rowIs (gl i) 3 n f) (hO : OnlyRow (gl i) ws w') : Stilling L w g gn ge gl vo vc b1 (i + 1) w' := by
  obtain ⟨fx, x1, x2⟩ := h.x
  obtain ⟨fn, n1, n2⟩ := h.nodes
  obtain ⟨fe, e1, e2⟩ := h.entries
  exact ⟨hO.below h.below (by have := h.old.2.2.2 i hi; omega), ⟨fx, hO.row x1 (row_ne x1 hr (by decide)), x2⟩, ⟨fn, hO.row n1 (row_ne n1 hr (by decide)), n2⟩, ⟨fe, hO.row e1 (row_ne e1 hr (by decide)), e2⟩, own_only hO h.own (own_ne h.own hr (by decide)).symm,
    fun j h1 hj => hO.row (h.rows j h1 hj) (fun e => by have := h.inj j i hj hi e; omega), h.inj, h.old, hO.row h.box (row_ne h.box hr (by decide)), h.boxOld⟩
theorem Stilling.next {L : Lay} {w : World} {g gn ge : Nat} {gl : Nat → Nat} {vo : Option Addr} {vc b1 i : Nat} {ws : World} (h : Stilling L w g gn ge gl vo vc b1 i ws) : Stilling L w g gn ge gl vo vc b1 (i + 1) ws :=
  ⟨h.below, h.x, h.nodes, h.entries, h.own, fun j h1 hj => h.rows j (by omega) hj, h.inj, h.old, h.box, h.boxOld⟩

def wipeF (k : Nat) (z : Nat → Int) (j q : Nat) : Value := .int .i64 (if q < j then -77 else markZ k z q)
theorem wipe_start {w : World} {h k : Nat} {z : Nat → Int} (hr : w.rowIs h 3 (k + 8) (fun q => .int .i64 (markZ k z q))) : w.rowIs h 3 (k + 8) (wipeF k z 0) := hr.congr fun q _ => by simp [wipeF]
theorem wipe_step {w : World} {h k j : Nat} {z : Nat → Int} (hr : w.rowIs h 3 (k + 8) (wipeF k z j)) : (w.setCell ⟨h, j, none⟩ (.int .i64 (-77))).rowIs h 3 (k + 8) (wipeF k z (j + 1)) :=
  (hr.set j (.int .i64 (-77))).congr fun q _ => by
    by_cases e : q = j
    · subst e; simp [wipeF]
    · rw [if_neg e]
      have h1 : q < j + 1 ↔ q < j := by omega
      simp [wipeF, h1]
theorem wipe_at (k : Nat) (z : Nat → Int) (j : Nat) (h : j < k) : wipeF k z j j = .int .i64 (z j) := by simp [wipeF, markZ, h]
theorem wipe_at' (k : Nat) (z : Nat → Int) (j : Nat) (h : ¬ j < k) : wipeF k z j j = .int .i64 (-77) := by simp [wipeF, markZ, h]

/-- the table that was lent, as a table -/
def Lay.lent (L : Lay) (gn ge : Nat) (gl : Nat → Nat) : Lay := { L with na := some ⟨gn, 0, none⟩, nc := L.n + 8, nb := gn, no := 0, ea := some ⟨ge, 0, none⟩, ec := L.m + 8, eb := ge, eo := 0, la := fun i => some ⟨gl i, 0, none⟩, lc := fun i => L.k i + 8, lb := gl, lo := fun _ => 0 }
theorem LentIn.lay {L : Lay} {w : World} {g gn ge : Nat} {gl : Nat → Nat} {vo : Option Addr} {vc : Nat} {wr : World} (h : LentIn L w g gn ge gl vo vc wr) (hL : L.In w.heap.size w) : (L.lent gn ge gl).In wr.heap.size wr := by
  obtain ⟨fn, n1, n2, _⟩ := h.nodes
  obtain ⟨fe, e1, e2, _⟩ := h.entries
  refine ⟨⟨fun _ => rfl, fun _ => n1.lt, fun i hi => ?_, fun i hi => ?_, fun i hi => ?_, hL.nodes.le⟩, ⟨fun _ => rfl, fun _ => e1.lt, fun i hi => ?_, fun i hi => ?_, fun i hi => ⟨fun _ => rfl, fun _ => (h.rows i hi).lt, fun j hj => ?_, (hL.entries.ints i hi).le⟩, hL.entries.le⟩⟩
  all_goals simp only [Lay.lent, Nat.zero_add] at *
  · rw [n1.cell (by omega), n2 _ (by omega), nodeC_0]
  · rw [n1.cell (by omega), n2 _ (by omega), nodeC_1]
  · rw [n1.cell (by omega), n2 _ (by omega), nodeC_2]
  · rw [e1.cell (by omega), (e2 i hi).1]
  · rw [e1.cell (by omega), (e2 i hi).2]
  · rw [(h.rows i hi).cell (by omega)]; simp [markZ, hj]


/-- what the last two loops want -/
structure Wiping (L : Lay) (w : World) (g gn ge : Nat) (ws : World) : Prop where
  below : Below w.heap.size w ws
  x : ∃ f, ws.rowIs g 39 5 f ∧ f 2 = .slice (some ⟨gn, 0, none⟩) (L.n + 8) (L.n + 8) ∧ f 3 = .slice (some ⟨ge, 0, none⟩) (L.m + 8) (L.m + 8)
  nodes : ∃ f, ws.rowIs gn 65 ((L.n + 8) * 3) f
  entries : ∃ f, ws.rowIs ge 63 ((L.m + 8) * 2) f
  old : w.heap.size < gn ∧ w.heap.size < ge
theorem Stilling.wiping {L : Lay} {w : World} {g gn ge : Nat} {gl : Nat → Nat} {vo : Option Addr} {vc b1 i : Nat} {ws : World} (h : Stilling L w g gn ge gl vo vc b1 i ws) : Wiping L w g gn ge ws :=
  ⟨h.below, let ⟨f, a, _, _, b, c, _⟩ := h.x; ⟨f, a, b, c⟩, let ⟨f, a, _⟩ := h.nodes; ⟨f, a⟩, let ⟨f, a, _⟩ := h.entries; ⟨f, a⟩, h.old.2.1, h.old.2.2.1⟩
theorem Wiping.node {L : Lay} {w : World} {g gn ge : Nat} {ws w' : World} (h : Wiping L w g gn ge ws) (o1 o2 o3 : Nat) (v1 v2 v3 : Value) (hw : w' = ((ws.setCell ⟨gn, o1, none⟩ v1).setCell ⟨gn, o2, none⟩ v2).setCell ⟨gn, o3, none⟩ v3) : Wiping L w g gn ge w' := by
  obtain ⟨fx, x1, x2⟩ := h.x
  obtain ⟨fn, n1⟩ := h.nodes
  obtain ⟨fe, e1⟩ := h.entries
  have hO : OnlyRow gn ws w' := by rw [hw]; exact ((OnlyRow.setCell _ _ _ _).trans (OnlyRow.setCell _ _ _ _)).trans (OnlyRow.setCell _ _ _ _)
  have n1' := ((n1.set o1 v1).set o2 v2).set o3 v3
  rw [← hw] at n1'
  exact ⟨hO.below h.below (by have := h.old.1; omega), ⟨fx, hO.row x1 (row_ne x1 n1 (by decide)), x2⟩, ⟨_, n1'⟩, ⟨fe, hO.row e1 (row_ne e1 n1 (by decide))⟩, h.old⟩
theorem Wiping.entry {L : Lay} {w : World} {g gn ge : Nat} {ws w' : World} (h : Wiping L w g gn ge ws) (o1 o2 : Nat) (v1 v2 : Value) (hw : w' = (ws.setCell ⟨ge, o1, none⟩ v1).setCell ⟨ge, o2, none⟩ v2) : Wiping L w g gn ge w' := by
  obtain ⟨fx, x1, x2⟩ := h.x
  obtain ⟨fn, n1⟩ := h.nodes
  obtain ⟨fe, e1⟩ := h.entries
  have hO : OnlyRow ge ws w' := by rw [hw]; exact (OnlyRow.setCell _ _ _ _).trans (OnlyRow.setCell _ _ _ _)
  have e1' := (e1.set o1 v1).set o2 v2
  rw [← hw] at e1'
  exact ⟨hO.below h.below (by have := h.old.2; omega), ⟨fx, hO.row x1 (row_ne x1 e1 (by decide)), x2⟩, ⟨fn, hO.row n1 (row_ne n1 e1 (by decide))⟩, ⟨_, e1'⟩, h.old⟩

end Go.Proofs.YtpclldccjpncdabGreat

namespace Go.Proofs.YtpclldccjpncdabGreat
open Go.RowKit

set_option maxRecDepth 100000 in
set_option maxHeartbeats 2000000 in
theorem still_any (L : Lay) (w : World) (h : L.In w.heap.size w) (g gn ge : Nat) (gl : Nat → Nat) (vo : Option Addr) (vc : Nat) (wr : World) (hlent : LentIn L w g gn ge gl vo vc wr) :
    Calls Tryz.prog 24 #[.pointer (some ⟨g, 0, none⟩), .agg #[.slice L.na L.n L.nc, .slice L.ea L.m L.ec]] wr fun e w' => e = .returned (.bool true) ∧ Below w.heap.size w w' := by
  have hn := h.nodes.le
  have hm := h.entries.le
  have HL : Hid (L.In w.heap.size w) := h
  have HT : Hid (LentIn L w g gn ge gl vo vc wr) := hlent
  clear h hlent
  obtain ⟨fx, x1, z0, z1, _⟩ := HT.out.x
  have hgl := x1.lt
  have k0 := x1.cell (i := 0) (by omega)
  have k1 := x1.cell (i := 1) (by omega)
  rw [z0] at k0
  rw [z1] at k1
  have HBX : Hid ((wr.alloc (.cells #[.slice L.na L.n L.nc, .slice L.ea L.m L.ec] 28)).rowIs wr.heap.size 28 2 (boxF L)) := row_at (row_new wr _ _ 2 rfl) rfl (fun i hi => by
    match i, hi with
    | 0, _ => rfl
    | 1, _ => rfl)
  have k0' := Wb.cell (w := wr.alloc (.cells #[.slice L.na L.n L.nc, .slice L.ea L.m L.ec] 28)) (B := wr.heap.size + 1) (by show g < _; omega) (cellTo (below_one _) k0 hgl)
  have k1' := Wb.cell (w := wr.alloc (.cells #[.slice L.na L.n L.nc, .slice L.ea L.m L.ec] 28)) (B := wr.heap.size + 1) (by show g < _; omega) (cellTo (below_one _) k1 hgl)
  have k2' := Wb.cell (B := wr.heap.size + 1) (by show wr.heap.size < _; omega) (HBX.out.cell (i := 0) (by omega))
  have k3' := Wb.cell (B := wr.heap.size + 1) (by show wr.heap.size < _; omega) (HBX.out.cell (i := 1) (by omega))
  simp only [boxF] at k2' k3'
  simp only [Nat.one_ne_zero, if_true, if_false] at k2' k3'
  have HI : Hid (∀ x : Wb (wr.heap.size + 1) (wr.alloc (.cells #[.slice L.na L.n L.nc, .slice L.ea L.m L.ec] 28)), (L.lent gn ge gl).In x.val.heap.size x.val ∧ L.In x.val.heap.size x.val ∧ LentIn L w g gn ge gl vo vc x.val ∧ x.val.rowIs wr.heap.size 28 2 (boxF L)) := fun x => by
    have hb : Below wr.heap.size wr x.val := (below_one _).trans (x.below.mono (by omega))
    have hlt := HT.out.later hb
    exact ⟨hlt.lay HL.out, (HL.out.below hlt.below).mono hlt.below.size, hlt, row_below x.below HBX.out (by omega)⟩
  clear k0 k1 x1
  go_enter Tryz.func24, Tryz.ntmps24
  go_wp2
  refine wp_region_below (wr.heap.size + 1) (by kernel_rfl) (by kernel_rfl) ?_
  repeat (go_big_quiet_step ((go_at_call 27; exact Wb.ofCall _ (by simp) (sameTable_any (L.lent gn ge gl) L _ (HI.out _).1 (HI.out _).2.1 ⟨rfl, rfl, rfl, rfl, rfl, rfl, rfl, rfl⟩))))
  refine wpQuiet_nil ?_
  rintro _ ⟨x, rfl⟩
  have HS : Hid (Stilling L w g gn ge gl vo vc wr.heap.size 0 x.val) := (HI.out x).2.2.1.stilling (HI.out x).2.2.2 (by have := HT.out.old.1; omega)
  generalize x.val = w2 at HS
  clear k0' k1' k2' k3' HI HT HBX
  have c0 := HS.out.box.cell (i := 0) (by omega)
  have c1 := HS.out.box.cell (i := 1) (by omega)
  simp only [boxF] at c0 c1
  simp only [Nat.one_ne_zero, if_true, if_false] at c0 c1
  go_wp2
  clear c0 c1
  go_loop [5, 8] (fun o q => ∃ a : Nat, a ≤ 8 ∧ q = .int .i64 a ∧ o = .bool true) (fun _ q => 8 - (intOf q).toNat)
  case atStart => exact ⟨0, by omega, rfl, rfl⟩
  case round =>
    obtain ⟨a, ha, rfl, rfl⟩ := hrel
    by_cases ha8 : a < 8
    · obtain ⟨fx, x1, _, _, z2, z3, _⟩ := HS.out.x
      obtain ⟨fn, n1, _, n3⟩ := HS.out.nodes
      obtain ⟨fe, e1, _, e3⟩ := HS.out.entries
      have c2 := x1.cell (i := 2) (by omega)
      have c3 := x1.cell (i := 3) (by omega)
      rw [z2] at c2
      rw [z3] at c3
      have d1 := n1.cell (i := (L.n + a) * 3) (by omega)
      have d2 := e1.cell (i := (L.m + a) * 2) (by omega)
      rw [n3 a ha8] at d1
      rw [e3 a ha8] at d2
      unfold beyondS at d2
      clear z2 z3 x1 n1 n3 e1 e3
      go_wp2
      go_round
      case rel => exact ⟨a + 1, by omega, by go_num, rfl⟩
      case measure => simp [intOf]; omega
    · go_wp2
      go_loopw [5, 9] (fun o iv ws => ∃ i : Nat, i ≤ L.m ∧ iv = .int .i64 i ∧ o = .bool true ∧ Stilling L w g gn ge gl vo vc wr.heap.size i ws) (fun _ iv _ => L.m - (intOf iv).toNat)
      case atStart => exact ⟨0, by omega, rfl, rfl, HS.out⟩
      case round =>
        clear HS ha8 ha
        rename World => wi
        obtain ⟨i, hi, rfl, rfl, hst⟩ := hrel
        have HS : Hid (Stilling L w g gn ge gl vo vc wr.heap.size i wi) := hst
        clear hst
        by_cases hlt : i < L.m
        · obtain ⟨fx, x1, _, _, _, _, z4⟩ := HS.out.x
          have c4 := x1.cell (i := 4) (by omega)
          rw [z4] at c4
          obtain ⟨gv, hvo, cv⟩ := own_cell HS.out.own hlt (v := .slice (some ⟨gl i, 0, none⟩) (L.k i + 8) (L.k i + 8)) (by simp [hlt])
          rw [hvo] at c4
          have c1 := HS.out.box.cell (i := 1) (by omega)
          simp only [boxF] at c1
          simp only [Nat.one_ne_zero, if_false] at c1
          rw [HL.out.entries.addr (by omega)] at c1
          have hbb := HL.out.entries.lt (by omega)
          have l1 := cellTo HS.out.below (HL.out.entries.list i hlt) hbb
          have hk := (HL.out.entries.ints i hlt).le
          have HR : Hid (wi.rowIs (gl i) 3 (L.k i + 8) (wipeF (L.k i) (L.z i) 0)) := wipe_start (HS.out.rows i (by omega) hlt)
          have HS1 : Hid (Stilling L w g gn ge gl vo vc wr.heap.size (i + 1) wi) := HS.out.next
          clear z4 x1 hvo
          go_wp2
          clear HS c4 cv c1 l1
          rename World => wj
          go_loopw [5, 12] (fun o jv ws => ∃ j : Nat, j ≤ L.k i + 8 ∧ jv = .int .i64 j ∧ o = .bool true ∧ Stilling L w g gn ge gl vo vc wr.heap.size (i + 1) ws ∧ ws.rowIs (gl i) 3 (L.k i + 8) (wipeF (L.k i) (L.z i) j)) (fun _ jv _ => L.k i + 8 - (intOf jv).toNat)
          case atStart => exact ⟨0, by omega, rfl, rfl, HS1.out, HR.out⟩
          case round =>
            clear HS1 HR
            rename World => wk
            obtain ⟨j, hj, rfl, rfl, hst, hrow⟩ := hrel
            have HS : Hid (Stilling L w g gn ge gl vo vc wr.heap.size (i + 1) wk) := hst
            have HR : Hid (wk.rowIs (gl i) 3 (L.k i + 8) (wipeF (L.k i) (L.z i) j)) := hrow
            clear hst hrow
            by_cases hjk : j < L.k i + 8
            · have cj := HR.out.cell hjk
              have fj := HR.out.frozen j
              by_cases hjj : j < L.k i
              · rw [wipe_at _ _ _ hjj] at cj
                have c1 := HS.out.box.cell (i := 1) (by omega)
                simp only [boxF] at c1
                simp only [Nat.one_ne_zero, if_false] at c1
                rw [HL.out.entries.addr (by omega)] at c1
                have l1 := cellTo HS.out.below (HL.out.entries.list i hlt) hbb
                rw [(HL.out.entries.ints i hlt).addr (by omega)] at l1
                have l2 := cellTo HS.out.below ((HL.out.entries.ints i hlt).cell j hjj) ((HL.out.entries.ints i hlt).lt (by omega))
                go_wp2
                go_quiet (fail)
                go_wp2
                go_roundw
                case rel => exact ⟨j + 1, by omega, by go_num, by simp, (HS.out.drewN _).only hlt (HR.out.of_block rfl) (OnlyRow.setCell _ _ _ _), wipe_step (HR.out.of_block rfl)⟩
                case measure => simp [intOf]; omega
              · rw [wipe_at' _ _ _ hjj] at cj
                go_wp2
                go_roundw
                case rel => exact ⟨j + 1, by omega, by go_num, by simp, HS.out.only hlt HR.out (OnlyRow.setCell _ _ _ _), wipe_step HR.out⟩
                case measure => simp [intOf]; omega
            · go_wp2
              go_roundw
              case rel => exact ⟨i + 1, by omega, by go_num, rfl, HS.out⟩
              case measure => simp [intOf]; omega
        · have HW : Hid (Wiping L w g gn ge wi) := HS.out.wiping
          clear HS
          go_wp2
          go_loopw [13] (fun av ws => ∃ a : Nat, a ≤ L.n + 8 ∧ av = .int .i64 a ∧ Wiping L w g gn ge ws) (fun av _ => L.n + 8 - (intOf av).toNat)
          case atStart => exact ⟨0, by omega, rfl, HW.out⟩
          case round =>
            clear HW
            rename World => wa
            obtain ⟨a, ha, rfl, hwp⟩ := hrel
            have HW : Hid (Wiping L w g gn ge wa) := hwp
            clear hwp
            by_cases han : a < L.n + 8
            · obtain ⟨fx, x1, z2, z3⟩ := HW.out.x
              obtain ⟨fn, n1⟩ := HW.out.nodes
              have y1 : ¬ gn = g := row_ne n1 x1 (by decide)
              have y2 : ¬ g = gn := fun h => y1 h.symm
              have c2 := x1.cell (i := 2) (by omega)
              rw [z2] at c2
              have d0 := n1.cell (i := a * 3) (by omega)
              have d1 := n1.cell (i := a * 3 + 1) (by omega)
              have d2 := n1.cell (i := a * 3 + 2) (by omega)
              have f0 := n1.frozen (a * 3)
              have f1 := n1.frozen (a * 3 + 1)
              have f2 := n1.frozen (a * 3 + 2)
              clear z2 z3 x1 n1
              go_wp2
              go_roundw
              case rel => exact ⟨a + 1, by omega, by go_num, HW.out.node _ _ _ _ _ _ rfl⟩
              case measure => simp [intOf]; omega
            · go_wp2
              go_loopw [14] (fun av ws => ∃ a : Nat, a ≤ L.m + 8 ∧ av = .int .i64 a ∧ Wiping L w g gn ge ws) (fun av _ => L.m + 8 - (intOf av).toNat)
              case atStart => exact ⟨0, by omega, rfl, HW.out⟩
              case round =>
                clear HW ha han
                rename World => wb
                obtain ⟨a, ha, rfl, hwp⟩ := hrel
                have HW : Hid (Wiping L w g gn ge wb) := hwp
                clear hwp
                by_cases han : a < L.m + 8
                · obtain ⟨fx, x1, z2, z3⟩ := HW.out.x
                  obtain ⟨fn, n1⟩ := HW.out.entries
                  have y1 : ¬ ge = g := row_ne n1 x1 (by decide)
                  have y2 : ¬ g = ge := fun h => y1 h.symm
                  have c3 := x1.cell (i := 3) (by omega)
                  rw [z3] at c3
                  have d0 := n1.cell (i := a * 2) (by omega)
                  have d1 := n1.cell (i := a * 2 + 1) (by omega)
                  have f0 := n1.frozen (a * 2)
                  have f1 := n1.frozen (a * 2 + 1)
                  clear z2 z3 x1 n1
                  go_wp2
                  go_roundw
                  case rel => exact ⟨a + 1, by omega, by go_num, HW.out.entry _ _ _ _ rfl⟩
                  case measure => simp [intOf]; omega
                · go_wp2
                  go_ret
                  exact ⟨rfl, HW.out.below⟩

end Go.Proofs.YtpclldccjpncdabGreat

namespace Go.Proofs.YtpclldccjpncdabGreat
open Go.RowKit

/-- the two cells of the table that was lent -/
theorem LentIn.t01 {L : Lay} {w : World} {g gn ge : Nat} {gl : Nat → Nat} {vo : Option Addr} {vc : Nat} {wr : World} (h : LentIn L w g gn ge gl vo vc wr) :
    wr.cell? ⟨g, 0, none⟩ = some (.slice (some ⟨gn, 0, none⟩) L.n (L.n + 8)) ∧ wr.cell? ⟨g, 1, none⟩ = some (.slice (some ⟨ge, 0, none⟩) L.m (L.m + 8)) ∧ g < wr.heap.size := by
  obtain ⟨f, x1, z0, z1, _⟩ := h.x
  exact ⟨by rw [← z0]; exact x1.cell (by omega), by rw [← z1]; exact x1.cell (by omega), x1.lt⟩
theorem valid_lent (L : Lay) (gn ge : Nat) (gl : Nat → Nat) (w : World) (h : (L.lent gn ge gl).In w.heap.size w) :
    Calls Tryz.prog 13 #[.agg #[.slice (some ⟨gn, 0, none⟩) L.n (L.n + 8), .slice (some ⟨ge, 0, none⟩) L.m (L.m + 8)]] w fun e w' => e = .returned (.int .i64 L.err) ∧ Below w.heap.size w w' := valid_any (L.lent gn ge gl) w h

/-- an Op that lies in memory, taken out -/
def opV (kind : Int) (L : Lay) (a b : ByteArray) (lev : Int) (rv : Value) : Value := .agg #[.int .i64 kind, .slice L.na L.n L.nc, .slice L.ea L.m L.ec, .string a, .string b, .int .i64 lev, rv]

set_option maxRecDepth 100000 in
set_option maxHeartbeats 1000000 in
theorem asks_valid (L : Lay) (a b : ByteArray) (lev : Int) (ra : Option Addr) (rn rc : Nat) (w : World) (h : L.In w.heap.size w) :
    Calls Tryz.prog 7 #[.agg #[.int .i64 1, .slice L.na L.n L.nc, .slice L.ea L.m L.ec, .string a, .string b, .int .i64 lev, .slice ra rn rc]] w fun e w' => e = .returned (.bool true) ∧ Below w.heap.size w w' := by
  have HL : Hid (∀ w', Below w.heap.size w w' → L.In w'.heap.size w') := fun w' hb => h.later hb
  have HL0 : Hid (L.In w.heap.size w) := h
  clear h
  go_enter Tryz.func7, Tryz.ntmps7
  go_wp2_with (first
    | (go_at_call 12; refine (lent_any L _ (HL.out _ (below_one _))).mono ?_; rintro e w1 ⟨g, gn, ge, gl, vo, vc, rfl, hlent⟩; obtain ⟨hc, hf⟩ := bcell hlent.below; obtain ⟨x0, x1, xg⟩ := hlent.t01; have hz : w.heap.size < w1.heap.size := by have := hlent.below.size; simp at this; omega)
    | (go_at_call 13; refine (valid_lent L gn ge gl w1 (hlent.lay (HL.out _ (below_one _)))).mono ?_; rintro e w2 ⟨rfl, hb2⟩; obtain ⟨hc2, hf2⟩ := bcell hb2; have hz2 : w.heap.size < w2.heap.size := by have := hb2.size; omega)
    | (go_at_call 14; refine (refValid_any L _ (HL.out _ (below_then (below_then (below_one _) hlent.below) hb2))).mono ?_; rintro e w3 ⟨rfl, hb3⟩; obtain ⟨hc3, hf3⟩ := bcell hb3; have hz3 : w.heap.size < w3.heap.size := by have := hb3.size; omega)
    | (go_at_call 24; refine (still_any L _ (HL.out _ (below_one _)) g gn ge gl vo vc _ ((hlent.later hb2).later hb3)).mono ?_; rintro e w4 ⟨rfl, hb4⟩))
  go_ret
  exact ⟨rfl, below_then (below_one _) hb4⟩

end Go.Proofs.YtpclldccjpncdabGreat
