import Derived.Test.YtpclldccjpncdaaGreatSame
namespace Go.Proofs.YtpclldccjpncdaaGreat
open Go.RowKit

theorem row_below {B : Nat} {w w' : World} (hb : Below B w w') {b : Nat} {t : TypeId} {n : Nat} {f : Nat → Value} (h : w.rowIs b t n f) (hB : b < B) : w'.rowIs b t n f := h.of_block (hb.block b hB)
theorem own_lt {w : World} {base : Nat} {e : TypeId} {size : Nat} {v : Value} {k : Nat} {xs : List Value} (ho : w.ownsRow base e size v k xs) {b : Nat} (hb : v.ownBlock = some b) : b < w.heap.size := by
  obtain ⟨_, h2⟩ := ho
  rcases h2 with ⟨rfl, _⟩ | ⟨g, cap, cur, rfl, _, hh, _⟩
  · simp [Value.ownBlock] at hb
  · simp only [Value.ownBlock, Option.some.injEq] at hb
    subst hb
    exact (Array.getElem?_eq_some_iff.1 hh).1
theorem own_below {w w' : World} (hb : Below w.heap.size w w') {base : Nat} {e : TypeId} {size : Nat} {v : Value} {k : Nat} {xs : List Value} (ho : w.ownsRow base e size v k xs) : w'.ownsRow base e size v k xs :=
  own_of_block ho fun b h => hb.block b (own_lt ho h)
theorem own_cell {w : World} {base : Nat} {e : TypeId} {vo : Option Addr} {n vc : Nat} {xs : List Value} (ho : w.ownsRow base e 1 (.slice vo n vc) n xs) {i : Nat} (hi : i < n) {v : Value} (hv : xs[i]? = some v) :
    ∃ gv, vo = some ⟨gv, 0, none⟩ ∧ w.cell? ⟨gv, i, none⟩ = some v := by
  obtain ⟨_, h2⟩ := ho
  rcases h2 with ⟨_, h0⟩ | ⟨g, cap, cur, hs, _, hh, hnc, _, hcs, ht⟩
  · omega
  · cases hs
    refine ⟨g, rfl, ?_⟩
    rw [← ht, List.getElem?_take] at hv
    rw [if_pos (by omega)] at hv
    simp only [Array.getElem?_toList] at hv
    simp [World.cell?, hh, hv]

/-- what 'still' works on: lists from i on are as they were lent -/
structure Stilling (L : Lay) (w : World) (g gn ge : Nat) (gl : Nat → Nat) (vo : Option Addr) (vc b1 i : Nat) (ws : World) : Prop where
  below : Below w.heap.size w ws
  x : ∃ f, ws.rowIs g 39 5 f ∧ f 0 = .slice (some ⟨gn, 0, none⟩) L.n (L.n + 8) ∧ f 1 = .slice (some ⟨ge, 0, none⟩) L.m (L.m + 8) ∧ f 2 = .slice (some ⟨gn, 0, none⟩) (L.n + 8) (L.n + 8) ∧ f 3 = .slice (some ⟨ge, 0, none⟩) (L.m + 8) (L.m + 8) ∧ f 4 = .slice vo L.m vc
  nodes : ∃ f, ws.rowIs gn 65 ((L.n + 8) * 3) f ∧ (∀ j, j < L.n * 3 → f j = nodeC L j) ∧ ∀ a, a < 8 → f ((L.n + a) * 3) = .int .i64 (-77)
  entries : ∃ f, ws.rowIs ge 63 ((L.m + 8) * 2) f ∧ (∀ j, j < L.m → f (j * 2) = .string (L.tx j) ∧ f (j * 2 + 1) = .slice (some ⟨gl j, 0, none⟩) (L.k j) (L.k j + 8)) ∧ ∀ a, a < 8 → f ((L.m + a) * 2) = .string beyondS
  own : ws.ownsRow (w.heap.size + 1) 61 1 (.slice vo L.m vc) L.m ((List.range L.m).map fun j => .slice (some ⟨gl j, 0, none⟩) (L.k j + 8) (L.k j + 8))
  rows : ∀ j, i ≤ j → j < L.m → ws.rowIs (gl j) 3 (L.k j + 8) (fun q => .int .i64 (markZ (L.k j) (L.z j) q))
  inj : ∀ j j', j < L.m → j' < L.m → gl j = gl j' → j = j'
  old : w.heap.size < g ∧ w.heap.size < gn ∧ w.heap.size < ge ∧ ∀ j, j < L.m → w.heap.size < gl j
  box : ws.rowIs b1 28 2 (boxF L)
  boxOld : w.heap.size < b1

theorem LentIn.later {L : Lay} {w : World} {g gn ge : Nat} {gl : Nat → Nat} {vo : Option Addr} {vc : Nat} {wr w' : World} (h : LentIn L w g gn ge gl vo vc wr) (hb : Below wr.heap.size wr w') : LentIn L w g gn ge gl vo vc w' :=
  ⟨h.below.trans (hb.mono h.below.size), let ⟨f, a, b⟩ := h.x; ⟨f, row_below hb a a.lt, b⟩, let ⟨f, a, b⟩ := h.nodes; ⟨f, row_below hb a a.lt, b⟩, let ⟨f, a, b⟩ := h.entries; ⟨f, row_below hb a a.lt, b⟩, own_below hb h.own, fun j hj => row_below hb (h.rows j hj) (h.rows j hj).lt, h.inj, h.old⟩

theorem LentIn.stilling {L : Lay} {w : World} {g gn ge : Nat} {gl : Nat → Nat} {vo : Option Addr} {vc b1 : Nat} {wr : World} (h : LentIn L w g gn ge gl vo vc wr) (hbox : wr.rowIs b1 28 2 (boxF L)) (hb1 : w.heap.size < b1) : Stilling L w g gn ge gl vo vc b1 0 wr :=
  ⟨h.below, h.x, h.nodes, h.entries, h.own, fun j _ hj => h.rows j hj, h.inj, h.old, hbox, hb1⟩

theorem Stilling.drew {L : Lay} {w : World} {g gn ge : Nat} {gl : Nat → Nat} {vo : Option Addr} {vc b1 i : Nat} {ws : World} (h : Stilling L w g gn ge gl vo vc b1 i ws) : Stilling L w g gn ge gl vo vc b1 i ws.drew :=
  ⟨h.below.drew, let ⟨f, a, b⟩ := h.x; ⟨f, a.drew, b⟩, let ⟨f, a, b⟩ := h.nodes; ⟨f, a.drew, b⟩, let ⟨f, a, b⟩ := h.entries; ⟨f, a.drew, b⟩, h.own.drew, fun j h1 hj => (h.rows j h1 hj).drew, h.inj, h.old, h.box.drew, h.boxOld⟩
theorem Stilling.drewN {L : Lay} {w : World} {g gn ge : Nat} {gl : Nat → Nat} {vo : Option Addr} {vc b1 i : Nat} {ws : World} (h : Stilling L w g gn ge gl vo vc b1 i ws) : ∀ n, Stilling L w g gn ge gl vo vc b1 i (ws.drewN n) := fun n =>
  ⟨below_drewN h.below n, let ⟨f, a, b⟩ := h.x; ⟨f, a.of_block rfl, b⟩, let ⟨f, a, b⟩ := h.nodes; ⟨f, a.of_block rfl, b⟩, let ⟨f, a, b⟩ := h.entries; ⟨f, a.of_block rfl, b⟩, own_of_block h.own (fun _ _ => rfl), fun j h1 hj => (h.rows j h1 hj).of_block rfl, h.inj, h.old, h.box.of_block rfl, h.boxOld⟩

/-- the row of list i is written: from i + 1 on all is as it was -/
theorem Stilling.only {L : Lay} {w : World} {g gn ge : Nat} {gl : Nat → Nat} {vo : Option Addr} {vc b1 i : Nat} {ws w' : World} (h : Stilling L w g gn ge gl vo vc b1 (i + 1) ws) (hi : i < L.m) {n : Nat} {f : Nat → Value} (hr : ws.rowIs (gl i) 3 n f) (hO : OnlyRow (gl i) ws w') : Stilling L w g gn ge gl vo vc b1 (i + 1) w' := by
  obtain ⟨fx, x1, x2⟩ := h.x
  obtain ⟨fn, n1, n2⟩ := h.nodes
  obtain ⟨fe, e1, e2⟩ := h.entries
  exact ⟨hO.below h.below (by have := h.old.2.2.2 i hi; omega), ⟨fx, hO.row x1 (row_ne x1 hr (by decide)), x2⟩, ⟨fn, hO.row n1 (row_ne n1 hr (by decide)), n2⟩, ⟨fe, hO.row e1 (row_ne e1 hr (by decide)), e2⟩, own_only hO h.own (own_ne h.own hr (by decide)).symm,
    fun j h1 hj => hO.row (h.rows j h1 hj) (fun e => by have := h.inj j i hj hi e; omega), h.inj, h.old, hO.row h.box (row_ne h.box hr (by decide)), h.boxOld⟩
theorem Stilling.next {L : Lay} {w : World} {g gn ge : Nat} {gl : Nat → Nat} {vo : Option Addr} {vc b1 i : Nat} {ws : World} (h : Stilling L w g gn ge gl vo vc b1 i ws) : Stilling L w g gn ge gl vo vc b1 (i + 1) ws :=
  ⟨h.below, h.x, h.nodes, h.entries, h.own, fun j h1 hj => h.rows j (by omega) hj, h.inj, h.old, h.box, h.boxOld⟩

def wipeF (k : Nat) (z : Nat → Int) (j q : Nat) : Value := .int .i64 (if q < j then -77 else markZ k z q)
theorem wipe_start {w : World} {h k : Nat} {z : Nat → Int} (hr : w.rowIs h 3 (k + 8) (fun q => .int .i64 (markZ k z q))) : w.rowIs h 3 (k + 8) (wipeF k z 0) := hr.congr fun q _ => by simp [wipeF]
theorem wipe_step {w : World} {h k j : Nat} {z : Nat → Int} (hr : w.rowIs h 3 (k + 8) (wipeF k z j)) : (w.setCell ⟨h, j, none⟩ (.int .i64 (-77))).rowIs h 3 (k + 8) (wipeF k z (j + 1)) :=
  (hr.set j (.int .i64 (-77))).congr fun q _ => by
    by_cases e : q = j
    · subst e; simp [wipeF]
    · rw [if_neg e]
      have h1 : q < j + 1 ↔ q < j := by omega
      simp [wipeF, h1]
theorem wipe_at (k : Nat) (z : Nat → Int) (j : Nat) (h : j < k) : wipeF k z j j = .int .i64 (z j) := by simp [wipeF, markZ, h]
theorem wipe_at' (k : Nat) (z : Nat → Int) (j : Nat) (h : ¬ j < k) : wipeF k z j j = .int .i64 (-77) := by simp [wipeF, markZ, h]

/-- the table that was lent, as a table -/
def Lay.lent (L : Lay) (gn ge : Nat) (gl : Nat → Nat) : Lay := { L with na := some ⟨gn, 0, none⟩, nc := L.n + 8, nb := gn, no := 0, ea := some ⟨ge, 0, none⟩, ec := L.m + 8, eb := ge, eo := 0, la := fun i => some ⟨gl i, 0, none⟩, lc := fun i => L.k i + 8, lb := gl, lo := fun _ => 0 }
theorem LentIn.lay {L : Lay} {w : World} {g gn ge : Nat} {gl : Nat → Nat} {vo : Option Addr} {vc : Nat} {wr : World} (h : LentIn L w g gn ge gl vo vc wr) (hL : L.In w.heap.size w) : (L.lent gn ge gl).In wr.heap.size wr := by
  obtain ⟨fn, n1, n2, _⟩ := h.nodes
  obtain ⟨fe, e1, e2, _⟩ := h.entries
  refine ⟨⟨fun _ => rfl, fun _ => n1.lt, fun i hi => ?_, fun i hi => ?_, fun i hi => ?_, hL.nodes.le⟩, ⟨fun _ => rfl, fun _ => e1.lt, fun i hi => ?_, fun i hi => ?_, fun i hi => ⟨fun _ => rfl, fun _ => (h.rows i hi).lt, fun j hj => ?_, (hL.entries.ints i hi).le⟩, hL.entries.le⟩⟩
  all_goals simp only [Lay.lent, Nat.zero_add] at *
  · rw [n1.cell (by omega), n2 _ (by omega), nodeC_0]
  · rw [n1.cell (by omega), n2 _ (by omega), nodeC_1]
  · rw [n1.cell (by omega), n2 _ (by omega), nodeC_2]
  · rw [e1.cell (by omega), (e2 i hi).1]
  · rw [e1.cell (by omega), (e2 i hi).2]
  · rw [(h.rows i hi).cell (by omega)]; simp [markZ, hj]


/-- what the last two loops want -/
structure Wiping (L : Lay) (w : World) (g gn ge : Nat) (ws : World) : Prop where
  below : Below w.heap.size w ws
  x : ∃ f, ws.rowIs g 39 5 f ∧ f 2 = .slice (some ⟨gn, 0, none⟩) (L.n + 8) (L.n + 8) ∧ f 3 = .slice (some ⟨ge, 0, none⟩) (L.m + 8) (L.m + 8)
  nodes : ∃ f, ws.rowIs gn 65 ((L.n + 8) * 3) f
  entries : ∃ f, ws.rowIs ge 63 ((L.m + 8) * 2) f
  old : w.heap.size < gn ∧ w.heap.size < ge
theorem Stilling.wiping {L : Lay} {w : World} {g gn ge : Nat} {gl : Nat → Nat} {vo : Option Addr} {vc b1 i : Nat} {ws : World} (h : Stilling L w g gn ge gl vo vc b1 i ws) : Wiping L w g gn ge ws :=
  ⟨h.below, let ⟨f, a, _, _, b, c, _⟩ := h.x; ⟨f, a, b, c⟩, let ⟨f, a, _⟩ := h.nodes; ⟨f, a⟩, let ⟨f, a, _⟩ := h.entries; ⟨f, a⟩, h.old.2.1, h.old.2.2.1⟩
theorem Wiping.node {L : Lay} {w : World} {g gn ge : Nat} {ws w' : World} (h : Wiping L w g gn ge ws) (o1 o2 o3 : Nat) (v1 v2 v3 : Value) (hw : w' = ((ws.setCell ⟨gn, o1, none⟩ v1).setCell ⟨gn, o2, none⟩ v2).setCell ⟨gn, o3, none⟩ v3) : Wiping L w g gn ge w' := by
  obtain ⟨fx, x1, x2⟩ := h.x
  obtain ⟨fn, n1⟩ := h.nodes
  obtain ⟨fe, e1⟩ := h.entries
  have hO : OnlyRow gn ws w' := by rw [hw]; exact ((OnlyRow.setCell _ _ _ _).trans (OnlyRow.setCell _ _ _ _)).trans (OnlyRow.setCell _ _ _ _)
  have n1' := ((n1.set o1 v1).set o2 v2).set o3 v3
  rw [← hw] at n1'
  exact ⟨hO.below h.below (by have := h.old.1; omega), ⟨fx, hO.row x1 (row_ne x1 n1 (by decide)), x2⟩, ⟨_, n1'⟩, ⟨fe, hO.row e1 (row_ne e1 n1 (by decide))⟩, h.old⟩
theorem Wiping.entry {L : Lay} {w : World} {g gn ge : Nat} {ws w' : World} (h : Wiping L w g gn ge ws) (o1 o2 : Nat) (v1 v2 : Value) (hw : w' = (ws.setCell ⟨ge, o1, none⟩ v1).setCell ⟨ge, o2, none⟩ v2) : Wiping L w g gn ge w' := by
  obtain ⟨fx, x1, x2⟩ := h.x
  obtain ⟨fn, n1⟩ := h.nodes
  obtain ⟨fe, e1⟩ := h.entries
  have hO : OnlyRow ge ws w' := by rw [hw]; exact (OnlyRow.setCell _ _ _ _).trans (OnlyRow.setCell _ _ _ _)
  have e1' := (e1.set o1 v1).set o2 v2
  rw [← hw] at e1'
  exact ⟨hO.below h.below (by have := h.old.2; omega), ⟨fx, hO.row x1 (row_ne x1 e1 (by decide)), x2⟩, ⟨fn, hO.row n1 (row_ne n1 e1 (by decide))⟩, ⟨_, e1'⟩, h.old⟩

end Go.Proofs.YtpclldccjpncdaaGreat
