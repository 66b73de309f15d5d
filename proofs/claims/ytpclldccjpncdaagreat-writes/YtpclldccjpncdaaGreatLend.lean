import Derived.Test.YtpclldccjpncdaaGreatRefC
import Derived.Test.YtpclldccjpncdaaGreatRows2
import Derived.Deep.AppendLies
namespace Go.Proofs.YtpclldccjpncdaaGreat
open Go.RowKit

theorem row_new (w : World) (c : Array Value) (t : TypeId) (N : Nat) (hN : c.size = N) : (w.alloc (.cells c t)).rowIs w.heap.size t N (fun i => c.getD i undef) := by
  subst hN
  exact World.rowIs_alloc w c t _ fun i hi => by simp [hi]
theorem row_grown {w w' : World} {r : Option Nat} (hg : w.grownBy w' r) {b : Nat} {t : TypeId} {n : Nat} {f : Nat → Value} (h : w.rowIs b t n f) (hb : some b ≠ r) : w'.rowIs b t n f := h.of_block (hg.block b h.lt hb)
theorem own_ne {w : World} {base : Nat} {e : TypeId} {size : Nat} {v : Value} {k : Nat} {xs : List Value} (ho : w.ownsRow base e size v k xs) {b : Nat} {t : TypeId} {n : Nat} {f : Nat → Value} (h : w.rowIs b t n f) (ht : t ≠ e) : some b ≠ v.ownBlock := by
  intro hb
  obtain ⟨_, h2⟩ := ho
  rcases h2 with ⟨rfl, _⟩ | ⟨g, cap, cur, rfl, _, hh, _⟩
  · simp [Value.ownBlock] at hb
  · simp only [Value.ownBlock, Option.some.injEq] at hb
    subst hb
    obtain ⟨c, hc, _⟩ := h
    rw [hc] at hh
    cases hh
    exact ht rfl
theorem own_of_block {w w' : World} {base : Nat} {e : TypeId} {size : Nat} {v : Value} {k : Nat} {xs : List Value} (ho : w.ownsRow base e size v k xs) (h : ∀ b, v.ownBlock = some b → w'.heap[b]? = w.heap[b]?) : w'.ownsRow base e size v k xs := by
  obtain ⟨h1, h2⟩ := ho
  refine ⟨h1, ?_⟩
  rcases h2 with h2 | ⟨g, cap, cur, hv, hg, hh, r⟩
  · exact .inl h2
  · exact .inr ⟨g, cap, cur, hv, hg, by rw [h g (by rw [hv]; rfl)]; exact hh, r⟩
theorem own_only {g : Nat} {w w' : World} (hO : OnlyRow g w w') {base : Nat} {e : TypeId} {size : Nat} {v : Value} {k : Nat} {xs : List Value} (ho : w.ownsRow base e size v k xs) (hne : v.ownBlock ≠ some g) : w'.ownsRow base e size v k xs :=
  own_of_block ho fun b hb => hO.block b fun h => hne (by rw [hb, h])

def nodeC (L : Lay) (c : Nat) : Value := if c % 3 = 0 then .int .i64 (L.p (c / 3)) else if c % 3 = 1 then .int .i64 (L.s (c / 3)) else .int .i64 (L.t (c / 3))
theorem nodeC_0 (L : Lay) (i : Nat) : nodeC L (i * 3) = .int .i64 (L.p i) := by
  have h1 : i * 3 % 3 = 0 := by omega
  have h2 : i * 3 / 3 = i := by omega
  simp [nodeC, h2]
theorem nodeC_1 (L : Lay) (i : Nat) : nodeC L (i * 3 + 1) = .int .i64 (L.s i) := by
  have h1 : (i * 3 + 1) % 3 = 1 := by omega
  have h2 : (i * 3 + 1) / 3 = i := by omega
  simp [nodeC, h1, h2]
theorem nodeC_2 (L : Lay) (i : Nat) : nodeC L (i * 3 + 2) = .int .i64 (L.t i) := by
  have h1 : (i * 3 + 2) % 3 = 2 := by omega
  have h2 : (i * 3 + 2) / 3 = i := by omega
  simp [nodeC, h1, h2]
theorem nodeC_one (L : Lay) (c : Nat) : (nodeC L c).oneCell' = true := by
  unfold nodeC
  split
  · rfl
  · split <;> rfl
theorem NodesIn.flat {B : Nat} {w : World} {L : Lay} (h : NodesIn B w L.na L.n L.nb L.no L.p L.s L.t) (c : Nat) (hc : c < L.n * 3) : w.cell? ⟨L.nb, L.no + c, none⟩ = some (nodeC L c) := by
  have hd : c / 3 < L.n := by omega
  have hq : c % 3 = 0 ∨ c % 3 = 1 ∨ c % 3 = 2 := by omega
  rcases hq with hq | hq | hq
  · have := h.p (c / 3) hd
    rw [show L.no + c / 3 * 3 = L.no + c by omega] at this
    rw [this]; simp [nodeC, hq]
  · have := h.s (c / 3) hd
    rw [show L.no + c / 3 * 3 + 1 = L.no + c by omega] at this
    rw [this]; simp [nodeC, hq]
  · have := h.t (c / 3) hd
    rw [show L.no + c / 3 * 3 + 2 = L.no + c by omega] at this
    rw [this]; simp [nodeC, hq]

def markZ (k : Nat) (z : Nat → Int) (j : Nat) : Int := if j < k then z j else -77
def boxF (L : Lay) (j : Nat) : Value := if j = 0 then .slice L.na L.n L.nc else .slice L.ea L.m L.ec
def xF (L : Lay) (gn ge : Nat) (v : Value) (j : Nat) : Value :=
  if j = 2 then .slice (some ⟨gn, 0, none⟩) (L.n + 8) (L.n + 8) else if j = 3 then .slice (some ⟨ge, 0, none⟩) (L.m + 8) (L.m + 8) else if j = 4 then v else .slice none 0 0

/-- What 'lent' has made, its first i entries done. -/
structure Lending (L : Lay) (w : World) (g gn ge i : Nat) (gl : Nat → Nat) (vo : Option Addr) (vc : Nat) (wr : World) : Prop where
  below : Below w.heap.size w wr
  box : wr.rowIs w.heap.size 28 2 (boxF L)
  x : wr.rowIs g 39 5 (xF L gn ge (.slice vo i vc))
  nodes : ∃ f, wr.rowIs gn 65 ((L.n + 8) * 3) f ∧ ∀ j, j < L.n * 3 → f j = nodeC L j
  entries : ∃ f, wr.rowIs ge 63 ((L.m + 8) * 2) f ∧ ∀ j, j < i → f (j * 2) = .string (L.tx j) ∧ f (j * 2 + 1) = .slice (some ⟨gl j, 0, none⟩) (L.k j) (L.k j + 8)
  own : wr.ownsRow (w.heap.size + 1) 61 1 (.slice vo i vc) i ((List.range i).map fun j => .slice (some ⟨gl j, 0, none⟩) (L.k j + 8) (L.k j + 8))
  rows : ∀ j, j < i → wr.rowIs (gl j) 3 (L.k j + 8) (fun q => .int .i64 (markZ (L.k j) (L.z j) q))
  inj : ∀ j j', j < i → j' < i → gl j = gl j' → j = j'
  old : w.heap.size < g ∧ w.heap.size < gn ∧ w.heap.size < ge ∧ ∀ j, j < i → w.heap.size < gl j

theorem Lending.alloc {L : Lay} {w : World} {g gn ge i : Nat} {gl : Nat → Nat} {vo : Option Addr} {vc : Nat} {wr : World} (h : Lending L w g gn ge i gl vo vc wr) (o : Obj) : Lending L w g gn ge i gl vo vc (wr.alloc o) :=
  ⟨h.below.alloc h.below.size o, h.box.alloc o, h.x.alloc o, let ⟨f, a, b⟩ := h.nodes; ⟨f, a.alloc o, b⟩, let ⟨f, a, b⟩ := h.entries; ⟨f, a.alloc o, b⟩, h.own.alloc o, fun j hj => (h.rows j hj).alloc o, h.inj, h.old⟩

/-- a row of numbers is written that is none of its own -/
theorem Lending.only {L : Lay} {w : World} {g gn ge i : Nat} {gl : Nat → Nat} {vo : Option Addr} {vc : Nat} {wr w' : World} (h : Lending L w g gn ge i gl vo vc wr) {b n : Nat} {f : Nat → Value} (hr : wr.rowIs b 3 n f) (hb : w.heap.size < b) (hne : ∀ j, j < i → gl j ≠ b)
    (hO : OnlyRow b wr w') : Lending L w g gn ge i gl vo vc w' := by
  refine ⟨hO.below h.below (by omega), hO.row h.box (by omega), hO.row h.x (row_ne h.x hr (by decide)), ?_, ?_, own_only hO h.own ?_, fun j hj => hO.row (h.rows j hj) (hne j hj), h.inj, h.old⟩
  · obtain ⟨f, a, b⟩ := h.nodes
    exact ⟨f, hO.row a (row_ne a hr (by decide)), b⟩
  · obtain ⟨f, a, b⟩ := h.entries
    exact ⟨f, hO.row a (row_ne a hr (by decide)), b⟩
  · exact (own_ne h.own hr (by decide)).symm

theorem row_at {w : World} {b b' : Nat} {t : TypeId} {n : Nat} {f f' : Nat → Value} (h : w.rowIs b t n f) (e : b = b') (hf : ∀ i, i < n → f i = f' i) : w.rowIs b' t n f' := e ▸ h.congr hf
theorem size_one (w : World) (o : Obj) : (w.alloc o).heap.size = w.heap.size + 1 := by simp

/-- the start: what the two makes and the new object leave, in either order -/
def Begun (L : Lay) (w : World) (g gn ge : Nat) (wc : World) : Prop :=
  Below w.heap.size w wc ∧ wc.rowIs w.heap.size 28 2 (boxF L) ∧ wc.rowIs g 39 5 (xF L gn ge (.slice none 0 0)) ∧
      (∃ f, wc.rowIs gn 65 ((L.n + 8) * 3) f) ∧ (∃ f, wc.rowIs ge 63 ((L.m + 8) * 2) f) ∧ w.heap.size < g ∧ w.heap.size < gn ∧ w.heap.size < ge
theorem begun1 (L : Lay) (w : World) (c1 c2 : Array Value) (h1 : c1.size = (L.n + 8) * 3) (h2 : c2.size = (L.m + 8) * 2) :
    Begun L w (w.heap.size + 1 + 1 + 1) (w.heap.size + 1) (w.heap.size + 1 + 1) ((((w.alloc (.cells #[.slice L.na L.n L.nc, .slice L.ea L.m L.ec] 28)).alloc (.cells c1 65)).alloc (.cells c2 63)).alloc
      (.cells #[.slice none 0 0, .slice none 0 0, .slice (some ⟨w.heap.size + 1, 0, none⟩) (L.n + 8) (L.n + 8), .slice (some ⟨w.heap.size + 1 + 1, 0, none⟩) (L.m + 8) (L.m + 8), .slice none 0 0] 39)).drew := by
  refine ⟨?_, ?_, ?_, ⟨fun i => c1.getD i undef, ?_⟩, ⟨fun i => c2.getD i undef, ?_⟩, by omega, by omega, by omega⟩
  · refine Below.drew ?_
    exact below_then (below_then (below_then (below_one _) (below_one _)) (below_one _)) (below_one _)
  · refine World.rowIs.drew (World.rowIs.alloc (World.rowIs.alloc (World.rowIs.alloc (row_at (row_new w _ _ 2 rfl) rfl ?_) _) _) _)
    intro i hi
    match i, hi with
    | 0, _ => rfl
    | 1, _ => rfl
  · refine World.rowIs.drew (row_at (row_new _ _ _ 5 rfl) (by simp only [size_one]) ?_)
    intro i hi
    match i, hi with
    | 0, _ => rfl
    | 1, _ => rfl
    | 2, _ => rfl
    | 3, _ => rfl
    | 4, _ => rfl
  · exact World.rowIs.drew (World.rowIs.alloc (World.rowIs.alloc (row_at (row_new _ c1 _ _ h1) (by simp only [size_one]) fun _ _ => rfl) _) _)
  · exact World.rowIs.drew (World.rowIs.alloc (row_at (row_new _ c2 _ _ h2) (by simp only [size_one]) fun _ _ => rfl) _)
theorem begun2 (L : Lay) (w : World) (c1 c2 : Array Value) (h1 : c1.size = (L.n + 8) * 3) (h2 : c2.size = (L.m + 8) * 2) :
    Begun L w (w.heap.size + 1 + 1 + 1) (w.heap.size + 1 + 1) (w.heap.size + 1) ((((w.alloc (.cells #[.slice L.na L.n L.nc, .slice L.ea L.m L.ec] 28)).alloc (.cells c2 63)).alloc (.cells c1 65)).alloc
      (.cells #[.slice none 0 0, .slice none 0 0, .slice (some ⟨w.heap.size + 1 + 1, 0, none⟩) (L.n + 8) (L.n + 8), .slice (some ⟨w.heap.size + 1, 0, none⟩) (L.m + 8) (L.m + 8), .slice none 0 0] 39)).drew := by
  refine ⟨?_, ?_, ?_, ⟨fun i => c1.getD i undef, ?_⟩, ⟨fun i => c2.getD i undef, ?_⟩, by omega, by omega, by omega⟩
  · refine Below.drew ?_
    exact below_then (below_then (below_then (below_one _) (below_one _)) (below_one _)) (below_one _)
  · refine World.rowIs.drew (World.rowIs.alloc (World.rowIs.alloc (World.rowIs.alloc (row_at (row_new w _ _ 2 rfl) rfl ?_) _) _) _)
    intro i hi
    match i, hi with
    | 0, _ => rfl
    | 1, _ => rfl
  · refine World.rowIs.drew (row_at (row_new _ _ _ 5 rfl) (by simp only [size_one]) ?_)
    intro i hi
    match i, hi with
    | 0, _ => rfl
    | 1, _ => rfl
    | 2, _ => rfl
    | 3, _ => rfl
    | 4, _ => rfl
  · exact World.rowIs.drew (World.rowIs.alloc (row_at (row_new _ c1 _ _ h1) (by simp only [size_one]) fun _ _ => rfl) _)
  · exact World.rowIs.drew (World.rowIs.alloc (World.rowIs.alloc (row_at (row_new _ c2 _ _ h2) (by simp only [size_one]) fun _ _ => rfl) _) _)

/-- .. and behind the copy of the nodes: no entry is done yet -/
theorem Begun.lending {L : Lay} {w : World} {g gn ge : Nat} {wc w' : World} (h : Begun L w g gn ge wc) (hO : OnlyRow gn wc w') {f : Nat → Value} (hr : w'.rowIs gn 65 ((L.n + 8) * 3) (fun j => if j < L.n * 3 then nodeC L j else f j)) :
    Lending L w g gn ge 0 (fun _ => 0) none 0 w' := by
  obtain ⟨hb, hbox, hx, ⟨f1, hn⟩, ⟨f2, he⟩, h1, h2, h3⟩ := h
  refine ⟨hO.below hb (by omega), hO.row hbox (by omega), hO.row hx (row_ne hx hn (by decide)), ⟨_, hr, fun j hj => if_pos hj⟩, ⟨_, hO.row he (row_ne he hn (by decide)), fun j hj => by omega⟩, World.ownsRow_nil _ _ _ _, fun j hj => by omega, fun j j' hj => by omega, h1, h2, h3, fun j hj => by omega⟩


/-- the marks behind a list, the first j cells done -/
def markF (k : Nat) (z : Nat → Int) (j q : Nat) : Value := .int .i64 (if q < j then markZ k z q else 0)
theorem mark_start {w : World} {h k : Nat} {z : Nat → Int} (hr : w.rowIs h 3 (k + 8) (fun j => if j < k * 1 then .int .i64 (z j) else .int .i64 0)) : w.rowIs h 3 (k + 8) (markF k z k) :=
  hr.congr fun q _ => by
    by_cases e : q < k
    · rw [if_pos (by omega)]; simp [markF, markZ, e]
    · rw [if_neg (by omega)]; simp [markF, e]
theorem mark_step {w : World} {h k j : Nat} {z : Nat → Int} (hj : k ≤ j) (hr : w.rowIs h 3 (k + 8) (markF k z j)) : (w.setCell ⟨h, j, none⟩ (.int .i64 (-77))).rowIs h 3 (k + 8) (markF k z (j + 1)) :=
  (hr.set j (.int .i64 (-77))).congr fun q _ => by
    by_cases e : q = j
    · subst e
      have h1 : ¬ q < k := by omega
      simp [markF, markZ, h1]
    · rw [if_neg e]
      have h1 : q < j + 1 ↔ q < j := by omega
      simp [markF, h1]
theorem mark_end {w : World} {h k : Nat} {z : Nat → Int} (hr : w.rowIs h 3 (k + 8) (markF k z (k + 8))) : w.rowIs h 3 (k + 8) (fun q => .int .i64 (markZ k z q)) :=
  hr.congr fun q hq => by simp [markF, hq]


theorem x_cell4 {L : Lay} {w : World} {g gn ge i : Nat} {gl : Nat → Nat} {vo : Option Addr} {vc : Nat} {wr : World} (h : Lending L w g gn ge i gl vo vc wr) : wr.cell? ⟨g, 4, none⟩ = some (.slice vo i vc) := by
  have := h.x.cell (i := 4) (by omega)
  simpa [xF] using this
theorem grown_x {L : Lay} {w : World} {g gn ge i : Nat} {gl : Nat → Nat} {vo : Option Addr} {vc : Nat} {wr w' : World} (h : Lending L w g gn ge i gl vo vc wr) (hg : wr.grownBy w' (Value.slice vo i vc).ownBlock) : w'.rowIs g 39 5 (xF L gn ge (.slice vo i vc)) :=
  row_grown hg h.x (own_ne h.own h.x (by decide))
theorem row_cell4 {L : Lay} {g gn ge : Nat} {v : Value} {w : World} (h : w.rowIs g 39 5 (xF L gn ge v)) : w.cell? ⟨g, 4, none⟩ = some v ∧ w.frozen? ⟨g, 4, none⟩ = false := by
  have := h.cell (i := 4) (by omega)
  exact ⟨by simpa [xF] using this, h.frozen 4⟩
theorem row_cell3 {L : Lay} {g gn ge : Nat} {v : Value} {w : World} (h : w.rowIs g 39 5 (xF L gn ge v)) : w.cell? ⟨g, 3, none⟩ = some (.slice (some ⟨ge, 0, none⟩) (L.m + 8) (L.m + 8)) := by
  have := h.cell (i := 3) (by omega)
  simpa [xF] using this
theorem row_cell2 {L : Lay} {g gn ge : Nat} {v : Value} {w : World} (h : w.rowIs g 39 5 (xF L gn ge v)) : w.cell? ⟨g, 2, none⟩ = some (.slice (some ⟨gn, 0, none⟩) (L.n + 8) (L.n + 8)) := by
  have := h.cell (i := 2) (by omega)
  simpa [xF] using this

/-- the list l, in block h, has been appended and the field set: all but the entry -/
structure Listed (L : Lay) (w : World) (g gn ge i : Nat) (gl : Nat → Nat) (h : Nat) (vo : Option Addr) (vc : Nat) (wr : World) : Prop where
  below : Below w.heap.size w wr
  box : wr.rowIs w.heap.size 28 2 (boxF L)
  x : wr.rowIs g 39 5 (xF L gn ge (.slice vo (i + 1) vc))
  nodes : ∃ f, wr.rowIs gn 65 ((L.n + 8) * 3) f ∧ ∀ j, j < L.n * 3 → f j = nodeC L j
  entries : ∃ f, wr.rowIs ge 63 ((L.m + 8) * 2) f ∧ ∀ j, j < i → f (j * 2) = .string (L.tx j) ∧ f (j * 2 + 1) = .slice (some ⟨gl j, 0, none⟩) (L.k j) (L.k j + 8)
  own : wr.ownsRow (w.heap.size + 1) 61 1 (.slice vo (i + 1) vc) (i + 1) ((List.range i).map (fun j => .slice (some ⟨gl j, 0, none⟩) (L.k j + 8) (L.k j + 8)) ++ [.slice (some ⟨h, 0, none⟩) (L.k i + 8) (L.k i + 8)])
  rows : ∀ j, j < i → wr.rowIs (gl j) 3 (L.k j + 8) (fun q => .int .i64 (markZ (L.k j) (L.z j) q))
  row : wr.rowIs h 3 (L.k i + 8) (fun q => .int .i64 (markZ (L.k i) (L.z i) q))
  inj : ∀ j j', j < i → j' < i → gl j = gl j' → j = j'
  inj' : ∀ j, j < i → gl j ≠ h
  old : w.heap.size < g ∧ w.heap.size < gn ∧ w.heap.size < ge ∧ (∀ j, j < i → w.heap.size < gl j) ∧ w.heap.size < h

theorem listed_of {L : Lay} {w : World} {g gn ge i : Nat} {gl : Nat → Nat} {h : Nat} {vo : Option Addr} {vc : Nat} {wr w2 : World} {gv cap : Nat} (hl : Lending L w g gn ge i gl vo vc wr)
    (hr : wr.rowIs h 3 (L.k i + 8) (fun q => .int .i64 (markZ (L.k i) (L.z i) q))) (hne : ∀ j, j < i → gl j ≠ h) (hh : w.heap.size < h)
    (hown : w2.ownsRow (w.heap.size + 1) 61 1 (.slice (some ⟨gv, 0, none⟩) (i + 1) cap) (i + 1) ((List.range i).map (fun j => .slice (some ⟨gl j, 0, none⟩) (L.k j + 8) (L.k j + 8)) ++ [.slice (some ⟨h, 0, none⟩) (L.k i + 8) (L.k i + 8)]))
    (hg : wr.grownBy w2 (Value.slice vo i vc).ownBlock) :
    Listed L w g gn ge i gl h (some ⟨gv, 0, none⟩) cap (w2.setCell ⟨g, 4, none⟩ (.slice (some ⟨gv, 0, none⟩) (i + 1) cap)) := by
  have hx := grown_x hl hg
  have hO := OnlyRow.setCell w2 g 4 (.slice (some ⟨gv, 0, none⟩) (i + 1) cap)
  have hbel : Below w.heap.size w w2 := hl.below.grown hg hl.below.size (fun k hk => by
    obtain ⟨_, ho⟩ := hl.own
    rcases ho with ⟨hv, _⟩ | ⟨b, _, _, hv, hb, _⟩
    · rw [hv] at hk; simp [Value.ownBlock] at hk
    · rw [hv] at hk; simp [Value.ownBlock] at hk; omega)
  obtain ⟨f1, n1, n2⟩ := hl.nodes
  obtain ⟨f2, e1, e2⟩ := hl.entries
  have n1' := row_grown hg n1 (own_ne hl.own n1 (by decide))
  have e1' := row_grown hg e1 (own_ne hl.own e1 (by decide))
  have r' := row_grown hg hr (own_ne hl.own hr (by decide))
  have box' := row_grown hg hl.box (own_ne hl.own hl.box (by decide))
  refine ⟨hO.below hbel (by have := hl.old.1; omega), hO.row box' (by have := hl.old.1; omega), (hx.set 4 _).congr ?_, ⟨f1, hO.row n1' (row_ne n1' hx (by decide)), n2⟩, ⟨f2, hO.row e1' (row_ne e1' hx (by decide)), e2⟩,
    own_only hO hown ?_, fun j hj => ?_, hO.row r' (row_ne r' hx (by decide)), hl.inj, hne, hl.old.1, hl.old.2.1, hl.old.2.2.1, hl.old.2.2.2, hh⟩
  · intro j _
    by_cases e : j = 4
    · subst e; simp [xF]
    · rw [if_neg e]; simp [xF, e]
  · exact (own_ne hown hx (by decide)).symm
  · have := row_grown hg (hl.rows j hj) (own_ne hl.own (hl.rows j hj) (by decide))
    exact hO.row this (row_ne this hx (by decide))

/-- the entry is set: one more is done -/
theorem listed_done {L : Lay} {w : World} {g gn ge i : Nat} {gl : Nat → Nat} {h : Nat} {vo : Option Addr} {vc : Nat} {wr w' : World} (hl : Listed L w g gn ge i gl h vo vc wr) (hw : w' = (wr.setCell ⟨ge, i * 2, none⟩ (.string (L.tx i))).setCell ⟨ge, i * 2 + 1, none⟩ (.slice (some ⟨h, 0, none⟩) (L.k i) (L.k i + 8))) :
    Lending L w g gn ge (i + 1) (fun j => if j = i then h else gl j) vo vc w' := by
  obtain ⟨f2, e1, e2⟩ := hl.entries
  have hO : OnlyRow ge wr w' := by rw [hw]; exact (OnlyRow.setCell _ _ _ _).trans (OnlyRow.setCell _ _ _ _)
  obtain ⟨f1, n1, n2⟩ := hl.nodes
  refine ⟨hO.below hl.below (by have := hl.old.2.2.1; omega), hO.row hl.box (by have := hl.old.2.2.1; omega), hO.row hl.x (row_ne hl.x e1 (by decide)), ⟨f1, hO.row n1 (row_ne n1 e1 (by decide)), n2⟩, ⟨_, by rw [hw]; exact (e1.set _ _).set _ _, ?_⟩, ?_, fun j hj => ?_, ?_, hl.old.1, hl.old.2.1, hl.old.2.2.1, fun j hj => ?_⟩
  · intro j hj
    by_cases e : j = i
    · subst e
      simp
    · have h1 : ¬ j * 2 = i * 2 + 1 := by omega
      have h2 : ¬ j * 2 = i * 2 := by omega
      have h3 : ¬ j * 2 + 1 = i * 2 + 1 := by omega
      have h4 : ¬ j * 2 + 1 = i * 2 := by omega
      simp only [h1, h2, h3, h4, e, if_false]
      exact e2 j (by omega)
  · have := own_only hO hl.own (own_ne hl.own e1 (by decide)).symm
    have hlist : (List.range (i + 1)).map (fun j => Value.slice (some ⟨if j = i then h else gl j, 0, none⟩) (L.k j + 8) (L.k j + 8)) = (List.range i).map (fun j => Value.slice (some ⟨gl j, 0, none⟩) (L.k j + 8) (L.k j + 8)) ++ [Value.slice (some ⟨h, 0, none⟩) (L.k i + 8) (L.k i + 8)] := by
      rw [List.range_succ, List.map_append]
      congr 1
      · refine List.map_congr_left fun j hj => ?_
        have : ¬ j = i := by have := List.mem_range.1 hj; omega
        simp [this]
      · simp
    rw [hlist]
    exact this
  · by_cases e : j = i
    · subst e
      simp only [if_true]
      exact hO.row hl.row (row_ne hl.row e1 (by decide))
    · simp only [e, if_false]
      exact hO.row (hl.rows j (by omega)) (row_ne (hl.rows j (by omega)) e1 (by decide))
  · intro j j' hj hj' hgl
    by_cases e : j = i
    · by_cases e' : j' = i
      · omega
      · simp only [e, e', if_true, if_false] at hgl
        exact absurd hgl.symm (hl.inj' j' (by omega))
    · by_cases e' : j' = i
      · simp only [e, e', if_true, if_false] at hgl
        exact absurd hgl (hl.inj' j (by omega))
      · simp only [e, e', if_false] at hgl
        exact hl.inj j j' (by omega) (by omega) hgl
  · by_cases e : j = i
    · simp only [e, if_true]; exact hl.old.2.2.2.2
    · simp only [e, if_false]; exact hl.old.2.2.2.1 j (by omega)


def beyondS : ByteArray := { data := #[98, 101, 121, 111, 110, 100] }
/-- all entries done; q marks behind the nodes and behind the entries -/
structure Marked (L : Lay) (w : World) (g gn ge : Nat) (gl : Nat → Nat) (vo : Option Addr) (vc q : Nat) (wr : World) : Prop where
  lend : Lending L w g gn ge L.m gl vo vc wr
  nodes : ∃ f, wr.rowIs gn 65 ((L.n + 8) * 3) f ∧ (∀ j, j < L.n * 3 → f j = nodeC L j) ∧ ∀ a, a < q → f ((L.n + a) * 3) = .int .i64 (-77)
  entries : ∃ f, wr.rowIs ge 63 ((L.m + 8) * 2) f ∧ (∀ j, j < L.m → f (j * 2) = .string (L.tx j) ∧ f (j * 2 + 1) = .slice (some ⟨gl j, 0, none⟩) (L.k j) (L.k j + 8)) ∧ ∀ a, a < q → f ((L.m + a) * 2) = .string beyondS
theorem Lending.marked {L : Lay} {w : World} {g gn ge : Nat} {gl : Nat → Nat} {vo : Option Addr} {vc : Nat} {wr : World} (h : Lending L w g gn ge L.m gl vo vc wr) : Marked L w g gn ge gl vo vc 0 wr :=
  ⟨h, let ⟨f, a, b⟩ := h.nodes; ⟨f, a, b, fun _ h => by omega⟩, let ⟨f, a, b⟩ := h.entries; ⟨f, a, b, fun _ h => by omega⟩⟩

theorem marked_step {L : Lay} {w : World} {g gn ge : Nat} {gl : Nat → Nat} {vo : Option Addr} {vc q : Nat} {wr w' : World} (h : Marked L w g gn ge gl vo vc q wr)
    (hw : w' = ((((wr.setCell ⟨gn, (L.n + q) * 3, none⟩ (.int .i64 (-77))).setCell ⟨gn, (L.n + q) * 3 + 1, none⟩ (.int .i64 0)).setCell ⟨gn, (L.n + q) * 3 + 2, none⟩ (.int .i64 0)).setCell ⟨ge, (L.m + q) * 2, none⟩ (.string beyondS)).setCell ⟨ge, (L.m + q) * 2 + 1, none⟩ (.slice none 0 0)) :
    Marked L w g gn ge gl vo vc (q + 1) w' := by
  obtain ⟨f1, a1, a2, a3⟩ := h.nodes
  obtain ⟨f2, e1, e2, e3⟩ := h.entries
  have hl := h.lend
  have ng : gn ≠ ge := row_ne a1 e1 (by decide)
  have hO1 : OnlyRow gn wr (((wr.setCell ⟨gn, (L.n + q) * 3, none⟩ (.int .i64 (-77))).setCell ⟨gn, (L.n + q) * 3 + 1, none⟩ (.int .i64 0)).setCell ⟨gn, (L.n + q) * 3 + 2, none⟩ (.int .i64 0)) :=
    ((OnlyRow.setCell _ _ _ _).trans (OnlyRow.setCell _ _ _ _)).trans (OnlyRow.setCell _ _ _ _)
  have a1' := ((a1.set ((L.n + q) * 3) (.int .i64 (-77))).set ((L.n + q) * 3 + 1) (.int .i64 0)).set ((L.n + q) * 3 + 2) (.int .i64 0)
  have e1' := hO1.row e1 (fun h => ng h.symm)
  generalize (((wr.setCell ⟨gn, (L.n + q) * 3, none⟩ (.int .i64 (-77))).setCell ⟨gn, (L.n + q) * 3 + 1, none⟩ (.int .i64 0)).setCell ⟨gn, (L.n + q) * 3 + 2, none⟩ (.int .i64 0)) = w1 at *
  have hO2 : OnlyRow ge w1 w' := by rw [hw]; exact (OnlyRow.setCell _ _ _ _).trans (OnlyRow.setCell _ _ _ _)
  have a2' := hO2.row a1' ng
  have e2' := (e1'.set ((L.m + q) * 2) (.string beyondS)).set ((L.m + q) * 2 + 1) (.slice none 0 0)
  rw [← hw] at e2'
  have both : ∀ {b : Nat} {t : TypeId} {n : Nat} {f : Nat → Value}, wr.rowIs b t n f → b ≠ gn → b ≠ ge → w'.rowIs b t n f := fun hr h1 h2 => hO2.row (hO1.row hr h1) h2
  have N : ∃ f, w'.rowIs gn 65 ((L.n + 8) * 3) f ∧ (∀ j, j < L.n * 3 → f j = nodeC L j) ∧ ∀ a, a < q + 1 → f ((L.n + a) * 3) = .int .i64 (-77) := by
    refine ⟨_, a2', fun j hj => ?_, fun a ha => ?_⟩
    · rw [if_neg (by omega), if_neg (by omega), if_neg (by omega)]; exact a2 j hj
    · by_cases e : a = q
      · subst e
        rw [if_neg (by omega), if_neg (by omega), if_pos rfl]
      · rw [if_neg (by omega), if_neg (by omega), if_neg (by omega)]; exact a3 a (by omega)
  have E : ∃ f, w'.rowIs ge 63 ((L.m + 8) * 2) f ∧ (∀ j, j < L.m → f (j * 2) = .string (L.tx j) ∧ f (j * 2 + 1) = .slice (some ⟨gl j, 0, none⟩) (L.k j) (L.k j + 8)) ∧ ∀ a, a < q + 1 → f ((L.m + a) * 2) = .string beyondS := by
    refine ⟨_, e2', fun j hj => ?_, fun a ha => ?_⟩
    · rw [if_neg (by omega), if_neg (by omega), if_neg (by omega), if_neg (by omega)]; exact e2 j hj
    · by_cases e : a = q
      · subst e
        rw [if_neg (by omega), if_pos rfl]
      · rw [if_neg (by omega), if_neg (by omega)]; exact e3 a (by omega)
  refine ⟨⟨hO2.below (hO1.below hl.below (by have := hl.old.2.1; omega)) (by have := hl.old.2.2.1; omega), both hl.box (by have := hl.old.2.1; omega) (by have := hl.old.2.2.1; omega), both hl.x (row_ne hl.x a1 (by decide)) (row_ne hl.x e1 (by decide)),
    let ⟨f, a, b, _⟩ := N; ⟨f, a, b⟩, let ⟨f, a, b, _⟩ := E; ⟨f, a, b⟩, own_only hO2 (own_only hO1 hl.own (own_ne hl.own a1 (by decide)).symm) (own_ne (own_only hO1 hl.own (own_ne hl.own a1 (by decide)).symm) e1' (by decide)).symm,
    fun j hj => both (hl.rows j hj) (row_ne (hl.rows j hj) a1 (by decide)) (row_ne (hl.rows j hj) e1 (by decide)), hl.inj, hl.old⟩, N, E⟩

/-- WHAT 'lent' HANDS OVER -/
structure LentIn (L : Lay) (w : World) (g gn ge : Nat) (gl : Nat → Nat) (vo : Option Addr) (vc : Nat) (wr : World) : Prop where
  below : Below w.heap.size w wr
  x : ∃ f, wr.rowIs g 39 5 f ∧ f 0 = .slice (some ⟨gn, 0, none⟩) L.n (L.n + 8) ∧ f 1 = .slice (some ⟨ge, 0, none⟩) L.m (L.m + 8) ∧ f 2 = .slice (some ⟨gn, 0, none⟩) (L.n + 8) (L.n + 8) ∧ f 3 = .slice (some ⟨ge, 0, none⟩) (L.m + 8) (L.m + 8) ∧ f 4 = .slice vo L.m vc
  nodes : ∃ f, wr.rowIs gn 65 ((L.n + 8) * 3) f ∧ (∀ j, j < L.n * 3 → f j = nodeC L j) ∧ ∀ a, a < 8 → f ((L.n + a) * 3) = .int .i64 (-77)
  entries : ∃ f, wr.rowIs ge 63 ((L.m + 8) * 2) f ∧ (∀ j, j < L.m → f (j * 2) = .string (L.tx j) ∧ f (j * 2 + 1) = .slice (some ⟨gl j, 0, none⟩) (L.k j) (L.k j + 8)) ∧ ∀ a, a < 8 → f ((L.m + a) * 2) = .string beyondS
  own : wr.ownsRow (w.heap.size + 1) 61 1 (.slice vo L.m vc) L.m ((List.range L.m).map fun j => .slice (some ⟨gl j, 0, none⟩) (L.k j + 8) (L.k j + 8))
  rows : ∀ j, j < L.m → wr.rowIs (gl j) 3 (L.k j + 8) (fun q => .int .i64 (markZ (L.k j) (L.z j) q))
  inj : ∀ j j', j < L.m → j' < L.m → gl j = gl j' → j = j'
  old : w.heap.size < g ∧ w.heap.size < gn ∧ w.heap.size < ge ∧ ∀ j, j < L.m → w.heap.size < gl j
theorem marked_lent {L : Lay} {w : World} {g gn ge : Nat} {gl : Nat → Nat} {vo : Option Addr} {vc : Nat} {wr w' : World} (h : Marked L w g gn ge gl vo vc 8 wr)
    (hw : w' = (wr.setCell ⟨g, 0, none⟩ (.slice (some ⟨gn, 0, none⟩) L.n (L.n + 8))).setCell ⟨g, 1, none⟩ (.slice (some ⟨ge, 0, none⟩) L.m (L.m + 8))) : LentIn L w g gn ge gl vo vc w' := by
  have hl := h.lend
  have hO : OnlyRow g wr w' := by rw [hw]; exact (OnlyRow.setCell _ _ _ _).trans (OnlyRow.setCell _ _ _ _)
  have hx' := (hl.x.set 0 (.slice (some ⟨gn, 0, none⟩) L.n (L.n + 8))).set 1 (.slice (some ⟨ge, 0, none⟩) L.m (L.m + 8))
  rw [← hw] at hx'
  obtain ⟨f1, a1, a2⟩ := h.nodes
  obtain ⟨f2, e1, e2⟩ := h.entries
  exact ⟨hO.below hl.below (by have := hl.old.1; omega), ⟨_, hx', by simp, by simp, by simp [xF], by simp [xF], by simp [xF]⟩, ⟨f1, hO.row a1 (row_ne a1 hl.x (by decide)), a2⟩, ⟨f2, hO.row e1 (row_ne e1 hl.x (by decide)), e2⟩,
    own_only hO hl.own (own_ne hl.own hl.x (by decide)).symm, fun j hj => hO.row (hl.rows j hj) (row_ne (hl.rows j hj) hl.x (by decide)), hl.inj, hl.old⟩

end Go.Proofs.YtpclldccjpncdaaGreat
