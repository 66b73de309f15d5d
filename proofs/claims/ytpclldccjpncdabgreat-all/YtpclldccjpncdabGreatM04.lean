import Derived.Test.YtpclldccjpncdabGreatM03
import Derived.Deep.AppendLies
import Derived.Deep.Cut
import Derived.Deep.CutRange
import Derived.Deep.DeepCutAuto
import Derived.Deep.RegionLaw
namespace Go.Proofs.YtpclldccjpncdabGreat
open Go.RowKit

theorem row_new (w : World) (c : Array Value) (t : TypeId) (N : Nat) (hN : c.size = N) : (w.alloc (.cells c t)).rowIs w.heap.size t N (fun i => c.getD i undef) := by
  subst hN
  exact World.rowIs_alloc w c t _ fun i hi => by simp [hi]
theorem row_grown {w w' : World} {r : Option Nat} (hg : w.grownBy w' r) {b : Nat} {t : TypeId} {n : Nat} {f : Nat → Value} (h : w.rowIs b t n f) (hb : some b ≠ r) : w'.rowIs b t n f := h.of_block (hg.block b h.lt hb)
theorem own_ne {w : World} {base : Nat} {e : TypeId} {size : Nat} {v : Value} {k : Nat} {xs : List Value} (ho : w.ownsRow base e size v k xs) {b : Nat} {t : TypeId} {n : Nat} {f : Nat → Value} (h : w.rowIs b t n f) (ht : t ≠ e) : some b ≠ v.ownBlock := by
  intro hb
  obtain ⟨_, h2⟩ := ho
  rcases h2 with ⟨rfl, _⟩ | ⟨g, cap, cur, rfl, _, hh, _⟩
  · simp [Value.ownBlock] at hb
  · simp only [Value.ownBlock, Option.some.injEq] at hb
    subst hb
    obtain ⟨c, hc, _⟩ := h
    rw [hc] at hh
    cases hh
    exact ht rfl
theorem own_of_block {w w' : World} {base : Nat} {e : TypeId} {size : Nat} {v : Value} {k : Nat} {xs : List Value} (ho : w.ownsRow base e size v k xs) (h : ∀ b, v.ownBlock = some b → w'.heap[b]? = w.heap[b]?) : w'.ownsRow base e size v k xs := by
  obtain ⟨h1, h2⟩ := ho
  refine ⟨h1, ?_⟩
  rcases h2 with h2 | ⟨g, cap, cur, hv, hg, hh, r⟩
  · exact .inl h2
  · exact .inr ⟨g, cap, cur, hv, hg, by rw [h g (by rw [hv]; rfl)]; exact hh, r⟩
theorem own_only {g : Nat} {w w' : World} (hO : OnlyRow g w w') {base : Nat} {e : TypeId} {size : Nat} {v : Value} {k : Nat} {xs : List Value} (ho : w.ownsRow base e size v k xs) (hne : v.ownBlock ≠ some g) : w'.ownsRow base e size v k xs :=
  own_of_block ho fun b hb => hO.block b fun h => hne (by rw [hb, h])

def nodeC (L : Lay) (c : Nat) : Value := if c % 3 = 0 then .int .i64 (L.p (c / 3)) else if c % 3 = 1 then .int .i64 (L.s (c / 3)) else .int .i64 (L.t (c / 3))
theorem nodeC_0 (L : Lay) (i : Nat) : nodeC L (i * 3) = .int .i64 (L.p i) := by
  have h1 : i * 3 % 3 = 0 := by omega
  have h2 : i * 3 / 3 = i := by omega
  simp [nodeC, h2]
theorem nodeC_1 (L : Lay) (i : Nat) : nodeC L (i * 3 + 1) = .int .i64 (L.s i) := by
  have h1 : (i * 3 + 1) % 3 = 1 := by omega
  have h2 : (i * 3 + 1) / 3 = i := by omega
  simp [nodeC, h1, h2]
theorem nodeC_2 (L : Lay) (i : Nat) : nodeC L (i * 3 + 2) = .int .i64 (L.t i) := by
  have h1 : (i * 3 + 2) % 3 = 2 := by omega
  have h2 : (i * 3 + 2) / 3 = i := by omega
  simp [nodeC, h1, h2]
theorem nodeC_one (L : Lay) (c : Nat) : (nodeC L c).oneCell' = true := by
  unfold nodeC
  split
  · rfl
  · split <;> rfl
theorem NodesIn.flat {B : Nat} {w : World} {L : Lay} (h : NodesIn B w L.na L.n L.nb L.no L.p L.s L.t) (c : Nat) (hc : c < L.n * 3) : w.cell? ⟨L.nb, L.no + c, none⟩ = some (nodeC L c) := by
  have hd : c / 3 < L.n := by omega
  have hq : c % 3 = 0 ∨ c % 3 = 1 ∨ c % 3 = 2 := by omega
  rcases hq with hq | hq | hq
  · have := h.p (c / 3) hd
    rw [show L.no + c / 3 * 3 = L.no + c by omega] at this
    rw [this]; simp [nodeC, hq]
  · have := h.s (c / 3) hd
    rw [show L.no + c / 3 * 3 + 1 = L.no + c by omega] at this
    rw [this]; simp [nodeC, hq]
  · have := h.t (c / 3) hd
    rw [show L.no + c / 3 * 3 + 2 = L.no + c by omega] at this
    rw [this]; simp [nodeC, hq]

def markZ (k : Nat) (z : Nat → Int) (j : Nat) : Int := if j < k then z j else -77
def boxF (L : Lay) (j : Nat) : Value := if j = 0 then .slice L.na L.n L.nc else .slice L.ea L.m L.ec
def xF (L : Lay) (gn ge : Nat) (v : Value) (j : Nat) : Value :=
  if j = 2 then .slice (some ⟨gn, 0, none⟩) (L.n + 8) (L.n + 8) else if j = 3 then .slice (some ⟨ge, 0, none⟩) (L.m + 8) (L.m + 8) else if j = 4 then v else .slice none 0 0

/-- What 'lent' has made, its first i entries done. -/
structure Lending (L : Lay) (w : World) (g gn ge i : Nat) (gl : Nat → Nat) (vo : Option Addr) (vc : Nat) (wr : World) : Prop where
  below : Below w.heap.size w wr
  box : wr.rowIs w.heap.size 28 2 (boxF L)
  x : wr.rowIs g 39 5 (xF L gn ge (.slice vo i vc))
  nodes : ∃ f, wr.rowIs gn 65 ((L.n + 8) * 3) f ∧ ∀ j, j < L.n * 3 → f j = nodeC L j
  entries : ∃ f, wr.rowIs ge 63 ((L.m + 8) * 2) f ∧ ∀ j, j < i → f (j * 2) = .string (L.tx j) ∧ f (j * 2 + 1) = .slice (some ⟨gl j, 0, none⟩) (L.k j) (L.k j + 8)
  own : wr.ownsRow (w.heap.size + 1) 61 1 (.slice vo i vc) i ((List.range i).map fun j => .slice (some ⟨gl j, 0, none⟩) (L.k j + 8) (L.k j + 8))
  rows : ∀ j, j < i → wr.rowIs (gl j) 3 (L.k j + 8) (fun q => .int .i64 (markZ (L.k j) (L.z j) q))
  inj : ∀ j j', j < i → j' < i → gl j = gl j' → j = j'
  old : w.heap.size < g ∧ w.heap.size < gn ∧ w.heap.size < ge ∧ ∀ j, j < i → w.heap.size < gl j

theorem Lending.alloc {L : Lay} {w : World} {g gn ge i : Nat} {gl : Nat → Nat} {vo : Option Addr} {vc : Nat} {wr : World} (h : Lending L w g gn ge i gl vo vc wr) (o : Obj) : Lending L w g gn ge i gl vo vc (wr.alloc o) :=
  ⟨h.below.alloc h.below.size o, h.box.alloc o, h.x.alloc o, let ⟨f, a, b⟩ := h.nodes; ⟨f, a.alloc o, b⟩, let ⟨f, a, b⟩ := h.entries; ⟨f, a.alloc o, b⟩, h.own.alloc o, fun j hj => (h.rows j hj).alloc o, h.inj, h.old⟩

/-- a row of numbers is written that is none of its own -/
theorem Lending.only {L : Lay} {w : World} {g gn ge i : Nat} {gl : Nat → Nat} {vo : Option Addr} {vc : Nat} {wr w' : World} (h : Lending L w g gn ge i gl vo vc wr) {b n : Nat} {f : Nat → Value} (hr : wr.rowIs b 3 n f) (hb : w.heap.size < b) (hne : ∀ j, j < i → gl j ≠ b)
    (hO : OnlyRow b wr w') : Lending L w g gn ge i gl vo vc w' := by
  refine ⟨hO.below h.below (by omega), hO.row h.box (by omega), hO.row h.x (row_ne h.x hr (by decide)), ?_, ?_, own_only hO h.own ?_, fun j hj => hO.row (h.rows j hj) (hne j hj), h.inj, h.old⟩
  · obtain ⟨f, a, b⟩ := h.nodes
    exact ⟨f, hO.row a (row_ne a hr (by decide)), b⟩
  · obtain ⟨f, a, b⟩ := h.entries
    exact ⟨f, hO.row a (row_ne a hr (by decide)), b⟩
  · exact (own_ne h.own hr (by decide)).symm

theorem row_at {w : World} {b b' : Nat} {t : TypeId} {n : Nat} {f f' : Nat → Value} (h : w.rowIs b t n f) (e : b = b') (hf : ∀ i, i < n → f i = f' i) : w.rowIs b' t n f' := e ▸ h.congr hf
theorem size_one (w : World) (o : Obj) : (w.alloc o).heap.size = w.heap.size + 1 := by simp

/-- the start: what the two makes and the new object leave, in either order -/
def Begun (L : Lay) (w : World) (g gn ge : Nat) (wc : World) : Prop :=
  Below w.heap.size w wc ∧ wc.rowIs w.heap.size 28 2 (boxF L) ∧ wc.rowIs g 39 5 (xF L gn ge (.slice none 0 0)) ∧
      (∃ f, wc.rowIs gn 65 ((L.n + 8) * 3) f) ∧ (∃ f, wc.rowIs ge 63 ((L.m + 8) * 2) f) ∧ w.heap.size < g ∧ w.heap.size < gn ∧ w.heap.size < ge
theorem begun1 (L : Lay) (w : World) (c1 c2 : Array Value) (h1 : c1.size = (L.n + 8) * 3) (h2 : c2.size = (L.m + 8) * 2) :
    Begun L w (w.heap.size + 1 + 1 + 1) (w.heap.size + 1) (w.heap.size + 1 + 1) ((((w.alloc (.cells #[.slice L.na L.n L.nc, .slice L.ea L.m L.ec] 28)).alloc (.cells c1 65)).alloc (.cells c2 63)).alloc
      (.cells #[.slice none 0 0, .slice none 0 0, .slice (some ⟨w.heap.size + 1, 0, none⟩) (L.n + 8) (L.n + 8), .slice (some ⟨w.heap.size + 1 + 1, 0, none⟩) (L.m + 8) (L.m + 8), .slice none 0 0] 39)).drew := by
  refine ⟨?_, ?_, ?_, ⟨fun i => c1.getD i undef, ?_⟩, ⟨fun i => c2.getD i undef, ?_⟩, by omega, by omega, by omega⟩
  · refine Below.drew ?_
    exact below_then (below_then (below_then (below_one _) (below_one _)) (below_one _)) (below_one _)
  · refine World.rowIs.drew (World.rowIs.alloc (World.rowIs.alloc (World.rowIs.alloc (row_at (row_new w _ _ 2 rfl) rfl ?_) _) _) _)
    intro i hi
    match i, hi with
    | 0, _ => rfl
    | 1, _ => rfl
  · refine World.rowIs.drew (row_at (row_new _ _ _ 5 rfl) (by simp only [size_one]) ?_)
    intro i hi
    match i, hi with
    | 0, _ => rfl
    | 1, _ => rfl
    | 2, _ => rfl
    | 3, _ => rfl
    | 4, _ => rfl
  · exact World.rowIs.drew (World.rowIs.alloc (World.rowIs.alloc (row_at (row_new _ c1 _ _ h1) (by simp only [size_one]) fun _ _ => rfl) _) _)
  · exact World.rowIs.drew (World.rowIs.alloc (row_at (row_new _ c2 _ _ h2) (by simp only [size_one]) fun _ _ => rfl) _)
theorem begun2 (L : Lay) (w : World) (c1 c2 : Array Value) (h1 : c1.size = (L.n + 8) * 3) (h2 : c2.size = (L.m + 8) * 2) :
    Begun L w (w.heap.size + 1 + 1 + 1) (w.heap.size + 1 + 1) (w.heap.size + 1) ((((w.alloc (.cells #[.slice L.na L.n L.nc, .slice L.ea L.m L.ec] 28)).alloc (.cells c2 63)).alloc (.cells c1 65)).alloc
      (.cells #[.slice none 0 0, .slice none 0 0, .slice (some ⟨w.heap.size + 1 + 1, 0, none⟩) (L.n + 8) (L.n + 8), .slice (some ⟨w.heap.size + 1, 0, none⟩) (L.m + 8) (L.m + 8), .slice none 0 0] 39)).drew := by
  refine ⟨?_, ?_, ?_, ⟨fun i => c1.getD i undef, ?_⟩, ⟨fun i => c2.getD i undef, ?_⟩, by omega, by omega, by omega⟩
  · refine Below.drew ?_
    exact below_then (below_then (below_then (below_one _) (below_one _)) (below_one _)) (below_one _)
  · refine World.rowIs.drew (World.rowIs.alloc (World.rowIs.alloc (World.rowIs.alloc (row_at (row_new w _ _ 2 rfl) rfl ?_) _) _) _)
    intro i hi
    match i, hi with
    | 0, _ => rfl
    | 1, _ => rfl
  · refine World.rowIs.drew (row_at (row_new _ _ _ 5 rfl) (by simp only [size_one]) ?_)
    intro i hi
    match i, hi with
    | 0, _ => rfl
    | 1, _ => rfl
    | 2, _ => rfl
    | 3, _ => rfl
    | 4, _ => rfl
  · exact World.rowIs.drew (World.rowIs.alloc (row_at (row_new _ c1 _ _ h1) (by simp only [size_one]) fun _ _ => rfl) _)
  · exact World.rowIs.drew (World.rowIs.alloc (World.rowIs.alloc (row_at (row_new _ c2 _ _ h2) (by simp only [size_one]) fun _ _ => rfl) _) _)

/-- .. and behind the copy of the nodes: no entry is done yet -/
theorem Begun.lending {L : Lay} {w : World} {g gn ge : Nat} {wc w' : World} (h : Begun L w g gn ge wc) (hO : OnlyRow gn wc w') {f : Nat → Value} (hr : w'.rowIs gn 65 ((L.n + 8) * 3) (fun j => if j < L.n * 3 then nodeC L j else f j)) :
    Lending L w g gn ge 0 (fun _ => 0) none 0 w' := by
  obtain ⟨hb, hbox, hx, ⟨f1, hn⟩, ⟨f2, he⟩, h1, h2, h3⟩ := h
  refine ⟨hO.below hb (by omega), hO.row hbox (by omega), hO.row hx (row_ne hx hn (by decide)), ⟨_, hr, fun j hj => if_pos hj⟩, ⟨_, hO.row he (row_ne he hn (by decide)), fun j hj => by omega⟩, World.ownsRow_nil _ _ _ _, fun j hj => by omega, fun j j' hj => by omega, h1, h2, h3, fun j hj => by omega⟩


/-- the marks behind a list, the first j cells done -/
def markF (k : Nat) (z : Nat → Int) (j q : Nat) : Value := .int .i64 (if q < j then markZ k z q else 0)
theorem mark_start {w : World} {h k : Nat} {z : Nat → Int} (hr : w.rowIs h 3 (k + 8) (fun j => if j < k * 1 then .int .i64 (z j) else .int .i64 0)) : w.rowIs h 3 (k + 8) (markF k z k) :=
  hr.congr fun q _ => by
    by_cases e : q < k
    · rw [if_pos (by omega)]; simp [markF, markZ, e]
    · rw [if_neg (by omega)]; simp [markF, e]
theorem mark_step {w : World} {h k j : Nat} {z : Nat → Int} (hj : k ≤ j) (hr : w.rowIs h 3 (k + 8) (markF k z j)) : (w.setCell ⟨h, j, none⟩ (.int .i64 (-77))).rowIs h 3 (k + 8) (markF k z (j + 1)) :=
  (hr.set j (.int .i64 (-77))).congr fun q _ => by
    by_cases e : q = j
    · subst e
      have h1 : ¬ q < k := by omega
      simp [markF, markZ, h1]
    · rw [if_neg e]
      have h1 : q < j + 1 ↔ q < j := by omega
      simp [markF, h1]
theorem mark_end {w : World} {h k : Nat} {z : Nat → Int} (hr : w.rowIs h 3 (k + 8) (markF k z (k + 8))) : w.rowIs h 3 (k + 8) (fun q => .int .i64 (markZ k z q)) :=
  hr.congr fun q hq => by simp [markF, hq]


theorem x_cell4 {L : Lay} {w : World} {g gn ge i : Nat} {gl : Nat → Nat} {vo : Option Addr} {vc : Nat} {wr : World} (h : Lending L w g gn ge i gl vo vc wr) : wr.cell? ⟨g, 4, none⟩ = some (.slice vo i vc) := by
  have := h.x.cell (i := 4) (by omega)
  simpa [xF] using this
theorem grown_x {L : Lay} {w : World} {g gn ge i : Nat} {gl : Nat → Nat} {vo : Option Addr} {vc : Nat} {wr w' : World} (h : Lending L w g gn ge i gl vo vc wr) (hg : wr.grownBy w' (Value.slice vo i vc).ownBlock) : w'.rowIs g 39 5 (xF L gn ge (.slice vo i vc)) :=
  row_grown hg h.x (own_ne h.own h.x (by decide))
theorem row_cell4 {L : Lay} {g gn ge : Nat} {v : Value} {w : World} (h : w.rowIs g 39 5 (xF L gn ge v)) : w.cell? ⟨g, 4, none⟩ = some v ∧ w.frozen? ⟨g, 4, none⟩ = false := by
  have := h.cell (i := 4) (by omega)
  exact ⟨by simpa [xF] using this, h.frozen 4⟩
theorem row_cell3 {L : Lay} {g gn ge : Nat} {v : Value} {w : World} (h : w.rowIs g 39 5 (xF L gn ge v)) : w.cell? ⟨g, 3, none⟩ = some (.slice (some ⟨ge, 0, none⟩) (L.m + 8) (L.m + 8)) := by
  have := h.cell (i := 3) (by omega)
  simpa [xF] using this
theorem row_cell2 {L : Lay} {g gn ge : Nat} {v : Value} {w : World} (h : w.rowIs g 39 5 (xF L gn ge v)) : w.cell? ⟨g, 2, none⟩ = some (.slice (some ⟨gn, 0, none⟩) (L.n + 8) (L.n + 8)) := by
  have := h.cell (i := 2) (by omega)
  simpa [xF] using this

/-- the list l, in block h, has been appended and the field set: all but the entry -/
structure Listed (L : Lay) (w : World) (g gn ge i : Nat) (gl : Nat → Nat) (h : Nat) (vo : Option Addr) (vc : Nat) (wr : World) : Prop where
  below : Below w.heap.size w wr
  box : wr.rowIs w.heap.size 28 2 (boxF L)
  x : wr.rowIs g 39 5 (xF L gn ge (.slice vo (i + 1) vc))
  nodes : ∃ f, wr.rowIs gn 65 ((L.n + 8) * 3) f ∧ ∀ j, j < L.n * 3 → f j = nodeC L j
  entries : ∃ f, wr.rowIs ge 63 ((L.m + 8) * 2) f ∧ ∀ j, j < i → f (j * 2) = .string (L.tx j) ∧ f (j * 2 + 1) = .slice (some ⟨gl j, 0, none⟩) (L.k j) (L.k j + 8)
  own : wr.ownsRow (w.heap.size + 1) 61 1 (.slice vo (i + 1) vc) (i + 1) ((List.range i).map (fun j => .slice (some ⟨gl j, 0, none⟩) (L.k j + 8) (L.k j + 8)) ++ [.slice (some ⟨h, 0, none⟩) (L.k i + 8) (L.k i + 8)])
  rows : ∀ j, j < i → wr.rowIs (gl j) 3 (L.k j + 8) (fun q => .int .i64 (markZ (L.k j) (L.z j) q))
  row : wr.rowIs h 3 (L.k i + 8) (fun q => .int .i64 (markZ (L.k i) (L.z i) q))
  inj : ∀ j j', j < i → j' < i → gl j = gl j' → j = j'
  inj' : ∀ j, j < i → gl j ≠ h
  old : w.heap.size < g ∧ w.heap.size < gn ∧ w.heap.size < ge ∧ (∀ j, j < i → w.heap.size < gl j) ∧ w.heap.size < h

theorem listed_of {L : Lay} {w : World} {g gn ge i : Nat} {gl : Nat → Nat} {h : Nat} {vo : Option Addr} {vc : Nat} {wr w2 : World} {gv cap : Nat} (hl : Lending L w g gn ge i gl vo vc wr)
    (hr : wr.rowIs h 3 (L.k i + 8) (fun q => .int .i64 (markZ (L.k i) (L.z i) q))) (hne : ∀ j, j < i → gl j ≠ h) (hh : w.heap.size < h)
    (hown : w2.ownsRow (w.heap.size + 1) 61 1 (.slice (some ⟨gv, 0, none⟩) (i + 1) cap) (i + 1) ((List.range i).map (fun j => .slice (some ⟨gl j, 0, none⟩) (L.k j + 8) (L.k j + 8)) ++ [.slice (some ⟨h, 0, none⟩) (L.k i + 8) (L.k i + 8)]))
    (hg : wr.grownBy w2 (Value.slice vo i vc).ownBlock) :
    Listed L w g gn ge i gl h (some ⟨gv, 0, none⟩) cap (w2.setCell ⟨g, 4, none⟩ (.slice (some ⟨gv, 0, none⟩) (i + 1) cap)) := by
  have hx := grown_x hl hg
  have hO := OnlyRow.setCell w2 g 4 (.slice (some ⟨gv, 0, none⟩) (i + 1) cap)
  have hbel : Below w.heap.size w w2 := hl.below.grown hg hl.below.size (fun k hk => by
    obtain ⟨_, ho⟩ := hl.own
    rcases ho with ⟨hv, _⟩ | ⟨b, _, _, hv, hb, _⟩
    · rw [hv] at hk; simp [Value.ownBlock] at hk
    · rw [hv] at hk; simp [Value.ownBlock] at hk; omega)
  obtain ⟨f1, n1, n2⟩ := hl.nodes
  obtain ⟨f2, e1, e2⟩ := hl.entries
  have n1' := row_grown hg n1 (own_ne hl.own n1 (by decide))
  have e1' := row_grown hg e1 (own_ne hl.own e1 (by decide))
  have r' := row_grown hg hr (own_ne hl.own hr (by decide))
  have box' := row_grown hg hl.box (own_ne hl.own hl.box (by decide))
  refine ⟨hO.below hbel (by have := hl.old.1; omega), hO.row box' (by have := hl.old.1; omega), (hx.set 4 _).congr ?_, ⟨f1, hO.row n1' (row_ne n1' hx (by decide)), n2⟩, ⟨f2, hO.row e1' (row_ne e1' hx (by decide)), e2⟩,
    own_only hO hown ?_, fun j hj => ?_, hO.row r' (row_ne r' hx (by decide)), hl.inj, hne, hl.old.1, hl.old.2.1, hl.old.2.2.1, hl.old.2.2.2, hh⟩
  · intro j _
    by_cases e : j = 4
    · subst e; simp [xF]
    · rw [if_neg e]; simp [xF, e]
  · exact (own_ne hown hx (by decide)).symm
  · have := row_grown hg (hl.rows j hj) (own_ne hl.own (hl.rows j hj) (by decide))
    exact hO.row this (row_ne this hx (by decide))

/-- the entry is set: one more is done -/
theorem listed_done {L : Lay} {w : World} {g gn ge i : Nat} {gl : Nat → Nat} {h : Nat} {vo : Option Addr} {vc : Nat} {wr w' : World} (hl : Listed L w g gn ge i gl h vo vc wr) (hw : w' = (wr.setCell ⟨ge, i * 2, none⟩ (.string (L.tx i))).setCell ⟨ge, i * 2 + 1, none⟩ (.slice (some ⟨h, 0, none⟩) (L.k i) (L.k i + 8))) :
    Lending L w g gn ge (i + 1) (fun j => if j = i then h else gl j) vo vc w' := by
  obtain ⟨f2, e1, e2⟩ := hl.entries
  have hO : OnlyRow ge wr w' := by rw [hw]; exact (OnlyRow.setCell _ _ _ _).trans (OnlyRow.setCell _ _ _ _)
  obtain ⟨f1, n1, n2⟩ := hl.nodes
  refine ⟨hO.below hl.below (by have := hl.old.2.2.1; omega), hO.row hl.box (by have := hl.old.2.2.1; omega), hO.row hl.x (row_ne hl.x e1 (by decide)), ⟨f1, hO.row n1 (row_ne n1 e1 (by decide)), n2⟩, ⟨_, by rw [hw]; exact (e1.set _ _).set _ _, ?_⟩, ?_, fun j hj => ?_, ?_, hl.old.1, hl.old.2.1, hl.old.2.2.1, fun j hj => ?_⟩
  · intro j hj
    by_cases e : j = i
    · subst e
      simp
    · have h1 : ¬ j * 2 = i * 2 + 1 := by omega
      have h2 : ¬ j * 2 = i * 2 := by omega
      have h3 : ¬ j * 2 + 1 = i * 2 + 1 := by omega
      have h4 : ¬ j * 2 + 1 = i * 2 := by omega
      simp only [h1, h2, h3, h4, e, if_false]
      exact e2 j (by omega)
  · have := own_only hO hl.own (own_ne hl.own e1 (by decide)).symm
    have hlist : (List.range (i + 1)).map (fun j => Value.slice (some ⟨if j = i then h else gl j, 0, none⟩) (L.k j + 8) (L.k j + 8)) = (List.range i).map (fun j => Value.slice (some ⟨gl j, 0, none⟩) (L.k j + 8) (L.k j + 8)) ++ [Value.slice (some ⟨h, 0, none⟩) (L.k i + 8) (L.k i + 8)] := by
      rw [List.range_succ, List.map_append]
      congr 1
      · refine List.map_congr_left fun j hj => ?_
        have : ¬ j = i := by have := List.mem_range.1 hj; omega
        simp [this]
      · simp
    rw [hlist]
    exact this
  · by_cases e : j = i
    · subst e
      simp only [if_true]
      exact hO.row hl.row (row_ne hl.row e1 (by decide))
    · simp only [e, if_false]
      exact hO.row (hl.rows j (by omega)) (row_ne (hl.rows j (by omega)) e1 (by decide))
  · intro j j' hj hj' hgl
    by_cases e : j = i
    · by_cases e' : j' = i
      · omega
      · simp only [e, e', if_true, if_false] at hgl
        exact absurd hgl.symm (hl.inj' j' (by omega))
    · by_cases e' : j' = i
      · simp only [e, e', if_true, if_false] at hgl
        exact absurd hgl (hl.inj' j (by omega))
      · simp only [e, e', if_false] at hgl
        exact hl.inj j j' (by omega) (by omega) hgl
  · by_cases e : j = i
    · simp only [e, if_true]; exact hl.old.2.2.2.2
    · simp only [e, if_false]; exact hl.old.2.2.2.1 j (by omega)


def beyondS : ByteArray := { data := #[98, 101, 121, 111, 110, 100] }
/-- all entries done; q marks behind the nodes and behind the entries -/
structure Marked (L : Lay) (w : World) (g gn ge : Nat) (gl : Nat → Nat) (vo : Option Addr) (vc q : Nat) (wr : World) : Prop where
  lend : Lending L w g gn ge L.m gl vo vc wr
  nodes : ∃ f, wr.rowIs gn 65 ((L.n + 8) * 3) f ∧ (∀ j, j < L.n * 3 → f j = nodeC L j) ∧ ∀ a, a < q → f ((L.n + a) * 3) = .int .i64 (-77)
  entries : ∃ f, wr.rowIs ge 63 ((L.m + 8) * 2) f ∧ (∀ j, j < L.m → f (j * 2) = .string (L.tx j) ∧ f (j * 2 + 1) = .slice (some ⟨gl j, 0, none⟩) (L.k j) (L.k j + 8)) ∧ ∀ a, a < q → f ((L.m + a) * 2) = .string beyondS
theorem Lending.marked {L : Lay} {w : World} {g gn ge : Nat} {gl : Nat → Nat} {vo : Option Addr} {vc : Nat} {wr : World} (h : Lending L w g gn ge L.m gl vo vc wr) : Marked L w g gn ge gl vo vc 0 wr :=
  ⟨h, let ⟨f, a, b⟩ := h.nodes; ⟨f, a, b, fun _ h => by omega⟩, let ⟨f, a, b⟩ := h.entries; ⟨f, a, b, fun _ h => by omega⟩⟩

theorem marked_step {L : Lay} {w : World} {g gn ge : Nat} {gl : Nat → Nat} {vo : Option Addr} {vc q : Nat} {wr w' : World} (h : Marked L w g gn ge gl vo vc q wr)
    (hw : w' = ((((wr.setCell ⟨gn, (L.n + q) * 3, none⟩ (.int .i64 (-77))).setCell ⟨gn, (L.n + q) * 3 + 1, none⟩ (.int .i64 0)).setCell ⟨gn, (L.n + q) * 3 + 2, none⟩ (.int .i64 0)).setCell ⟨ge, (L.m + q) * 2, none⟩ (.string beyondS)).setCell ⟨ge, (L.m + q) * 2 + 1, none⟩ (.slice none 0 0)) :
    Marked L w g gn ge gl vo vc (q + 1) w' := by
  obtain ⟨f1, a1, a2, a3⟩ := h.nodes
  obtain ⟨f2, e1, e2, e3⟩ := h.entries
  have hl := h.lend
  have ng : gn ≠ ge := row_ne a1 e1 (by decide)
  have hO1 : OnlyRow gn wr (((wr.setCell ⟨gn, (L.n + q) * 3, none⟩ (.int .i64 (-77))).setCell ⟨gn, (L.n + q) * 3 + 1, none⟩ (.int .i64 0)).setCell ⟨gn, (L.n + q) * 3 + 2, none⟩ (.int .i64 0)) :=
    ((OnlyRow.setCell _ _ _ _).trans (OnlyRow.setCell _ _ _ _)).trans (OnlyRow.setCell _ _ _ _)
  have a1' := ((a1.set ((L.n + q) * 3) (.int .i64 (-77))).set ((L.n + q) * 3 + 1) (.int .i64 0)).set ((L.n + q) * 3 + 2) (.int .i64 0)
  have e1' := hO1.row e1 (fun h => ng h.symm)
  generalize (((wr.setCell ⟨gn, (L.n + q) * 3, none⟩ (.int .i64 (-77))).setCell ⟨gn, (L.n + q) * 3 + 1, none⟩ (.int .i64 0)).setCell ⟨gn, (L.n + q) * 3 + 2, none⟩ (.int .i64 0)) = w1 at *
  have hO2 : OnlyRow ge w1 w' := by rw [hw]; exact (OnlyRow.setCell _ _ _ _).trans (OnlyRow.setCell _ _ _ _)
  have a2' := hO2.row a1' ng
  have e2' := (e1'.set ((L.m + q) * 2) (.string beyondS)).set ((L.m + q) * 2 + 1) (.slice none 0 0)
  rw [← hw] at e2'
  have both : ∀ {b : Nat} {t : TypeId} {n : Nat} {f : Nat → Value}, wr.rowIs b t n f → b ≠ gn → b ≠ ge → w'.rowIs b t n f := fun hr h1 h2 => hO2.row (hO1.row hr h1) h2
  have N : ∃ f, w'.rowIs gn 65 ((L.n + 8) * 3) f ∧ (∀ j, j < L.n * 3 → f j = nodeC L j) ∧ ∀ a, a < q + 1 → f ((L.n + a) * 3) = .int .i64 (-77) := by
    refine ⟨_, a2', fun j hj => ?_, fun a ha => ?_⟩
    · rw [if_neg (by omega), if_neg (by omega), if_neg (by omega)]; exact a2 j hj
    · by_cases e : a = q
      · subst e
        rw [if_neg (by omega), if_neg (by omega), if_pos rfl]
      · rw [if_neg (by omega), if_neg (by omega), if_neg (by omega)]; exact a3 a (by omega)
  have E : ∃ f, w'.rowIs ge 63 ((L.m + 8) * 2) f ∧ (∀ j, j < L.m → f (j * 2) = .string (L.tx j) ∧ f (j * 2 + 1) = .slice (some ⟨gl j, 0, none⟩) (L.k j) (L.k j + 8)) ∧ ∀ a, a < q + 1 → f ((L.m + a) * 2) = .string beyondS := by
    refine ⟨_, e2', fun j hj => ?_, fun a ha => ?_⟩
    · rw [if_neg (by omega), if_neg (by omega), if_neg (by omega), if_neg (by omega)]; exact e2 j hj
    · by_cases e : a = q
      · subst e
        rw [if_neg (by omega), if_pos rfl]
      · rw [if_neg (by omega), if_neg (by omega)]; exact e3 a (by omega)
  refine ⟨⟨hO2.below (hO1.below hl.below (by have := hl.old.2.1; omega)) (by have := hl.old.2.2.1; omega), both hl.box (by have := hl.old.2.1; omega) (by have := hl.old.2.2.1; omega), both hl.x (row_ne hl.x a1 (by decide)) (row_ne hl.x e1 (by decide)),
    let ⟨f, a, b, _⟩ := N; ⟨f, a, b⟩, let ⟨f, a, b, _⟩ := E; ⟨f, a, b⟩, own_only hO2 (own_only hO1 hl.own (own_ne hl.own a1 (by decide)).symm) (own_ne (own_only hO1 hl.own (own_ne hl.own a1 (by decide)).symm) e1' (by decide)).symm,
    fun j hj => both (hl.rows j hj) (row_ne (hl.rows j hj) a1 (by decide)) (row_ne (hl.rows j hj) e1 (by decide)), hl.inj, hl.old⟩, N, E⟩

/-- WHAT 'lent' HANDS OVER -/
structure LentIn (L : Lay) (w : World) (g gn ge : Nat) (gl : Nat → Nat) (vo : Option Addr) (vc : Nat) (wr : World) : Prop where
  below : Below w.heap.size w wr
  x : ∃ f, wr.rowIs g 39 5 f ∧ f 0 = .slice (some ⟨gn, 0, none⟩) L.n (L.n + 8) ∧ f 1 = .slice (some ⟨ge, 0, none⟩) L.m (L.m + 8) ∧ f 2 = .slice (some ⟨gn, 0, none⟩) (L.n + 8) (L.n + 8) ∧ f 3 = .slice (some ⟨ge, 0, none⟩) (L.m + 8) (L.m + 8) ∧ f 4 = .slice vo L.m vc
  nodes : ∃ f, wr.rowIs gn 65 ((L.n + 8) * 3) f ∧ (∀ j, j < L.n * 3 → f j = nodeC L j) ∧ ∀ a, a < 8 → f ((L.n + a) * 3) = .int .i64 (-77)
  entries : ∃ f, wr.rowIs ge 63 ((L.m + 8) * 2) f ∧ (∀ j, j < L.m → f (j * 2) = .string (L.tx j) ∧ f (j * 2 + 1) = .slice (some ⟨gl j, 0, none⟩) (L.k j) (L.k j + 8)) ∧ ∀ a, a < 8 → f ((L.m + a) * 2) = .string beyondS
  own : wr.ownsRow (w.heap.size + 1) 61 1 (.slice vo L.m vc) L.m ((List.range L.m).map fun j => .slice (some ⟨gl j, 0, none⟩) (L.k j + 8) (L.k j + 8))
  rows : ∀ j, j < L.m → wr.rowIs (gl j) 3 (L.k j + 8) (fun q => .int .i64 (markZ (L.k j) (L.z j) q))
  inj : ∀ j j', j < L.m → j' < L.m → gl j = gl j' → j = j'
  old : w.heap.size < g ∧ w.heap.size < gn ∧ w.heap.size < ge ∧ ∀ j, j < L.m → w.heap.size < gl j
theorem marked_lent {L : Lay} {w : World} {g gn ge : Nat} {gl : Nat → Nat} {vo : Option Addr} {vc : Nat} {wr w' : World} (h : Marked L w g gn ge gl vo vc 8 wr)
    (hw : w' = (wr.setCell ⟨g, 0, none⟩ (.slice (some ⟨gn, 0, none⟩) L.n (L.n + 8))).setCell ⟨g, 1, none⟩ (.slice (some ⟨ge, 0, none⟩) L.m (L.m + 8))) : LentIn L w g gn ge gl vo vc w' := by
  have hl := h.lend
  have hO : OnlyRow g wr w' := by rw [hw]; exact (OnlyRow.setCell _ _ _ _).trans (OnlyRow.setCell _ _ _ _)
  have hx' := (hl.x.set 0 (.slice (some ⟨gn, 0, none⟩) L.n (L.n + 8))).set 1 (.slice (some ⟨ge, 0, none⟩) L.m (L.m + 8))
  rw [← hw] at hx'
  obtain ⟨f1, a1, a2⟩ := h.nodes
  obtain ⟨f2, e1, e2⟩ := h.entries
  exact ⟨hO.below hl.below (by have := hl.old.1; omega), ⟨_, hx', by simp, by simp, by simp [xF], by simp [xF], by simp [xF]⟩, ⟨f1, hO.row a1 (row_ne a1 hl.x (by decide)), a2⟩, ⟨f2, hO.row e1 (row_ne e1 hl.x (by decide)), e2⟩,
    own_only hO hl.own (own_ne hl.own hl.x (by decide)).symm, fun j hj => hO.row (hl.rows j hj) (row_ne (hl.rows j hj) hl.x (by decide)), hl.inj, hl.old⟩

end Go.Proofs.YtpclldccjpncdabGreat

namespace Go.Proofs.YtpclldccjpncdabGreat
open Go.RowKit

theorem Tryz.info3 : (Tryz.prog.info? 3).map (fun i => (i.zero, i.size, i.bytes)) = some (some (.int .i64 0), 1, 8) := by kernel_rfl
theorem Tryz.info53 : (Tryz.prog.info? 65).map (fun i => (i.zero, i.size, i.bytes)) = some (some (.agg #[.int .i64 0, .int .i64 0, .int .i64 0]), 3, 24) := by kernel_rfl
theorem Tryz.info57 : (Tryz.prog.info? 63).map (fun i => (i.zero, i.size, i.bytes)) = some (some (.agg #[.string ByteArray.empty, .slice none 0 0]), 2, 40) := by kernel_rfl
theorem Tryz.info25 : (Tryz.prog.info? 61).map (fun i => (i.zero, i.size, i.bytes)) = some (some (.slice none 0 0), 1, 24) := by kernel_rfl
theorem Tryz.size53 : (Tryz.prog.info? 65).map (·.size) = some 3 := by kernel_rfl
theorem Tryz.size3 : (Tryz.prog.info? 3).map (·.size) = some 1 := by kernel_rfl

/-- 'make' of n elements, for every world -/
theorem run_made {P : Program} (t e : TypeId) (z : Value) (size bytes : Nat) (ht : P.underlying t = some (.slice e))
    (hinfo : (P.info? e).map (fun i => (i.zero, i.size, i.bytes)) = some (some z, size, bytes)) (n : Nat) (hb : bytes * n ≤ 281474976710656) (h63 : n ≤ 9223372036854775807) (w : World) :
    (Instr.makeSlice t (.int .i64 n) (.int .i64 n)).run P w = .ok (.slice (some ⟨w.heap.size, 0, none⟩) n n) (w.alloc (.cells (madeCells z.cells (n * size)) e)) := by
  obtain ⟨i, hi, h⟩ := Option.map_eq_some_iff.1 hinfo
  simp only [Prod.mk.injEq] at h
  obtain ⟨h1, h2, h3⟩ := h
  have hb' : (i.bytes : Int) * (n : Int) ≤ 281474976710656 := by rw [h3, ← Int.natCast_mul]; exact Int.ofNat_le.2 hb
  have := run_make (P := P) w t e i z ht hi h1 .i64 .i64 n n (by omega) (by omega) hb' (by omega)
  rw [h2] at this
  exact this

set_option maxRecDepth 100000 in
set_option maxHeartbeats 1000000 in
theorem lent_any (L : Lay) (w : World) (h : L.In w.heap.size w) :
    Calls Tryz.prog 12 #[.agg #[.slice L.na L.n L.nc, .slice L.ea L.m L.ec]] w fun e w' => ∃ g gn ge gl vo vc, e = .returned (.pointer (some ⟨g, 0, none⟩)) ∧ LentIn L w g gn ge gl vo vc w' := by
  have hn := h.nodes.le
  have hm := h.entries.le
  have HL : Hid (L.In w.heap.size w) := h
  clear h
  have mk1 := run_made (P := Tryz.prog) 25 65 _ 3 24 Tryz.underlying25 Tryz.info53 (L.n + 8) (by omega) (by omega)
  have mk2 := run_made (P := Tryz.prog) 26 63 _ 2 40 Tryz.underlying26 Tryz.info57 (L.m + 8) (by omega) (by omega)
  rw [show ((L.n + 8 : Nat) : Int) = (L.n : Int) + 8 by omega] at mk1
  rw [show ((L.m + 8 : Nat) : Int) = (L.m : Int) + 8 by omega] at mk2
  go_enter Tryz.func12, Tryz.ntmps12
  go_wp2
  go_cut [5] from 11 (fun x wc => ∃ g gn ge, x = .pointer (some ⟨g, 0, none⟩) ∧ Begun L w g gn ge wc)
  case first =>
    go_region
    · go_wp2
      go_meet
      exact ⟨_, _, _, rfl, begun1 L w _ _ (size_madeCells _ _) (size_madeCells _ _)⟩
    · go_wp2
      go_meet
      exact ⟨_, _, _, rfl, begun2 L w _ _ (size_madeCells _ _) (size_madeCells _ _)⟩
  case rest =>
    clear mk1 mk2
    obtain ⟨g, gn, ge, rfl, hbeg⟩ := hcut
    have HB : Hid (Begun L w g gn ge wc) := hbeg
    clear hbeg
    obtain ⟨_, hbox, hx, ⟨f1, hn1⟩, _⟩ := HB.out
    have x2 := hx.cell (i := 2) (by omega)
    have b0 := hbox.cell (i := 0) (by omega)
    simp only [xF, boxF] at x2 b0
    have HR : Hid (wc.rowIs gn 65 ((L.n + 8) * 3) f1) := hn1
    have HS : Hid (0 < L.n → ∃ sb so, L.na = some ⟨sb, so, none⟩ ∧ ∀ j, j < L.n * 3 → wc.drew.cell? ⟨sb, so + j, none⟩ = some (nodeC L j)) := fun h0 =>
      ⟨_, _, HL.out.nodes.addr h0, fun j hj => cellTo HB.out.1.drew (HL.out.nodes.flat j hj) (HL.out.nodes.lt h0)⟩
    clear hn1 hx hbox
    go_wp2
    go_cut [] from 11 (fun wd => Lending L w g gn ge 0 (fun _ => 0) none 0 wd)
    case first =>
      go_region_law ((refine step_copy_rows rfl (.tmp 28) (.tmp 30) 25 25 rfl 65 3 gn (L.n + 8) (L.n + 8) L.na L.n L.nc (by simp [Act.eval]) (by simp [Act.eval]) 65 ((L.n + 8) * 3) f1 (nodeC L) Tryz.underlying25 Tryz.size53 (by omega) HR.out.drew (by omega) HS.out (fun j _ => nodeC_one L j) ?_; intro w1 hO1 hr1))
      all_goals
        go_wp2
        go_meet
        exact Begun.lending ⟨HB.out.1.drew, HB.out.2.1.drew, HB.out.2.2.1.drew, ⟨_, HB.out.2.2.2.1.choose_spec.drew⟩, ⟨_, HB.out.2.2.2.2.1.choose_spec.drew⟩, HB.out.2.2.2.2.2⟩ hO1 hr1
    case rest =>
      clear x2 b0 HR HS HB
      go_wp2
      go_loopw [6] (fun iv wr => ∃ i gl vo vc, i ≤ L.m ∧ iv = .int .i64 (i : Nat) ∧ Lending L w g gn ge i gl vo vc wr) (fun iv _ => L.m - (intOf iv).toNat)
      case atStart => exact ⟨0, _, _, _, Nat.zero_le _, rfl, hcut⟩
      case round =>
        clear hcut
        rename World => wr
        obtain ⟨i, gl, vo, vc, hi, rfl, hlend⟩ := hrel
        have HLE : Hid (Lending L w g gn ge i gl vo vc wr) := hlend
        clear hlend
        by_cases hlt : i < L.m
        · have hbb := HL.out.entries.lt (by omega)
          have b1 := HLE.out.box.cell (i := 1) (by omega)
          simp only [boxF] at b1
          simp only [Nat.one_ne_zero, if_false] at b1
          rw [HL.out.entries.addr (by omega)] at b1
          have c0 := cellTo HLE.out.below (HL.out.entries.text i hlt) hbb
          have c1 := cellTo HLE.out.below (HL.out.entries.list i hlt) hbb
          have hk := (HL.out.entries.ints i hlt).le
          have mk3 := run_made (P := Tryz.prog) 61 3 _ 1 8 Tryz.underlying61 Tryz.info3 (L.k i + 8) (by omega) (by omega)
          rw [show ((L.k i + 8 : Nat) : Int) = (L.k i : Int) + 8 by omega] at mk3
          have hz0 := HLE.out.box.lt
          have hz1 : L.eb < wr.heap.size := by omega
          have HS : Hid (∀ o, 0 < L.k i → ∃ sb so, L.la i = some ⟨sb, so, none⟩ ∧ ∀ j, j < L.k i * 1 → (wr.alloc o).cell? ⟨sb, so + j, none⟩ = some (.int .i64 (L.z i j))) := fun o h0 =>
            ⟨_, _, (HL.out.entries.ints i hlt).addr h0, fun j hj => cellTo (below_then HLE.out.below (below_one _)) ((HL.out.entries.ints i hlt).cell j (by omega)) ((HL.out.entries.ints i hlt).lt h0)⟩
          obtain ⟨w1, hcp, hO1, hr1⟩ := run_copy_rows (P := Tryz.prog) (wr.alloc (.cells (madeCells #[.int .i64 0] (L.k i + 8)) 3)) 61 61 3 3 1 wr.heap.size (L.k i + 8) (L.k i + 8) (L.la i) (L.k i) (L.lc i) 3 (L.k i + 8) _ (fun j => .int .i64 (L.z i j)) Tryz.underlying61 Tryz.size3 (by omega) (World.rowIs_made wr (.int .i64 0) (L.k i + 8) 3) (by omega) (HS.out _) (fun j _ => rfl)
          have HW : Hid (OnlyRow wr.heap.size (wr.alloc (.cells (madeCells #[.int .i64 0] (L.k i + 8)) 3)) w1 ∧ w1.rowIs wr.heap.size 3 (L.k i + 8) (fun j => if j < L.k i * 1 then .int .i64 (L.z i j) else .int .i64 0)) := ⟨hO1, hr1⟩
          clear hO1 hr1
          go_wp2
          have HLW : Hid (Lending L w g gn ge i gl vo vc w1) := (HLE.out.alloc _).only (World.rowIs_made wr (.int .i64 0) (L.k i + 8) 3) hz0 (fun j hj => by have := (HLE.out.rows j hj).lt; omega) HW.out.1
          have HNE : Hid (∀ j, j < i → gl j ≠ wr.heap.size) := fun j hj => by have := (HLE.out.rows j hj).lt; omega
          have HMS : Hid (w1.rowIs wr.heap.size 3 (L.k i + 8) (markF (L.k i) (L.z i) (L.k i))) := mark_start HW.out.2
          clear HW HLE HS mk3 b1 c0 c1 hcp
          rename World => w1'
          go_loopw [9] (fun jv ws => ∃ j, L.k i ≤ j ∧ j ≤ L.k i + 8 ∧ jv = .int .i64 (j : Nat) ∧ Lending L w g gn ge i gl vo vc ws ∧ ws.rowIs wr.heap.size 3 (L.k i + 8) (markF (L.k i) (L.z i) j)) (fun jv _ => L.k i + 8 - (intOf jv).toNat)
          case atStart => exact ⟨L.k i, by omega, by omega, rfl, HLW.out, HMS.out⟩
          case round =>
            clear HLW HMS
            rename World => ws
            obtain ⟨j, hj1, hj2, rfl, hlen, hrow⟩ := hrel
            have HLEN : Hid (Lending L w g gn ge i gl vo vc ws) := hlen
            have HROW : Hid (ws.rowIs wr.heap.size 3 (L.k i + 8) (markF (L.k i) (L.z i) j)) := hrow
            clear hlen hrow
            by_cases hjk : j < L.k i + 8
            · have cj := HROW.out.cell hjk
              have fj := HROW.out.frozen j
              go_wp2
              go_roundw
              case rel => exact ⟨j + 1, by omega, by omega, by go_num, HLEN.out.only HROW.out hz0 HNE.out (OnlyRow.setCell _ _ _ _), mark_step hj1 HROW.out⟩
              case measure => simp [intOf]; omega
            · have hje : j = L.k i + 8 := by omega
              subst hje
              have x4 := x_cell4 HLEN.out
              have HR2 : Hid (ws.rowIs wr.heap.size 3 (L.k i + 8) (fun q => .int .i64 (markZ (L.k i) (L.z i) q))) := mark_end HROW.out
              obtain ⟨i0, hi0, hq0, hq1, hq2⟩ := info_parts Tryz.info25
              go_wp2_with (first
                | (at_builtin; refine wpList_append_lies _ (by rfl) (.tmp 69) (.tmp 71) 37 (by rfl) (w.heap.size + 1) 61 i0 (.slice none 0 0) 1 24 Tryz.underlying37 hi0 hq0 hq1 hq2 rfl (by omega) (.slice vo i vc) i _ (by rfl) (HLEN.out.own.alloc _) ⟨ws.heap.size, 0, none⟩ 1 1 [.slice (some ⟨wr.heap.size, 0, none⟩) (L.k i + 8) (L.k i + 8)] (by rfl) (by rfl) ?c1 ?c2 (by omega) ?c3 (by omega) ?c4 (ws.heap.size + 1) (by simp) ?_))
              case c1 => exact cell_one_new _ _ _
              case c2 => intro u hu; simp at hu; subst hu; rfl
              case c3 => unfold maxLen; omega
              case c4 => have := HLEN.out.box.lt; simp; omega
              · intro gv cap w2 hown2 hgrow _ _
                have HLI : Hid (Listed L w g gn ge i gl wr.heap.size (some ⟨gv, 0, none⟩) cap (w2.setCell ⟨g, 4, none⟩ (.slice (some ⟨gv, 0, none⟩) (i + 1) cap))) := listed_of (HLEN.out.alloc _) (HR2.out.alloc _) HNE.out hz0 hown2 hgrow
                obtain ⟨y4, yf⟩ := row_cell4 (grown_x (HLEN.out.alloc _) hgrow)
                clear hown2 hgrow HLEN HROW HR2 x4 hi0 hq0 hq1 hq2
                go_wp2
                clear y4 yf
                generalize w2.setCell ⟨g, 4, none⟩ (.slice (some ⟨gv, 0, none⟩) (i + 1) cap) = w3 at HLI
                have y3 := row_cell3 HLI.out.x
                have b1 := HLI.out.box.cell (i := 1) (by omega)
                simp only [boxF] at b1
                simp only [Nat.one_ne_zero, if_false] at b1
                rw [HL.out.entries.addr (by omega)] at b1
                have c0 := cellTo HLI.out.below (HL.out.entries.text i hlt) hbb
                obtain ⟨f2, e1, _⟩ := HLI.out.entries
                have s0 := e1.cell (i := i * 2) (by omega)
                have s1 := e1.cell (i := i * 2 + 1) (by omega)
                have t0 := e1.frozen (i * 2)
                have t1 := e1.frozen (i * 2 + 1)
                have q1 : ¬ g = ge := row_ne HLI.out.x e1 (by decide)
                have q2 : ¬ w.heap.size = ge := by have := HLI.out.old.2.2.1; omega
                have q3 : ¬ L.eb = ge := by have := HLI.out.old.2.2.1; omega
                have q1' : ¬ ge = g := fun h => q1 h.symm
                have q2' : ¬ ge = w.heap.size := fun h => q2 h.symm
                have q3' : ¬ ge = L.eb := fun h => q3 h.symm
                have r1 : (i : Int) < ((L.m + 8 : Nat) : Int) := by omega
                have r2 : ((L.k i : Nat) : Int) ≤ ((L.k i + 8 : Nat) : Int) := by omega
                have r3 : (0 : Int) ≤ (i : Int) := by omega
                have r4 : (0 : Int) ≤ ((L.k i : Nat) : Int) := by omega
                clear e1
                go_region
                all_goals
                  go_wp2
                  go_roundw
                  case rel => exact ⟨i + 1, _, _, _, by omega, by go_num, listed_done (wr := w3.drew) ⟨HLI.out.below.drew, HLI.out.box.drew, HLI.out.x.drew, let ⟨f, a, b⟩ := HLI.out.nodes; ⟨f, a.drew, b⟩, let ⟨f, a, b⟩ := HLI.out.entries; ⟨f, a.drew, b⟩, HLI.out.own.drew, fun j hj => (HLI.out.rows j hj).drew, HLI.out.row.drew, HLI.out.inj, HLI.out.inj', HLI.out.old⟩ rfl⟩
                  case measure => simp [intOf]; omega
        · have him : i = L.m := by omega
          subst him
          have HM0 : Hid (Marked L w g gn ge gl vo vc 0 wr) := HLE.out.marked
          go_wp2
          clear HLE
          rename World => wq
          go_loopw [10] (fun qv ws => ∃ q : Nat, q ≤ 8 ∧ qv = .int .i64 (q : Nat) ∧ Marked L w g gn ge gl vo vc q ws) (fun qv _ => 8 - (intOf qv).toNat)
          case atStart => exact ⟨0, by omega, rfl, HM0.out⟩
          case round =>
            clear HM0
            rename World => ws
            obtain ⟨q, hq, rfl, hmk⟩ := hrel
            have HM : Hid (Marked L w g gn ge gl vo vc q ws) := hmk
            clear hmk
            obtain ⟨f1, a1, _⟩ := HM.out.nodes
            obtain ⟨f2, e1, _⟩ := HM.out.entries
            have n1 : ¬ gn = g := row_ne a1 HM.out.lend.x (by decide)
            have n2 : ¬ ge = g := row_ne e1 HM.out.lend.x (by decide)
            have n3 : ¬ gn = ge := row_ne a1 e1 (by decide)
            have n1' : ¬ g = gn := fun h => n1 h.symm
            have n2' : ¬ g = ge := fun h => n2 h.symm
            have n3' : ¬ ge = gn := fun h => n3 h.symm
            have x2 := row_cell2 HM.out.lend.x
            have x3 := row_cell3 HM.out.lend.x
            by_cases hq8 : q < 8
            · have p0 := a1.cell (i := (L.n + q) * 3) (by omega)
              have p1 := a1.cell (i := (L.n + q) * 3 + 1) (by omega)
              have p2 := a1.cell (i := (L.n + q) * 3 + 2) (by omega)
              have g0 := a1.frozen ((L.n + q) * 3)
              have g1 := a1.frozen ((L.n + q) * 3 + 1)
              have g2 := a1.frozen ((L.n + q) * 3 + 2)
              have r0 := e1.cell (i := (L.m + q) * 2) (by omega)
              have r1 := e1.cell (i := (L.m + q) * 2 + 1) (by omega)
              have t0 := e1.frozen ((L.m + q) * 2)
              have t1 := e1.frozen ((L.m + q) * 2 + 1)
              clear a1 e1
              go_wp2
              go_roundw
              case rel => exact ⟨q + 1, by omega, by go_num, marked_step HM.out rfl⟩
              case measure => simp [intOf]; omega
            · have hqe : q = 8 := by omega
              subst hqe
              have p0 := HM.out.lend.x.cell (i := 0) (by omega)
              have p1 := HM.out.lend.x.cell (i := 1) (by omega)
              have g0 := HM.out.lend.x.frozen 0
              have g1 := HM.out.lend.x.frozen 1
              clear a1 e1
              go_wp2
              go_region
              all_goals
                go_wp2
                go_ret
                exact ⟨g, gn, ge, gl, vo, vc, rfl, marked_lent (wr := ws.drew) ⟨⟨HM.out.lend.below.drew, HM.out.lend.box.drew, HM.out.lend.x.drew, let ⟨f, a, b⟩ := HM.out.lend.nodes; ⟨f, a.drew, b⟩, let ⟨f, a, b⟩ := HM.out.lend.entries; ⟨f, a.drew, b⟩, HM.out.lend.own.drew, fun j hj => (HM.out.lend.rows j hj).drew, HM.out.lend.inj, HM.out.lend.old⟩, let ⟨f, a, b⟩ := HM.out.nodes; ⟨f, a.drew, b⟩, let ⟨f, a, b⟩ := HM.out.entries; ⟨f, a.drew, b⟩⟩ rfl⟩

end Go.Proofs.YtpclldccjpncdabGreat

namespace Go.Proofs.YtpclldccjpncdabGreat
open Go.RowKit

set_option maxHeartbeats 400000 in
theorem sameNode_any (p s t : Int) (w : World) :
    Calls Tryz.prog 50 #[.agg #[.int .i64 p, .int .i64 s, .int .i64 t], .agg #[.int .i64 p, .int .i64 s, .int .i64 t]] w fun e w' => e = .returned (.bool true) ∧ Below w.heap.size w w' := by
  go_enter Tryz.func50, Tryz.ntmps50
  go_wp2
  go_ret
  exact ⟨rfl, below_then (below_one _) (below_one _)⟩

set_option maxHeartbeats 400000 in
theorem sameInts_any (k b off b' off' cap cap' : Nat) (ao ao' : Option Addr) (z : Nat → Int) (w : World) (h : IntsIn w.heap.size w ao k b off z) (h' : IntsIn w.heap.size w ao' k b' off' z) :
    Calls Tryz.prog 51 #[.slice ao k cap, .slice ao' k cap'] w fun e w' => e = .returned (.bool true) ∧ Below w.heap.size w w' := by
  have hk := h.le
  obtain ⟨ha, hb, hc, _⟩ := h
  obtain ⟨ha', hb', hc', _⟩ := h'
  go_enter Tryz.func51, Tryz.ntmps51
  go_wp2
  go_loopw [5] (fun i wr => ∃ j : Nat, j ≤ k ∧ i = .int .i64 j ∧ Below w.heap.size w wr) (fun i _ => k - (intOf i).toNat)
  case atStart => exact ⟨0, Nat.zero_le _, rfl, Below.refl _ _⟩
  case round =>
    obtain ⟨j, hj, rfl, hbel⟩ := hrel
    by_cases hlt : j < k
    · have e1 := ha (by omega)
      have e2 := ha' (by omega)
      subst e1
      subst e2
      have c0 := cellTo hbel (hc j hlt) (hb (by omega))
      have c1 := cellTo hbel (hc' j hlt) (hb' (by omega))
      go_wp2
      go_quiet (fail)
      go_wp2
      go_roundw
      case rel => exact ⟨j + 1, by omega, by go_num, below_drewN hbel _⟩
      case measure => simp [intOf]; omega
    · go_wp2
      go_ret
      exact ⟨rfl, hbel⟩


/-- two tables of one content -/
structure Lay.Twin (L M : Lay) : Prop where
  n : M.n = L.n
  m : M.m = L.m
  p : M.p = L.p
  s : M.s = L.s
  t : M.t = L.t
  tx : M.tx = L.tx
  k : M.k = L.k
  z : M.z = L.z

set_option maxRecDepth 100000 in
set_option maxHeartbeats 1000000 in
theorem sameTable_any (L M : Lay) (w : World) (hL : L.In w.heap.size w) (hM : M.In w.heap.size w) (hT : L.Twin M) :
    Calls Tryz.prog 27 #[.agg #[.slice L.na L.n L.nc, .slice L.ea L.m L.ec], .agg #[.slice M.na M.n M.nc, .slice M.ea M.m M.ec]] w fun e w' => e = .returned (.bool true) ∧ Below w.heap.size w w' := by
  obtain ⟨n, m, na, ea, nc, ec, nb, no, eb, eo, p, s, t, tx, la, k, lc, lb, lo, z⟩ := L
  obtain ⟨n', m', na', ea', nc', ec', nb', no', eb', eo', p', s', t', tx', la', k', lc', lb', lo', z'⟩ := M
  obtain ⟨e1, e2, e3, e4, e5, e6, e7, e8⟩ := hT
  simp only at e1 e2 e3 e4 e5 e6 e7 e8
  subst e1 e2 e3 e4 e5 e6 e7 e8
  obtain ⟨hn, he⟩ := hL
  obtain ⟨hn', he'⟩ := hM
  simp only at hn he hn' he' ⊢
  have HN : Hid (NodesIn w.heap.size w na n' nb no p' s' t') := hn
  have HE : Hid (EntriesIn w.heap.size w ea m' eb eo tx' la k' lc lb lo z') := he
  have HN' : Hid (NodesIn w.heap.size w na' n' nb' no' p' s' t') := hn'
  have HE' : Hid (EntriesIn w.heap.size w ea' m' eb' eo' tx' la' k' lc' lb' lo' z') := he'
  have len := hn.le
  have lem := he.le
  clear hn he hn' he'
  go_enter Tryz.func27, Tryz.ntmps27
  go_wp2
  go_loopw [5] (fun i wr => ∃ j : Nat, j ≤ n' ∧ i = .int .i64 j ∧ Below w.heap.size w wr ∧ w.heap.size + 1 < wr.heap.size ∧ (wr.cell? ⟨w.heap.size, 0, none⟩ = some (.slice na n' nc) ∧ wr.cell? ⟨w.heap.size, 1, none⟩ = some (.slice ea m' ec)) ∧ wr.cell? ⟨w.heap.size + 1, 0, none⟩ = some (.slice na' n' nc') ∧ wr.cell? ⟨w.heap.size + 1, 1, none⟩ = some (.slice ea' m' ec')) (fun i _ => n' - (intOf i).toNat)
  case atStart =>
    refine ⟨0, Nat.zero_le _, rfl, below_then (below_one _) (below_one _), by simp, ⟨?_, ?_⟩, ?_, ?_⟩
    all_goals go_simp
  case round =>
    obtain ⟨j, hj, rfl, hbel, hsz, ⟨a0, a1⟩, b0, b1⟩ := hrel
    have HC : Hid ((wr.cell? ⟨w.heap.size, 0, none⟩ = some (.slice na n' nc) ∧ wr.cell? ⟨w.heap.size, 1, none⟩ = some (.slice ea m' ec)) ∧ wr.cell? ⟨w.heap.size + 1, 0, none⟩ = some (.slice na' n' nc') ∧ wr.cell? ⟨w.heap.size + 1, 1, none⟩ = some (.slice ea' m' ec')) := ⟨⟨a0, a1⟩, b0, b1⟩
    by_cases hlt : j < n'
    · have l1 := HN.out.lt (by omega)
      have l2 := HN'.out.lt (by omega)
      rw [HN.out.addr (by omega)] at a0
      rw [HN'.out.addr (by omega)] at b0
      have d0 := Wb.cell (w := wr) (B := wr.heap.size) (by show nb < _; omega) (cellTo hbel (HN.out.p j hlt) l1)
      have d1 := Wb.cell (w := wr) (B := wr.heap.size) (by show nb < _; omega) (cellTo hbel (HN.out.s j hlt) l1)
      have d2 := Wb.cell (w := wr) (B := wr.heap.size) (by show nb < _; omega) (cellTo hbel (HN.out.t j hlt) l1)
      have g0 := Wb.cell (w := wr) (B := wr.heap.size) (by show nb' < _; omega) (cellTo hbel (HN'.out.p j hlt) l2)
      have g1 := Wb.cell (w := wr) (B := wr.heap.size) (by show nb' < _; omega) (cellTo hbel (HN'.out.s j hlt) l2)
      have g2 := Wb.cell (w := wr) (B := wr.heap.size) (by show nb' < _; omega) (cellTo hbel (HN'.out.t j hlt) l2)
      have x0 := Wb.cell (w := wr) (B := wr.heap.size) (by show w.heap.size < _; omega) a0
      have y0 := Wb.cell (w := wr) (B := wr.heap.size) (by show w.heap.size + 1 < _; omega) b0
      go_wp2
      refine wp_region_below wr.heap.size (by kernel_rfl) (by kernel_rfl) ?_
      repeat (go_big_quiet_step ((go_at_call 50; exact Wb.ofCall _ (Nat.le_refl _) (sameNode_any _ _ _ _))))
      refine wpQuiet_nil ?_
      rintro _ ⟨x, rfl⟩
      have hx := x.below
      generalize x.val = w2 at hx
      have hz2 := hx.size
      clear d0 d1 d2 g0 g1 g2 x0 y0
      go_wp2
      go_roundw
      case rel => exact ⟨j + 1, by omega, by go_num, below_then hbel hx, by omega, ⟨cellTo hx HC.out.1.1 (by show w.heap.size < _; omega), cellTo hx HC.out.1.2 (by show w.heap.size < _; omega)⟩, cellTo hx HC.out.2.1 (by show w.heap.size + 1 < _; omega), cellTo hx HC.out.2.2 (by show w.heap.size + 1 < _; omega)⟩
      case measure => simp [intOf]; omega
    · have hjn : j = n' := by omega
      have hbel' := hbel
      have hsz' := hsz
      go_wp2
      go_loopw [7] (fun i wr => ∃ j : Nat, j ≤ m' ∧ i = .int .i64 j ∧ Below w.heap.size w wr ∧ w.heap.size + 1 < wr.heap.size ∧ (wr.cell? ⟨w.heap.size, 0, none⟩ = some (.slice na n' nc) ∧ wr.cell? ⟨w.heap.size, 1, none⟩ = some (.slice ea m' ec)) ∧ wr.cell? ⟨w.heap.size + 1, 0, none⟩ = some (.slice na' n' nc') ∧ wr.cell? ⟨w.heap.size + 1, 1, none⟩ = some (.slice ea' m' ec')) (fun i _ => m' - (intOf i).toNat)
      case atStart => exact ⟨0, Nat.zero_le _, rfl, hbel', hsz', HC.out⟩
      case round =>
        clear hbel' hsz' HC hbel hsz a0 a1 b0 b1 hlt hj hjn
        rename World => wr
        obtain ⟨j, hj, rfl, hbel, hsz, ⟨a0, a1⟩, b0, b1⟩ := hrel
        have HC : Hid ((wr.cell? ⟨w.heap.size, 0, none⟩ = some (.slice na n' nc) ∧ wr.cell? ⟨w.heap.size, 1, none⟩ = some (.slice ea m' ec)) ∧ wr.cell? ⟨w.heap.size + 1, 0, none⟩ = some (.slice na' n' nc') ∧ wr.cell? ⟨w.heap.size + 1, 1, none⟩ = some (.slice ea' m' ec')) := ⟨⟨a0, a1⟩, b0, b1⟩
        by_cases hlt : j < m'
        · have l1 := HE.out.lt (by omega)
          have l2 := HE'.out.lt (by omega)
          rw [HE.out.addr (by omega)] at a1
          rw [HE'.out.addr (by omega)] at b1
          have d0 := Wb.cell (w := wr) (B := wr.heap.size) (by show eb < _; omega) (cellTo hbel (HE.out.list j hlt) l1)
          have g0 := Wb.cell (w := wr) (B := wr.heap.size) (by show eb' < _; omega) (cellTo hbel (HE'.out.list j hlt) l2)
          have x0 := Wb.cell (w := wr) (B := wr.heap.size) (by show w.heap.size < _; omega) a1
          have y0 := Wb.cell (w := wr) (B := wr.heap.size) (by show w.heap.size + 1 < _; omega) b1
          have HI : Hid (∀ x : Wb wr.heap.size wr, IntsIn x.val.heap.size x.val (la j) (k' j) (lb j) (lo j) (z' j) ∧ IntsIn x.val.heap.size x.val (la' j) (k' j) (lb' j) (lo' j) (z' j)) := fun x =>
            ⟨((HE.out.ints j hlt).below (below_then hbel x.below)).mono (below_then hbel x.below).size, ((HE'.out.ints j hlt).below (below_then hbel x.below)).mono (below_then hbel x.below).size⟩
          go_wp2
          refine wp_region_below wr.heap.size (by kernel_rfl) (by kernel_rfl) ?_
          repeat (go_big_quiet_step ((go_at_call 51; exact Wb.ofCall _ (Nat.le_refl _) (sameInts_any _ _ _ _ _ _ _ _ _ _ _ (HI.out _).1 (HI.out _).2))))
          refine wpQuiet_nil ?_
          rintro _ ⟨x, rfl⟩
          have hx := x.below
          generalize x.val = w2 at hx
          have hz2 := hx.size
          clear d0 g0 x0 y0 HI
          go_wp2
          have d0 := Wb.cell (w := w2) (B := wr.heap.size) (by show eb < _; omega) (cellTo (below_then hbel hx) (HE.out.text j hlt) l1)
          have g0 := Wb.cell (w := w2) (B := wr.heap.size) (by show eb' < _; omega) (cellTo (below_then hbel hx) (HE'.out.text j hlt) l2)
          have x0 := Wb.cell (w := w2) (B := wr.heap.size) (by show w.heap.size < _; omega) (cellTo hx a1 (by show w.heap.size < _; omega))
          have y0 := Wb.cell (w := w2) (B := wr.heap.size) (by show w.heap.size + 1 < _; omega) (cellTo hx b1 (by show w.heap.size + 1 < _; omega))
          refine wp_region_below wr.heap.size (by kernel_rfl) (by kernel_rfl) ?_
          repeat (go_big_quiet_step (fail))
          refine wpQuiet_nil ?_
          rintro _ ⟨x2, rfl⟩
          have hx3 := hx.trans x2.below
          generalize x2.val = w3 at hx3
          have hz3 := hx3.size
          clear d0 g0 x0 y0
          go_wp2
          go_roundw
          case rel => exact ⟨j + 1, by omega, by go_num, below_then hbel hx3, by omega, ⟨cellTo hx3 HC.out.1.1 (by show w.heap.size < _; omega), cellTo hx3 HC.out.1.2 (by show w.heap.size < _; omega)⟩, cellTo hx3 HC.out.2.1 (by show w.heap.size + 1 < _; omega), cellTo hx3 HC.out.2.2 (by show w.heap.size + 1 < _; omega)⟩
          case measure => simp [intOf]; omega
        · go_wp2
          go_ret
          exact ⟨rfl, hbel⟩

end Go.Proofs.YtpclldccjpncdabGreat
