import Derived.Test.YtpclldccjpncdaaLaidW
namespace Go.Proofs.Ytpclldccjpncdaa
open Go.RowKit

abbrev Nd := Int × Int × Int
def ndC (x : Nd) : List Value := [.int .i64 x.1, .int .i64 x.2.1, .int .i64 x.2.2]
def flatN (ns : List Nd) : List Value := ns.flatMap ndC
def ndFM (x : Nd) (j : Nat) : Value := if j = 0 then .int .i64 x.1 else if j = 1 then .int .i64 x.2.1 else .int .i64 x.2.2
def tF (a b : Value) (j : Nat) : Value := if j = 0 then a else b
def ndAt (ns : List Nd) (j : Nat) : Nd := ns.getD j (0, 0, 0)
def lastN (ns : List Nd) : Nd := ndAt ns (ns.length - 1)
def NsOk (ns : List Nd) : Prop := nodesOk ns.length (fun j => (ndAt ns j).1) (fun j => (ndAt ns j).2.1) (fun j => (ndAt ns j).2.2)
theorem ndAt_old (ns : List Nd) (x : Nd) (j : Nat) (h : j < ns.length) : ndAt (ns ++ [x]) j = ndAt ns j := by
  simp [ndAt, List.getElem?_append_left h]
theorem ndAt_new (ns : List Nd) (x : Nd) : ndAt (ns ++ [x]) ns.length = x := by simp [ndAt]
theorem lastN_add (ns : List Nd) (x : Nd) : lastN (ns ++ [x]) = x := by
  unfold lastN
  rw [List.length_append]
  exact ndAt_new ns x
theorem nsOk_nil : NsOk [] := fun j hj => by simp at hj
theorem nsOk_add {ns : List Nd} {x : Nd} (h : NsOk ns) (h1 : nodeB x.1 x.2.1 x.2.2 = true) (h2 : 0 < ns.length → aboveB x.1 x.2.1 x.2.2 (lastN ns).1 (lastN ns).2.1 (lastN ns).2.2 = true) : NsOk (ns ++ [x]) := by
  intro j hj
  rw [List.length_append] at hj
  by_cases e : j = ns.length
  · subst e
    simp only []
    rw [ndAt_new]
    refine ⟨h1, fun h0 => ?_⟩
    rw [ndAt_old ns x _ (by omega)]
    exact h2 h0
  · have hj' : j < ns.length := by simp at hj; omega
    have := h j hj'
    simp only []
    rw [ndAt_old ns x j hj', ndAt_old ns x (j - 1) (by omega)]
    exact this
theorem next_node {p s t p' s' t' : Int} (h : NextOf p s t p' s' t') (h1 : p' ≤ 250 ∧ s' ≤ 250 ∧ t' ≤ 250) : nodeB p' s' t' = true ∧ NodeFit p' s' t' := by
  obtain ⟨a, b, c, d, _⟩ := h
  exact ⟨by unfold nodeB; simp; omega, ⟨by omega, by omega, by omega, by omega, by omega, by omega, d⟩⟩
theorem fit_zero : NodeFit 0 0 0 := ⟨by omega, by omega, by omega, by omega, by omega, by omega, .inl rfl⟩
theorem flatN_add (ns : List Nd) (x : Nd) : flatN (ns ++ [x]) = flatN ns ++ ndC x := by simp [flatN]
theorem flatN_len (ns : List Nd) : (flatN ns).length = ns.length * 3 := by
  induction ns with
  | nil => rfl
  | cons e r ih => simp [flatN, ndC] at ih ⊢; omega
theorem flatN_at : ∀ (ns : List Nd) (i : Nat), i < ns.length → (flatN ns)[i * 3]? = some (.int .i64 (ndAt ns i).1) ∧ (flatN ns)[i * 3 + 1]? = some (.int .i64 (ndAt ns i).2.1) ∧ (flatN ns)[i * 3 + 2]? = some (.int .i64 (ndAt ns i).2.2)
  | [], i, h => by simp at h
  | a :: r, 0, h => by simp [flatN, ndC, ndAt]
  | a :: r, i + 1, h => by
    have ih := flatN_at r i (by simpa using h)
    have h1 : (i + 1) * 3 = i * 3 + 1 + 1 + 1 := by omega
    have h2 : ndAt (a :: r) (i + 1) = ndAt r i := by simp [ndAt]
    rw [h1, h2]
    simpa [flatN, ndC] using ih

theorem own_farM {w : World} {base : Nat} {e : TypeId} {size : Nat} {v : Value} {k : Nat} {xs : List Value} (h : w.ownsRow base e size v k xs) {b : Nat} (hb : b < base) : some b ≠ v.ownBlock := fun e => by
  have := (h.lt b e.symm).1
  omega

/-- what 'made' has while it makes its nodes -/
structure MadeN (w : World) (R T A : Nat) (ns : List Nd) (v : Value) (wr : World) : Prop where
  below : Below w.heap.size w wr
  eR : R = w.heap.size
  eT : T = w.heap.size + 1
  eA : A = w.heap.size + 2
  res : wr.rowIs R 26 2 (fun _ => .slice none 0 0)
  t : wr.rowIs T 26 2 (tF v (.slice none 0 0))
  last : wr.rowIs A 60 3 (ndFM (lastN ns))
  own : wr.ownsRow (w.heap.size + 3) 60 3 v ns.length (flatN ns)
  ok : NsOk ns
  fit : NodeFit (lastN ns).1 (lastN ns).2.1 (lastN ns).2.2
theorem MadeN.later {w : World} {R T A : Nat} {ns : List Nd} {v : Value} {wr w1 : World} (h : MadeN w R T A ns v wr) (hb : Below wr.heap.size wr w1) : MadeN w R T A ns v w1 :=
  ⟨below_then h.below hb, h.eR, h.eT, h.eA, h.res.of_block (hb.block _ h.res.lt), h.t.of_block (hb.block _ h.t.lt), h.last.of_block (hb.block _ h.last.lt), own_of_block h.own fun b hb' => hb.block b (h.own.lt b hb').2, h.ok, h.fit⟩
theorem madeN_start {w : World} {R T A : Nat} (hR : R = w.heap.size) (hT : T = w.heap.size + 1) (hA : A = T + 1) :
    MadeN w R T A [] (.slice none 0 0) (((w.alloc (.cells #[.slice none 0 0, .slice none 0 0] 26)).alloc (.cells #[.slice none 0 0, .slice none 0 0] 26)).alloc (.cells #[.int .i64 0, .int .i64 0, .int .i64 0] 60)) := by
  refine ⟨below_then (below_then (below_one _) (below_one _)) (below_one _), hR, hT, by omega, ?_, ?_, ?_, World.ownsRow_nil _ _ _ _, nsOk_nil, fit_zero⟩
  · refine World.rowIs.alloc (World.rowIs.alloc (row_at (row_new w _ _ 2 rfl) hR.symm ?_) _) _
    intro i hi
    match i, hi with
    | 0, _ => rfl
    | 1, _ => rfl
  · refine World.rowIs.alloc (row_at (row_new _ _ _ 2 rfl) (by simp only [size_one]; omega) ?_) _
    intro i hi
    match i, hi with
    | 0, _ => rfl
    | 1, _ => rfl
  · refine row_at (row_new _ _ _ 3 rfl) (by simp only [size_one]; omega) ?_
    intro i hi
    match i, hi with
    | 0, _ => rfl
    | 1, _ => rfl
    | 2, _ => rfl
/-- a block of no concern is written -/
theorem MadeN.only {w : World} {R T A g : Nat} {ns : List Nd} {v : Value} {wr w1 : World} (h : MadeN w R T A ns v wr) (hO : OnlyRow g wr w1) (hg : w.heap.size + 3 ≤ g) (hne : some g ≠ v.ownBlock) : MadeN w R T A ns v w1 := by
  obtain ⟨hb, eR, eT, eA, h1, h2, h3, h4, h5, h6⟩ := h
  exact ⟨hO.below hb (by omega), eR, eT, eA, hO.row h1 (by omega), hO.row h2 (by omega), hO.row h3 (by omega), own_only hO h4 (fun e => hne e.symm), h5, h6⟩

theorem MadeN.grown {w : World} {R T A : Nat} {ns : List Nd} {v : Value} {wr w2 : World} (h : MadeN w R T A ns v wr) (hg : wr.grownBy w2 v.ownBlock) :
    Below w.heap.size w w2 ∧ w2.rowIs R 26 2 (fun _ => .slice none 0 0) ∧ w2.rowIs T 26 2 (tF v (.slice none 0 0)) ∧ w2.rowIs A 60 3 (ndFM (lastN ns)) := by
  have hz := h.res.lt
  have e1 := h.eR
  have e2 := h.eT
  have e3 := h.eA
  refine ⟨h.below.grown hg (by omega) fun r hr => by have := (h.own.lt r hr).1; omega, row_grown hg h.res (own_farM h.own (by omega)), row_grown hg h.t (own_farM h.own (by omega)), row_grown hg h.last (own_farM h.own (by omega))⟩

theorem MadeN.add {w : World} {R T A : Nat} {ns : List Nd} {v v' : Value} {x : Nd} {wr w2 : World} (h : MadeN w R T A ns v wr) (hg : wr.grownBy w2 v.ownBlock)
    (ho : w2.ownsRow (w.heap.size + 3) 60 3 v' (ns.length + 1) (flatN ns ++ ndC x)) (hx : NsOk (ns ++ [x])) (hf : NodeFit x.1 x.2.1 x.2.2) :
    MadeN w R T A (ns ++ [x]) v' ((((w2.setCell ⟨T, 0, none⟩ v').setCell ⟨A, 0, none⟩ (.int .i64 x.1)).setCell ⟨A, 1, none⟩ (.int .i64 x.2.1)).setCell ⟨A, 2, none⟩ (.int .i64 x.2.2)) := by
  obtain ⟨g1, g2, g3, g4⟩ := h.grown hg
  have e1 := h.eR
  have e2 := h.eT
  have e3 := h.eA
  have hT : OnlyRow T w2 (w2.setCell ⟨T, 0, none⟩ v') := OnlyRow.setCell _ _ _ _
  have hA : OnlyRow A (w2.setCell ⟨T, 0, none⟩ v') ((((w2.setCell ⟨T, 0, none⟩ v').setCell ⟨A, 0, none⟩ (.int .i64 x.1)).setCell ⟨A, 1, none⟩ (.int .i64 x.2.1)).setCell ⟨A, 2, none⟩ (.int .i64 x.2.2)) :=
    ((OnlyRow.setCell _ _ _ _).trans (OnlyRow.setCell _ _ _ _)).trans (OnlyRow.setCell _ _ _ _)
  refine ⟨hA.below (hT.below g1 (by omega)) (by omega), e1, e2, e3, hA.row (hT.row g2 (by omega)) (by omega), hA.row ((g3.set 0 v').congr ?_) (by omega), ((((hT.row g4 (by omega)).set 0 _).set 1 _).set 2 _).congr ?_, ?_, hx, by rw [lastN_add]; exact hf⟩
  · intro i hi
    match i, hi with
    | 0, _ => simp [tF]
    | 1, _ => simp [tF]
  · intro i hi
    rw [lastN_add]
    match i, hi with
    | 0, _ => simp [ndFM]
    | 1, _ => simp [ndFM]
    | 2, _ => simp [ndFM]
  · rw [List.length_append, flatN_add]
    exact own_only hA (own_only hT ho fun e => own_farM ho (by omega) e.symm) fun e => own_farM ho (by omega) e.symm

theorem nd_cells {w : World} {A : Nat} {x : Nd} (h : w.rowIs A 60 3 (ndFM x)) : w.cell? ⟨A, 0, none⟩ = some (.int .i64 x.1) ∧ w.cell? ⟨A, 1, none⟩ = some (.int .i64 x.2.1) ∧ w.cell? ⟨A, 2, none⟩ = some (.int .i64 x.2.2) :=
  ⟨h.cell (i := 0) (by omega), h.cell (i := 1) (by omega), h.cell (i := 2) (by omega)⟩
theorem t_cells {w : World} {T : Nat} {a b : Value} (h : w.rowIs T 26 2 (tF a b)) : w.cell? ⟨T, 0, none⟩ = some a ∧ w.cell? ⟨T, 1, none⟩ = some b ∧ w.frozen? ⟨T, 0, none⟩ = false ∧ w.frozen? ⟨T, 1, none⟩ = false :=
  ⟨h.cell (i := 0) (by omega), h.cell (i := 1) (by omega), h.frozen 0, h.frozen 1⟩

theorem new_nd3 (w : World) (a b c : Value) (t : TypeId) : ∀ (j : Nat) (u : Value), [a, b, c][j]? = some u → (w.alloc (.cells #[a, b, c] t)).cell? ((⟨w.heap.size, 0, none⟩ : Addr).add j) = some u := by
  intro j u hj
  have hr : (w.alloc (.cells #[a, b, c] t)).rowIs w.heap.size t 3 (fun i => #[a, b, c].getD i undef) := row_new w _ t 3 rfl
  match j, hj with
  | 0, hj => simp at hj; subst hj; exact hr.cell (i := 0) (by omega)
  | 1, hj => simp at hj; subst hj; exact hr.cell (i := 1) (by omega)
  | 2, hj => simp at hj; subst hj; exact hr.cell (i := 2) (by omega)
/-- behind 'x := next(last, nodes[i])' -/
def NextMade (w : World) (R T A : Nat) (ns : List Nd) (v : Value) (wr : World) (x : Value) (wc : World) : Prop :=
  ∃ g p' s' t', x = .pointer (some ⟨g, 0, none⟩) ∧ MadeN w R T A ns v wc ∧ wc.rowIs g 60 3 (ndFM (p', s', t')) ∧ wr.heap.size ≤ g ∧ NextOf (lastN ns).1 (lastN ns).2.1 (lastN ns).2.2 p' s' t'
theorem next_after {w : World} {R T A : Nat} {ns : List Nd} {v : Value} {wr w1 : World} {p s t p' s' t' : Int} (h : MadeN w R T A ns v wr) (hx : (p, s, t) = lastN ns) (hn : NextOf p s t p' s' t') (hb : Below wr.drew.heap.size wr.drew w1) :
    NextMade w R T A ns v wr (.pointer (some ⟨w1.heap.size, 0, none⟩)) (w1.alloc (.cells #[.int .i64 p', .int .i64 s', .int .i64 t'] 60)) := by
  have hb' : Below wr.heap.size wr w1 := ((Below.refl wr.heap.size wr).drew).trans hb
  refine ⟨_, p', s', t', rfl, (h.later hb').later (below_one _), row_at (row_new w1 _ _ 3 rfl) rfl ?_, hb'.size, by rw [← hx]; exact hn⟩
  intro i hi
  match i, hi with
  | 0, _ => rfl
  | 1, _ => rfl
  | 2, _ => rfl
theorem next_before {w : World} {R T A : Nat} {ns : List Nd} {v : Value} {wr w1 : World} {p s t p' s' t' : Int} (h : MadeN w R T A ns v wr) (hx : (p, s, t) = lastN ns) (hn : NextOf p s t p' s' t')
    (hb : Below (wr.alloc (.cells #[.int .i64 0, .int .i64 0, .int .i64 0] 60)).drew.heap.size (wr.alloc (.cells #[.int .i64 0, .int .i64 0, .int .i64 0] 60)).drew w1) :
    NextMade w R T A ns v wr (.pointer (some ⟨wr.heap.size, 0, none⟩)) (((w1.setCell ⟨wr.heap.size, 0, none⟩ (.int .i64 p')).setCell ⟨wr.heap.size, 1, none⟩ (.int .i64 s')).setCell ⟨wr.heap.size, 2, none⟩ (.int .i64 t')) := by
  have hb' : Below (wr.alloc (.cells #[.int .i64 0, .int .i64 0, .int .i64 0] 60)).heap.size (wr.alloc (.cells #[.int .i64 0, .int .i64 0, .int .i64 0] 60)) w1 := ((Below.refl _ _).drew).trans hb
  have hr := row_new wr #[.int .i64 0, .int .i64 0, .int .i64 0] 60 3 rfl
  have hr1 := hr.of_block (hb'.block _ hr.lt)
  have hO : OnlyRow wr.heap.size w1 (((w1.setCell ⟨wr.heap.size, 0, none⟩ (.int .i64 p')).setCell ⟨wr.heap.size, 1, none⟩ (.int .i64 s')).setCell ⟨wr.heap.size, 2, none⟩ (.int .i64 t')) :=
    ((OnlyRow.setCell _ _ _ _).trans (OnlyRow.setCell _ _ _ _)).trans (OnlyRow.setCell _ _ _ _)
  have hz := h.last.lt
  have e := h.eA
  refine ⟨_, p', s', t', rfl, ((h.later (below_one _)).later hb').only hO (by omega) (fun e => by have := (h.own.lt _ e.symm).2; omega), (((hr1.set 0 _).set 1 _).set 2 _).congr ?_, Nat.le_refl _, by rw [← hx]; exact hn⟩
  intro i hi
  match i, hi with
  | 0, _ => rfl
  | 1, _ => rfl
  | 2, _ => rfl

end Go.Proofs.Ytpclldccjpncdaa
