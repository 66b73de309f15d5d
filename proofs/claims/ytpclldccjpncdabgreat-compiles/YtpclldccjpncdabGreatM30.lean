import Derived.Test.YtpclldccjpncdabGreatM29
namespace Go.Proofs.YtpclldccjpncdabGreat
open Go.RowKit

/-- append to a list of one's own: the old list reads as it did -/
theorem run_append_keep {P : Program} (w : World) (base : Nat) (t ty e : TypeId) (i : TypeInfo) (z : Value) (size bytes : Nat) (ht : P.underlying t = some (.slice e)) (hi : P.info? e = some i) (hz : i.zero = some z)
    (hsize : i.size = size) (hby : i.bytes = bytes) (hzs : z.cells.size = size)
    (g0 cap n : Nat) (xs : List Value) (hown : w.ownsRow base e size (.slice (some ⟨g0, 0, none⟩) n cap) n xs)
    (a : Addr) (m c : Nat) (news : List Value) (hl : news.length = m * size) (hnews : ∀ j u, news[j]? = some u → w.cell? (a.add j) = some u) (h1 : ∀ u ∈ news, u.oneCell' = true)
    (h63 : n + m ≤ maxLen) (hbytes : (n + m) * bytes ≤ 140737488355328) (hbase : base ≤ w.heap.size) :
    ∃ g cap' w', (Builtin.append_ #[t, t] ty #[.slice (some ⟨g0, 0, none⟩) n cap, .slice (some a) m c]).run P w = .ok (.slice (some ⟨g, 0, none⟩) (n + m) cap') w' ∧
      w'.ownsRow base e size (.slice (some ⟨g, 0, none⟩) (n + m) cap') (n + m) (xs ++ news) ∧ w'.ownsRow base e size (.slice (some ⟨g0, 0, none⟩) n cap) n xs ∧ w.grownBy w' (some g0) ∧ (g = g0 ∨ g = w.heap.size) := by
  subst hsize
  subst hby
  have hsmall : n + m ≤ 9223372036854775807 := by simp only [maxLen] at h63; omega
  have hlen : (xs ++ news).length = (n + m) * i.size := by rw [List.length_append, hown.1, hl, Nat.add_mul]
  rcases hown.2 with ⟨hv, _⟩ | ⟨g, cap', cur, hv, hbg, hg, hnc, hcm, hcs, htake⟩
  · cases hv
  · cases hv
    by_cases hroom : n + m ≤ cap
    · have hfit : n * i.size + news.length ≤ cur.size := by rw [hl, hcs, ← Nat.add_mul]; exact Nat.mul_le_mul_right _ hroom
      have hr := run_append_room (P := P) w t ty e i ht hi g0 n cap cur hg a m c news hl hnews h1 hroom hfit
      have hcl : (cur.toList.take (n * i.size) ++ news ++ cur.toList.drop (n * i.size + news.length)).toArray.size = cap * i.size := by
        simp only [List.size_toArray, List.length_append, List.length_take, List.length_drop, Array.length_toList]
        omega
      refine ⟨g0, cap, _, hr, ⟨hlen, .inr ⟨g0, cap, _, rfl, hbg, setRow_heap w g0 cur _ e _ hg, hroom, hcm, hcl, ?_⟩⟩, ⟨hown.1, .inr ⟨g0, cap, _, rfl, hbg, setRow_heap w g0 cur _ e _ hg, hnc, hcm, hcl, ?_⟩⟩, ⟨rfl, rfl, rfl, by simp, fun k _ hk => setRow_other w g0 k _ (fun e => hk (by simp [e]))⟩, .inl rfl⟩
      · rw [htake, ← hlen]
        exact List.take_left
      · rw [htake, List.append_assoc, ← hown.1]
        exact List.take_left
    · have holds : ∀ j u, xs[j]? = some u → w.cell? ((⟨g0, 0, none⟩ : Addr).add j) = some u := hown.cells (g := g0) rfl
      have hr := run_append_grow (P := P) w t ty e i z ht hi hz ⟨g0, 0, none⟩ n cap xs hown.1 holds a m c news hl hnews (by omega) (by omega) (growslice_fits (by omega) hbytes)
      have hge := grownCap_ge w (n + m) cap e
      have hcm' : grownCap w (n + m) cap e ≤ maxLen := grownCap_le_maxLen w (n + m) cap e h63
      have hlt : g0 < w.heap.size := (Array.getElem?_eq_some_iff.1 hg).1
      refine ⟨_, _, _, hr, ⟨hlen, .inr ⟨w.heap.size, _, _, rfl, hbase, heap_alloc_new w.drew _, hge, hcm', ?_, ?_⟩⟩, ⟨hown.1, .inr ⟨g0, cap, cur, rfl, hbg, (heap_alloc_old w.drew _ hlt).trans hg, hnc, hcm, hcs, htake⟩⟩, ⟨rfl, rfl, rfl, by simp, fun k hk _ => heap_alloc_old w.drew _ hk⟩, .inr rfl⟩
      · simp only [Array.size_append, List.size_toArray, size_zeroCells, hzs, hown.1, hl, ← Nat.add_mul]
        congr 1
        omega
      · simp only [Array.toList_append, List.append_assoc]
        rw [← List.append_assoc, ← hlen]
        exact List.take_left

theorem wpList_append_keep {P : Program} (w : World) {ops : Array Oper} {rest : List Oper} {o : Oper} {a : Act} {Q : Exit → Act → World → Prop} (hgd : o.guard = none) (s x : Operand) (t : TypeId)
    (ho : o.op = .call { callee := .builtin .append, args := #[s, x], argTypes := #[t, t] })
    (base : Nat) (e : TypeId) (i : TypeInfo) (z : Value) (size bytes : Nat) (ht : P.underlying t = some (.slice e)) (hi : P.info? e = some i) (hz : i.zero = some z)
    (hsize : i.size = size) (hby : i.bytes = bytes) (hzs : z.cells.size = size)
    (g0 cap n : Nat) (xs : List Value) (hs : a.eval s = .slice (some ⟨g0, 0, none⟩) n cap) (hown : w.ownsRow base e size (.slice (some ⟨g0, 0, none⟩) n cap) n xs)
    (ad : Addr) (m c : Nat) (news : List Value) (hx : a.eval x = .slice (some ad) m c) (hl : news.length = m * size) (hnews : ∀ j u, news[j]? = some u → w.cell? (ad.add j) = some u) (h1 : ∀ u ∈ news, u.oneCell' = true)
    (h63 : n + m ≤ maxLen) (hbytes : (n + m) * bytes ≤ 140737488355328) (hbase : base ≤ w.heap.size)
    (h : ∀ g cap' w', w'.ownsRow base e size (.slice (some ⟨g, 0, none⟩) (n + m) cap') (n + m) (xs ++ news) → w'.ownsRow base e size (.slice (some ⟨g0, 0, none⟩) n cap) n xs → w.grownBy w' (some g0) → (g = g0 ∨ g = w.heap.size) → wpList P ops Q rest (a.put o.dst (.slice (some ⟨g, 0, none⟩) (n + m) cap')) w') :
    wpList P ops Q (o :: rest) a w := by
  refine wpList_plain hgd fun K hK => ?_
  obtain ⟨g, cap', w', hr, h2, h3, h4, h5⟩ := run_append_keep (P := P) w base t o.type e i z size bytes ht hi hz hsize hby hzs g0 cap n xs hown ad m c news hl hnews h1 h63 hbytes hbase
  unfold Oper.wp execOp
  simp only [ho, resolve, invoke, builtin, Sem.run_bind, Sem.run_pure, Result.andThen_ok, List.map_toArray, List.map_cons, List.map_nil, hs, hx, hr]
  exact hK _ _ (h g cap' w' h2 h3 h4 h5)

/-- a store into a list of one's own -/
theorem own_set {w : World} {base : Nat} {e : TypeId} {g cap n : Nat} {xs : List Value} (h : w.ownsRow base e 1 (.slice (some ⟨g, 0, none⟩) n cap) n xs) {q : Nat} (x : Value) : (w.setCell ⟨g, q, none⟩ x).ownsRow base e 1 (.slice (some ⟨g, 0, none⟩) n cap) n (xs.set q x) := by
  obtain ⟨hl, h2⟩ := h
  rcases h2 with ⟨hv, _⟩ | ⟨g', cap', cur, hv, hbg, hg, hnc, hcm, hcs, htake⟩
  · cases hv
  · cases hv
    refine ⟨by simpa using hl, .inr ⟨g, cap, cur.setIfInBounds q x, rfl, hbg, ?_, hnc, hcm, by simpa using hcs, ?_⟩⟩
    · simp [World.setCell, Array.getElem?_modify, hg]
    · rw [← htake, Array.toList_setIfInBounds, List.take_set]
theorem own_frozen {w : World} {base : Nat} {e : TypeId} {g cap n : Nat} {xs : List Value} (h : w.ownsRow base e 1 (.slice (some ⟨g, 0, none⟩) n cap) n xs) (q : Nat) : w.frozen? ⟨g, q, none⟩ = false := by
  obtain ⟨hl, h2⟩ := h
  rcases h2 with ⟨hv, _⟩ | ⟨g', cap', cur, hv, hbg, hg, hnc, hcm, hcs, htake⟩
  · cases hv
  · cases hv
    simp [World.frozen?, hg]

/-! ### asunder's state -/
/-- the first list's cells up to q are the mark -/
def mkZ (z : Nat → Nat → Int) (i q : Nat) (j c : Nat) : Int := if j < i ∨ (j = i ∧ c < q) then -(j : Int) - 1 else z j c
structure Asu (B m : Nat) (k : Nat → Nat) (z : Nat → Nat → Int) (vs : Nat → Option Addr) (cs : Nat → Nat) (i q : Nat) (gs : Nat → Option Addr) (gc : Nat → Nat) (w : World) : Prop where
  lists : EntsO B k (mkZ z i q) m vs cs w
  grown : ∀ j, j < i → w.ownsRow B 3 1 (.slice (gs j) (k j + 4) (gc j)) (k j + 4) (List.replicate (k j + 4) (.int .i64 (-(j : Int) - 1)))
  off : ∀ j j', j < i → j' < m → j ≠ j' → ∀ x, (gs j).map (·.block) = some x → (vs j').map (·.block) ≠ some x
theorem Asu.below {B m : Nat} {k : Nat → Nat} {z : Nat → Nat → Int} {vs : Nat → Option Addr} {cs : Nat → Nat} {i q : Nat} {gs : Nat → Option Addr} {gc : Nat → Nat} {w w' : World} (h : Asu B m k z vs cs i q gs gc w) (hb : Below w.heap.size w w') : Asu B m k z vs cs i q gs gc w' :=
  ⟨h.lists.below hb, fun j hj => ownC_below (h.grown j hj) hb, h.off⟩
theorem Asu.grow {B m : Nat} {k : Nat → Nat} {z : Nat → Nat → Int} {vs : Nat → Option Addr} {cs : Nat → Nat} {i q : Nat} {gs : Nat → Option Addr} {gc : Nat → Nat} {w w' : World} (h : Asu B m k z vs cs i q gs gc w) {base : Nat} {e : TypeId} {size : Nat} {v : Value} {n : Nat} {xs : List Value} (ho : w.ownsRow base e size v n xs) (ht : 3 ≠ e) (hg : w.grownBy w' v.ownBlock) : Asu B m k z vs cs i q gs gc w' :=
  ⟨h.lists.grown ho ht hg, fun j hj => ownC_grown (h.grown j hj) ho ht hg, h.off⟩
theorem asu_start {B m : Nat} {k : Nat → Nat} {z : Nat → Nat → Int} {vs : Nat → Option Addr} {cs : Nat → Nat} {w : World} (h : EntsO B k z m vs cs w) (gs : Nat → Option Addr) (gc : Nat → Nat) : Asu B m k z vs cs 0 0 gs gc w := by
  refine ⟨⟨fun j hj => ?_, h.apart⟩, fun j hj => by omega, fun j _ hj => by omega⟩
  have : mkZ z 0 0 j = z j := by funext c; simp [mkZ]
  rw [this]
  exact h.own j hj
/-- the mark is written at place q -/
theorem Asu.set {B m : Nat} {k : Nat → Nat} {z : Nat → Nat → Int} {vs : Nat → Option Addr} {cs : Nat → Nat} {i q : Nat} {gs : Nat → Option Addr} {gc : Nat → Nat} {w : World} (h : Asu B m k z vs cs i q gs gc w) (hi : i < m) {g : Nat} (hg : vs i = some ⟨g, 0, none⟩) :
    Asu B m k z vs cs i (q + 1) gs gc (w.setCell ⟨g, q, none⟩ (.int .i64 (-(i : Int) - 1))) := by
  have hO : OnlyRow g w (w.setCell ⟨g, q, none⟩ (.int .i64 (-(i : Int) - 1))) := OnlyRow.setCell _ _ _ _
  have hgi : (vs i).map (·.block) = some g := by rw [hg]; rfl
  refine ⟨⟨fun j hj => ?_, h.lists.apart⟩, fun j hj => own_only hO (h.grown j hj) ?_, h.off⟩
  · by_cases e : j = i
    · subst e
      have ho := h.lists.own j hj
      rw [hg] at ho ⊢
      have := own_set ho (q := q) (.int .i64 (-(j : Int) - 1))
      refine cast ?_ this
      congr 1
      apply List.ext_getElem?
      intro c
      rw [List.getElem?_set]
      simp only [List.getElem?_map, List.length_map, List.length_range]
      by_cases hc : c < k j
      · by_cases hcq : q = c
        · subst hcq
          simp [hc, mkZ]
        · rw [if_neg hcq]
          simp only [List.getElem?_range hc, Option.map_some, mkZ]
          congr 2
          by_cases h1 : c < q
          · have h2 : c < q + 1 := by omega
            simp [h1, h2]
          · have h2 : ¬ c < q + 1 := by omega
            simp [h1, h2]
      · have : (List.range (k j))[c]? = none := by simp; omega
        rw [this]
        by_cases hcq : q = c
        · subst hcq; simp [hc]
        · simp [hcq]
    · have ho := own_only hO (h.lists.own j hj) (by
        rw [slice_own]
        rcases Nat.lt_or_gt_of_ne e with h1 | h1
        · intro hx
          exact h.lists.apart j i g h1 hi hx hgi
        · intro hx
          exact h.lists.apart i j g h1 hj hgi hx)
      have : mkZ z i (q + 1) j = mkZ z i q j := by funext c; simp [mkZ, e]
      rw [this]
      exact ho
  · rw [slice_own]
    intro hx
    exact h.off j i hj hi (by omega) g hx hgi

theorem marks_all (z : Nat → Nat → Int) (i K : Nat) : ((List.range K).map fun c => Value.int .i64 (mkZ z i K i c)) = List.replicate K (.int .i64 (-(i : Int) - 1)) := by
  apply List.ext_getElem?
  intro c
  by_cases hc : c < K
  · simp [hc, mkZ]
  · simp [hc]
/-- the list i has been made longer -/
theorem Asu.append {B m : Nat} {k : Nat → Nat} {z : Nat → Nat → Int} {vs : Nat → Option Addr} {cs : Nat → Nat} {i : Nat} {gs : Nat → Option Addr} {gc : Nat → Nat} {w w' : World} (h : Asu B m k z vs cs i (k i) gs gc w) (hi : i < m) {g0 g cap' : Nat} (hg0 : vs i = some ⟨g0, 0, none⟩)
    (hnew : w'.ownsRow B 3 1 (.slice (some ⟨g, 0, none⟩) (k i + 4) cap') (k i + 4) (((List.range (k i)).map fun c => Value.int .i64 (mkZ z i (k i) i c)) ++ List.replicate 4 (.int .i64 (-(i : Int) - 1))))
    (hkeep : w'.ownsRow B 3 1 (.slice (vs i) (k i) (cs i)) (k i) ((List.range (k i)).map fun c => Value.int .i64 (mkZ z i (k i) i c)))
    (hgr : w.grownBy w' (some g0)) (hor : g = g0 ∨ g = w.heap.size) : Asu B m k z vs cs (i + 1) 0 (upd gs i (some ⟨g, 0, none⟩)) (upd gc i cap') w' := by
  have hgi : (vs i).map (·.block) = some g0 := by rw [hg0]; rfl
  refine ⟨⟨fun j hj => ?_, h.lists.apart⟩, fun j hj => ?_, fun j j' hj hj' hne x => ?_⟩
  · by_cases e : j = i
    · subst e
      refine cast ?_ hkeep
      congr 1
      refine List.map_congr_left fun c hc => ?_
      have hc := List.mem_range.1 hc
      simp [mkZ, hc]
    · have ho := own_of_block (h.lists.own j hj) (w' := w') fun b hb => hgr.block b (ownC_lt (h.lists.own j hj) hb).1 (by
        rw [slice_own] at hb
        intro hx
        cases hx
        rcases Nat.lt_or_gt_of_ne e with h1 | h1
        · exact h.lists.apart j i _ h1 hi hb hgi
        · exact h.lists.apart i j _ h1 hj hgi hb)
      refine cast ?_ ho
      congr 1
      refine List.map_congr_left fun c hc => ?_
      have h1 : (j < i + 1) = (j < i) := by simp; omega
      simp [mkZ, e, h1]
  · by_cases e : j = i
    · subst e
      rw [upd_at, upd_at]
      rw [marks_all, List.replicate_append_replicate] at hnew
      exact hnew
    · rw [upd_ne _ _ _ e, upd_ne _ _ _ e]
      have hj' : j < i := by omega
      exact own_of_block (h.grown j hj') fun b hb => hgr.block b (ownC_lt (h.grown j hj') hb).1 (by
        rw [slice_own] at hb
        intro hx
        cases hx
        exact h.off j i hj' hi e _ hb hgi)
  · by_cases e : j = i
    · subst e
      rw [upd_at]
      intro hx
      have hx : g = x := by simpa using hx
      subst hx
      intro hx'
      have l := (ownC_lt (h.lists.own j' hj') (b := g) (by rw [slice_own]; exact hx')).1
      rcases hor with hh | hh
      · rw [hh] at hx'
        rcases Nat.lt_or_gt_of_ne hne with h1 | h1
        · exact h.lists.apart j j' _ h1 hj' hgi hx'
        · exact h.lists.apart j' j _ h1 hi hx' hgi
      · omega
    · rw [upd_ne _ _ _ e]
      exact h.off j j' (by omega) hj' hne x

def lngC (k : Nat → Nat) (gs : Nat → Option Addr) (gc : Nat → Nat) (i : Nat) : List Value := (List.range i).map fun j => .slice (gs j) (k j + 4) (gc j)
theorem lngC_snoc (k : Nat → Nat) (gs : Nat → Option Addr) (gc : Nat → Nat) (i : Nat) : lngC k gs gc (i + 1) = lngC k gs gc i ++ [.slice (gs i) (k i + 4) (gc i)] := by simp [lngC, List.range_succ]
theorem lngC_congr (k : Nat → Nat) (gs gs' : Nat → Option Addr) (gc gc' : Nat → Nat) (i : Nat) (h : ∀ j, j < i → gs j = gs' j ∧ gc j = gc' j) : lngC k gs gc i = lngC k gs' gc' i := by
  unfold lngC
  refine List.map_congr_left fun j hj => ?_
  have := h j (List.mem_range.1 hj)
  rw [this.1, this.2]

/-- asunder, whole: the table's box A, its row of entries, the lists, the longer ones -/
structure AsuS (B A m : Nat) (no : Option Addr) (n nc : Nat) (eo : Option Addr) (ec : Nat) (tx : Nat → ByteArray) (k : Nat → Nat) (z : Nat → Nat → Int) (vs : Nat → Option Addr) (cs : Nat → Nat) (w0 : World) (i q : Nat) (gs : Nat → Option Addr) (gc : Nat → Nat) (v : Value) (u : Nat) (w : World) : Prop where
  below : Below B w0 w
  base : B ≤ w.heap.size
  box : w.rowIs A 28 2 (fun j => #[Value.slice no n nc, .slice eo m ec].getD j undef)
  row : w.ownsRow B 63 2 (.slice eo m ec) m (entC tx k vs cs m)
  asu : Asu B m k z vs cs i q gs gc w
  lng : w.ownsRow B 61 1 v u (lngC k gs gc u)
section
variable {B A m : Nat} {no : Option Addr} {n nc : Nat} {eo : Option Addr} {ec : Nat} {tx : Nat → ByteArray} {k : Nat → Nat} {z : Nat → Nat → Int} {vs : Nat → Option Addr} {cs : Nat → Nat} {w0 : World} {i q : Nat} {gs : Nat → Option Addr} {gc : Nat → Nat} {v : Value} {u : Nat} {w : World}
theorem AsuS.later {w' : World} (h : AsuS B A m no n nc eo ec tx k z vs cs w0 i q gs gc v u w) (hb : Below w.heap.size w w') : AsuS B A m no n nc eo ec tx k z vs cs w0 i q gs gc v u w' :=
  ⟨h.below.trans (hb.mono h.base), Nat.le_trans h.base hb.size, h.box.of_block (hb.block _ h.box.lt), ownC_below h.row hb, h.asu.below hb, ownC_below h.lng hb⟩
theorem AsuS.set (h : AsuS B A m no n nc eo ec tx k z vs cs w0 i q gs gc v u w) (hi : i < m) {g : Nat} (hg : vs i = some ⟨g, 0, none⟩) :
    AsuS B A m no n nc eo ec tx k z vs cs w0 i (q + 1) gs gc v u (w.setCell ⟨g, q, none⟩ (.int .i64 (-(i : Int) - 1))) := by
  have hO : OnlyRow g w (w.setCell ⟨g, q, none⟩ (.int .i64 (-(i : Int) - 1))) := OnlyRow.setCell _ _ _ _
  have hl := h.asu.lists.own i hi
  rw [hg] at hl
  have hbg := (ownC_lt hl (b := g) rfl).2
  refine ⟨hO.below h.below hbg, by simpa using h.base, hO.row h.box ?_, own_only hO h.row fun e => ?_, h.asu.set hi hg, own_only hO h.lng fun e => ?_⟩
  · intro e
    exact own_ne hl h.box (by decide) (by rw [e]; rfl)
  · exact ownC_two h.row hl (by decide) e rfl
  · exact ownC_two h.lng hl (by decide) e rfl
theorem AsuS.append {w' : World} (h : AsuS B A m no n nc eo ec tx k z vs cs w0 i (k i) gs gc v i w) (hi : i < m) {g0 g cap' : Nat} (hg0 : vs i = some ⟨g0, 0, none⟩)
    (hnew : w'.ownsRow B 3 1 (.slice (some ⟨g, 0, none⟩) (k i + 4) cap') (k i + 4) (((List.range (k i)).map fun c => Value.int .i64 (mkZ z i (k i) i c)) ++ List.replicate 4 (.int .i64 (-(i : Int) - 1))))
    (hkeep : w'.ownsRow B 3 1 (.slice (vs i) (k i) (cs i)) (k i) ((List.range (k i)).map fun c => Value.int .i64 (mkZ z i (k i) i c)))
    (hgr : w.grownBy w' (some g0)) (hor : g = g0 ∨ g = w.heap.size) : AsuS B A m no n nc eo ec tx k z vs cs w0 (i + 1) 0 (upd gs i (some ⟨g, 0, none⟩)) (upd gc i cap') v i w' := by
  have hl := h.asu.lists.own i hi
  rw [hg0] at hl
  have hbg := (ownC_lt hl (b := g0) rfl).2
  refine ⟨h.below.grown hgr h.base (fun r hr => by cases hr; exact hbg), Nat.le_trans h.base hgr.size, row_grown hgr h.box ?_, ?_, h.asu.append hi hg0 hnew hkeep hgr hor, ?_⟩
  · exact own_ne hl h.box (by decide)
  · exact own_of_block h.row fun b hb => hgr.block b (ownC_lt h.row hb).1 (ownC_two h.row hl (by decide) hb)
  · rw [lngC_congr k (upd gs i (some ⟨g, 0, none⟩)) gs (upd gc i cap') gc i fun j hj => ⟨upd_ne _ _ _ (by omega), upd_ne _ _ _ (by omega)⟩]
    exact own_of_block h.lng fun b hb => hgr.block b (ownC_lt h.lng hb).1 (ownC_two h.lng hl (by decide) hb)
theorem AsuS.longer {w' : World} {v' : Value} (h : AsuS B A m no n nc eo ec tx k z vs cs w0 (i + 1) 0 gs gc v i w) (hgr : w.grownBy w' v.ownBlock) (hnew : w'.ownsRow B 61 1 v' (i + 1) (lngC k gs gc i ++ [.slice (gs i) (k i + 4) (gc i)])) :
    AsuS B A m no n nc eo ec tx k z vs cs w0 (i + 1) 0 gs gc v' (i + 1) w' := by
  refine ⟨ownC_grown_below h.below h.base h.lng (Nat.le_refl _) hgr, Nat.le_trans h.base hgr.size, row_grown hgr h.box (own_ne h.lng h.box (by decide)), ?_, h.asu.grow h.lng (by decide) hgr, ?_⟩
  · exact own_of_block h.row fun b hb => hgr.block b (ownC_lt h.row hb).1 (ownC_two h.row h.lng (by decide) hb)
  · rw [lngC_snoc]; exact hnew
end

end Go.Proofs.YtpclldccjpncdabGreat

namespace Go.Proofs.YtpclldccjpncdabGreat
open Go.RowKit

theorem ints_const {w : World} {B : Nat} {a : Option Addr} {K C : Nat} {x : Int} (h : w.ownsRow B 3 1 (.slice a K C) K (List.replicate K (.int .i64 x))) (hK : K ≤ 2000) : ∃ b, IntsIn w.heap.size w a K b 0 (fun _ => x) := by
  obtain ⟨vo, vc, gv, hv, ha, hc⟩ := ownC_cells h
  cases hv
  exact ⟨gv, fun h0 => (ha h0).1, fun h0 => (ha h0).2.1, fun i hi => by rw [Nat.zero_add]; exact hc i _ (by omega) (by simp [hi]), by omega⟩
theorem marks_done (z : Nat → Nat → Int) (i j K : Nat) (h : j < i) : ((List.range K).map fun c => Value.int .i64 (mkZ z i 0 j c)) = List.replicate K (.int .i64 (-(j : Int) - 1)) := by
  apply List.ext_getElem?
  intro c
  by_cases hc : c < K
  · simp [hc, mkZ, h]
  · simp [hc]

set_option maxRecDepth 100000 in
set_option maxHeartbeats 2000000 in
theorem asunder_any (B m : Nat) (no : Option Addr) (n nc : Nat) (eo : Option Addr) (ec : Nat) (tx : Nat → ByteArray) (k : Nat → Nat) (z : Nat → Nat → Int) (vs : Nat → Option Addr) (cs : Nat → Nat) (w : World)
    (hB : B ≤ w.heap.size) (hm : m ≤ 1000) (hk : ∀ i, i < m → 1 ≤ k i ∧ k i ≤ 1000)
    (hrow : w.ownsRow B 63 2 (.slice eo m ec) m (entC tx k vs cs m)) (hent : EntsO B k z m vs cs w) :
    Calls Tryz.prog 28 #[.agg #[.slice no n nc, .slice eo m ec]] w fun e w' => e = .returned (.bool true) ∧ Below B w w' := by
  obtain ⟨i0, hi0, hq0, hq1, hq2⟩ := info_parts infoIntC
  obtain ⟨j0, hj0, hp0, hp1, hp2⟩ := info_parts infoListC
  have HK : Hid (∀ i, i < m → 1 ≤ k i ∧ k i ≤ 1000) := hk
  have HST : Hid (AsuS B w.heap.size m no n nc eo ec tx k z vs cs w 0 0 (fun _ => none) (fun _ => 0) (.slice none 0 0) 0 (w.alloc (.cells #[.slice no n nc, .slice eo m ec] 28))) :=
    ⟨(below_one _).mono hB, by simp; omega, row_new _ _ _ 2 rfl, ownC_below hrow (below_one _), asu_start (hent.below (below_one _)) _ _, World.ownsRow_nil _ _ _ _⟩
  clear hk hrow hent
  go_enter Tryz.func28, Tryz.ntmps28
  go_wp2
  go_loopw [3, 4] (fun v iv wr => ∃ (i : Nat) (gs : Nat → Option Addr) (gc : Nat → Nat), i ≤ m ∧ iv = .int .i64 (i : Nat) ∧ AsuS B w.heap.size m no n nc eo ec tx k z vs cs w i 0 gs gc v i wr) (fun _ iv _ => m - (intOf iv).toNat)
  case atStart => exact ⟨0, _, _, Nat.zero_le _, rfl, HST.out⟩
  case round =>
    obtain ⟨i, gs, gc, hi, rfl, hst⟩ := hrel
    clear HST
    have HS : Hid (AsuS B w.heap.size m no n nc eo ec tx k z vs cs w i 0 gs gc _ i wr) := hst
    have b0 := hst.box.cell (i := 0) (by omega)
    have b1 := hst.box.cell (i := 1) (by omega)
    simp at b0 b1
    clear hst
    by_cases hlt : i < m
    · obtain ⟨vo, vc, gv, hv, ha, hc⟩ := ownC_cells HS.out.row
      cases hv
      obtain ⟨ha1, ha2, ha3⟩ := ha (by omega)
      have hki := HK.out i hlt
      have hci := hc (i * 2 + 1) _ (by omega) (entC_at tx k vs cs m i hlt).2
      have HHC : Hid (∀ j, j < m → wr.cell? ⟨gv, j * 2 + 1, none⟩ = some (.slice (vs j) (k j) (cs j))) := fun j hj => hc (j * 2 + 1) _ (by omega) (entC_at tx k vs cs m j hj).2
      obtain ⟨v2, vc2, g0, hv2, ha4, hc2⟩ := ownC_cells (HS.out.asu.lists.own i hlt)
      injection hv2 with hv2a hv2b hv2c
      obtain ⟨hg0, hg0l, hg0b⟩ := ha4 (by omega)
      have HG0 : Hid (vs i = some ⟨g0, 0, none⟩) := by show _ = _; rw [hv2a, hg0]
      rw [hv2a, hg0] at hci
      rw [ha1] at b1
      obtain ⟨K, hK⟩ : ∃ K, K = k i := ⟨_, rfl⟩
      obtain ⟨C, hC⟩ : ∃ C, C = cs i := ⟨_, rfl⟩
      rw [← hK, ← hC] at hci
      rw [← hK] at hki
      have HKK : Hid (K = k i) := hK
      have HCC : Hid (C = cs i) := hC
      clear hc hc2 ha ha4 hv2a hv2b hv2c hg0 hK hC
      have HVO : Hid (eo = some ⟨gv, 0, none⟩) := ha1
      clear ha1
      go_wp2
      have HS0 : Hid (AsuS B w.heap.size m no n nc eo ec tx k z vs cs w i 0 gs gc _ i wr) := HS
      go_loopw [7] (fun jv wi => ∃ q : Nat, q ≤ K ∧ jv = .int .i64 (q : Nat) ∧ AsuS B w.heap.size m no n nc eo ec tx k z vs cs w i q gs gc _ i wi) (fun jv _ => K - (intOf jv).toNat)
      case atStart => exact ⟨0, Nat.zero_le _, rfl, HS0.out⟩
      case round =>
        rename World => wi
        obtain ⟨q, hq, rfl, hsi⟩ := hrel
        clear HS HS0 b0 b1 hci HHC ha2 hg0l
        have HSI : Hid (AsuS B w.heap.size m no n nc eo ec tx k z vs cs w i q gs gc _ i wi) := hsi
        have hl := hsi.asu.lists.own i hlt
        rw [HG0.out, ← HKK.out, ← HCC.out] at hl
        have HLI : Hid (wi.ownsRow B 3 1 (.slice (some ⟨g0, 0, none⟩) K C) K ((List.range K).map fun c => Value.int .i64 (mkZ z i q i c))) := hl
        clear hsi hl
        by_cases hqK : q < K
        · obtain ⟨_, _, _, he, hx1, hx2⟩ := ownC_cells HLI.out
          cases he
          obtain ⟨hx3, _, _⟩ := hx1 (by omega)
          cases hx3
          have c0 := hx2 q (.int .i64 (mkZ z i q i q)) (by omega) (by simp [hqK])
          have f0 := own_frozen HLI.out q
          clear hx1 hx2
          go_wp2
          go_roundw
          case rel => exact ⟨q + 1, by omega, by go_num, HSI.out.set hlt HG0.out⟩
          case measure => simp [intOf]; omega
        · have hqe : q = K := by omega
          subst hqe
          have hsi := HSI.out
          rw [HKK.out] at hsi
          have HSK : Hid (AsuS B w.heap.size m no n nc eo ec tx k z vs cs w i (k i) gs gc _ i wi) := hsi
          clear hsi
          have hBw := HSK.out.base
          have HBW : Hid (B ≤ wi.heap.size) := hBw
          clear hBw
          go_wp2_with (first
            | (at_builtin; refine wpList_append_keep _ (by rfl) (.tmp 38) (.tmp 43) 61 (by rfl) B 3 i0 (.int .i64 0) 1 8 Tryz.underlying61 hi0 hq0 hq1 hq2 rfl g0 C q _ (by rfl) (HLI.out.alloc _) ⟨wi.heap.size, 0, none⟩ 4 4 (List.replicate 4 (.int .i64 (-(i : Int) - 1))) (by rfl) (by rfl) ?c1 ?c2 ?c3 ?c5 ?c4 ?_))
          case c1 => exact newC4 _ rfl _ _ _ _ _
          case c2 => intro u hu; rw [List.eq_of_mem_replicate hu]; rfl
          case c3 => unfold maxLen; omega
          case c5 => omega
          case c4 => simp; have := HBW.out; omega
          · intro g cap2 w2 hnew hkeep hgrow hor
            have hsz1 : (wi.alloc (Obj.cells #[Value.int IntKind.i64 (-(i : Int) - 1), Value.int IntKind.i64 (-(i : Int) - 1), Value.int IntKind.i64 (-(i : Int) - 1), Value.int IntKind.i64 (-(i : Int) - 1)] 3)).heap.size = wi.heap.size + 1 := size_one _ _
            rw [HKK.out] at hnew hkeep
            rw [← HG0.out, HCC.out] at hkeep
            have hap := (HSK.out.later (below_one _)).append hlt HG0.out hnew hkeep hgrow (by rw [hsz1]; exact hor)
            rw [← HKK.out] at hnew
            have HAP : Hid (AsuS B w.heap.size m no n nc eo ec tx k z vs cs w (i + 1) 0 (upd gs i (some ⟨g, 0, none⟩)) (upd gc i cap2) _ i w2) := hap
            have HBW2 : Hid (B ≤ w2.heap.size) := hap.base
            clear hap hnew hkeep hgrow hor hsz1 HSK HSI HLI HBW
            go_wp2_with (first
              | (at_builtin; refine wpList_append_lies _ (by rfl) (.tmp 45) (.tmp 47) 37 (by rfl) B 61 j0 (.slice none 0 0) 1 24 Tryz.underlying37 hj0 hp0 hp1 hp2 rfl (by omega) _ i _ (by rfl) ((HAP.out.later (below_one _)).lng) ⟨w2.heap.size, 0, none⟩ 1 1 [.slice (some ⟨g, 0, none⟩) (q + 4) cap2] (by rfl) (by rfl) ?d1 ?d2 (by omega) ?d3 ?d5 ?d4 (w2.heap.size + 1) (by simp) ?_))
            case d1 => exact cell_one_new _ _ _
            case d2 => intro u hu; simp at hu; subst hu; rfl
            case d3 => unfold maxLen; omega
            case d5 => omega
            case d4 => simp; have := HBW2.out; omega
            · intro g3 cap3 w3 hown3 hgrow3 _ _
              have HL3 : Hid (AsuS B w.heap.size m no n nc eo ec tx k z vs cs w (i + 1) 0 (upd gs i (some ⟨g, 0, none⟩)) (upd gc i cap2) (.slice (some ⟨g3, 0, none⟩) (i + 1) cap3) (i + 1) w3) := by
                refine AsuS.longer (HAP.out.later (below_one _)) hgrow3 ?_
                rw [upd_at, upd_at, ← HKK.out]
                exact hown3
              clear hown3 hgrow3 HAP
              go_wp2
              go_roundw
              case rel => exact ⟨i + 1, _, _, by omega, by go_num, HL3.out⟩
              case measure => simp [intOf]; omega
    · have hie : i = m := by omega
      subst hie
      obtain ⟨lo, lc, hvl⟩ := ownC_shape HS.out.lng
      subst hvl
      obtain ⟨vo, vc, gv, hv, ha, hc⟩ := ownC_cells HS.out.row
      cases hv
      obtain ⟨vo2, vc2, gl, hv2, ha2, hc2⟩ := ownC_cells HS.out.lng
      cases hv2
      have HA : Hid (0 < i → eo = some ⟨gv, 0, none⟩ ∧ gv < wr.heap.size) := fun h0 => ⟨(ha h0).1, (ha h0).2.1⟩
      have HA2 : Hid (0 < i → lo = some ⟨gl, 0, none⟩ ∧ gl < wr.heap.size) := fun h0 => ⟨(ha2 h0).1, (ha2 h0).2.1⟩
      have HC1 : Hid (∀ j, j < i → wr.cell? ⟨gv, j * 2 + 1, none⟩ = some (.slice (vs j) (k j) (cs j))) := fun j hj => hc (j * 2 + 1) _ (by omega) (entC_at tx k vs cs i j hj).2
      have HC2 : Hid (∀ j, j < i → wr.cell? ⟨gl, j, none⟩ = some (.slice (gs j) (k j + 4) (gc j))) := fun j hj => hc2 j _ (by omega) (by simp [lngC, hj])
      have HBX : Hid (w.heap.size < wr.heap.size) := HS.out.box.lt
      have HB1 : Hid (wr.cell? ⟨w.heap.size, 1, none⟩ = some (.slice eo i ec)) := b1
      have HLB : Hid (∀ wx, Below wr.heap.size wr wx → AsuS B w.heap.size i no n nc eo ec tx k z vs cs w i 0 gs gc (.slice lo i lc) i wx) := fun wx hb => HS.out.later hb
      clear hc hc2 ha ha2 HS
      go_wp2
      clear b0 b1
      go_loopw [9] (fun jv wx => ∃ j : Nat, j ≤ i ∧ jv = .int .i64 (j : Nat) ∧ Below wr.heap.size wr wx) (fun jv _ => i - (intOf jv).toNat)
      case atStart => exact ⟨0, Nat.zero_le _, rfl, Below.refl _ _⟩
      case round =>
        rename World => wx
        obtain ⟨j, hj, rfl, hbx⟩ := hrel
        have hbz := HBX.out
        have b1 := cellTo hbx HB1.out (by show w.heap.size < _; omega)
        by_cases hjl : j < i
        · have a1 := (HA.out (by omega)).1
          have a2 := (HA2.out (by omega)).1
          have c1 := cellTo hbx (HC1.out j hjl) (by show gv < _; exact (HA.out (by omega)).2)
          have HC2X : Hid (∀ wy, Below wx.heap.size wx wy → wy.cell? ⟨gl, j, none⟩ = some (.slice (gs j) (k j + 4) (gc j))) := fun wy hy => cellTo (below_then hbx hy) (HC2.out j hjl) (HA2.out (by omega)).2
          have hkj := HK.out j hjl
          have HI1 : Hid (∃ b, IntsIn wx.heap.size wx (vs j) (k j) b 0 (fun _ => -(j : Int) - 1)) := by
            have := (HLB.out wx hbx).asu.lists.own j hjl
            rw [marks_done z i j _ hjl] at this
            exact ints_const this (by omega)
          have HI2 : Hid (∀ wy, Below wx.heap.size wx wy → ∃ b, IntsIn wy.heap.size wy (gs j) (k j + 4) b 0 (fun _ => -(j : Int) - 1)) := fun wy hy => ints_const ((HLB.out wy (below_then hbx hy)).asu.grown j hjl) (by omega)
          obtain ⟨g1, hI1⟩ := HI1.out
          have HJ1 : Hid (IntsIn wx.heap.size wx (vs j) (k j) g1 0 (fun _ => -(j : Int) - 1)) := hI1
          obtain ⟨K, hK⟩ : ∃ K, K = k j := ⟨_, rfl⟩
          obtain ⟨C, hC⟩ : ∃ C, C = cs j := ⟨_, rfl⟩
          obtain ⟨V, hV⟩ : ∃ V, V = vs j := ⟨_, rfl⟩
          obtain ⟨V2, hV2⟩ : ∃ V, V = gs j := ⟨_, rfl⟩
          obtain ⟨C2, hC2⟩ : ∃ C, C = gc j := ⟨_, rfl⟩
          rw [← hK, ← hC, ← hV] at c1
          rw [← hK, ← hV] at HJ1
          rw [← hV2, ← hK] at HI2
          rw [← hV2, ← hK, ← hC2] at HC2X
          rw [a1] at b1
          rw [← hK] at hkj
          subst a2
          clear hK hC hV hV2 hC2 hI1 HI1 a1
          go_wp2_with fail
          refine (allN_any _ _ _ _ _ _ HJ1.out).mono ?_
          rintro e w4 ⟨rfl, hb4⟩
          have c2 := HC2X.out w4 hb4
          obtain ⟨g2, hI2⟩ := HI2.out w4 hb4
          have HJ2 : Hid (IntsIn w4.heap.size w4 V2 (K + 4) g2 0 (fun _ => -(j : Int) - 1)) := hI2
          clear hI2
          go_wp2_with fail
          refine (allN_any _ _ _ _ _ _ HJ2.out).mono ?_
          rintro e w5 ⟨rfl, hb5⟩
          clear c2 b1 c1
          go_wp2
          go_roundw
          case rel => exact ⟨j + 1, by omega, by go_num, below_then (below_then hbx hb4) hb5⟩
          case measure => simp [intOf]; omega
        · have hje : j = i := by omega
          subst hje
          go_wp2
          go_ret
          exact ⟨rfl, (HLB.out wx hbx).below⟩

end Go.Proofs.YtpclldccjpncdabGreat

namespace Go.Proofs.YtpclldccjpncdabGreat
open Go.RowKit

theorem told_twin (s : ByteArray) (no no' : Option Addr) (nc nc' : Nat) (eo eo' : Option Addr) (ec ec' : Nat) (vs vs' : Nat → Option Addr) (cs cs' : Nat → Nat) : (toldL s no nc eo ec vs cs).Twin (toldL s no' nc' eo' ec' vs' cs') := ⟨rfl, rfl, rfl, rfl, rfl, rfl, rfl, rfl⟩
/-- the empty table -/
def noL : Lay := { n := 0, m := 0, na := none, ea := none, nc := 0, ec := 0, nb := 0, no := 0, eb := 0, eo := 0, p := fun _ => 0, s := fun _ => 0, t := fun _ => 0, tx := fun _ => ByteArray.empty, la := fun _ => none, k := fun _ => 0, lc := fun _ => 0, lb := fun _ => 0, lo := fun _ => 0, z := fun _ _ => 0 }
theorem noL_in (w : World) : noL.In w.heap.size w := by
  refine ⟨⟨fun h => ?_, fun h => ?_, fun i h => ?_, fun i h => ?_, fun i h => ?_, by decide⟩, ⟨fun h => ?_, fun h => ?_, fun i h => ?_, fun i h => ?_, fun i h => ?_, by decide⟩⟩
  all_goals exact absurd h (Nat.not_lt_zero _)
theorem dec_ok {s : ByteArray} (h : decE s = 0) : (dL s).Ok := by
  have hg : good s := by
    by_cases hg : good s
    · exact hg
    · rw [decE_bad hg] at h; omega
  rw [decE_good hg] at h
  exact err_zero h
open Classical in
/-- what Decode tells, wherever it lies -/
noncomputable def cL (s : ByteArray) : Lay := if decE s = 0 then dL s else noL
theorem twin_two {L M N : Lay} (h : L.Twin M) (k : L.Twin N) : M.Twin N := ⟨k.n.trans h.n.symm, k.m.trans h.m.symm, k.p.trans h.p.symm, k.s.trans h.s.symm, k.t.trans h.t.symm, k.tx.trans h.tx.symm, k.k.trans h.k.symm, k.z.trans h.z.symm⟩
theorem decAns_lay {s : ByteArray} {w : World} {e : Ending} {w' : World} (h : DecAns s w e w') : ∃ M : Lay, e = .returned (.tuple #[.agg #[.slice M.na M.n M.nc, .slice M.ea M.m M.ec], .int .i64 (decE s)]) ∧ Below w.heap.size w w' ∧ M.In w'.heap.size w' ∧ (cL s).Twin M ∧ M.m ≤ 1000 ∧
    ∃ tx k z vs cs, (∀ i, i < M.m → 1 ≤ k i ∧ k i ≤ 1000) ∧ w'.ownsRow w.heap.size 63 2 (.slice M.ea M.m M.ec) M.m (entC tx k vs cs M.m) ∧ EntsO w.heap.size k z M.m vs cs w' := by
  obtain ⟨hb, h⟩ := h
  rcases h with ⟨h0, no, nc, eo, ec, vs, cs, he, ht⟩ | ⟨h0, he⟩
  · have hok := dec_ok h0
    refine ⟨toldL s no nc eo ec vs cs, ?_, hb, told_in ht, ?_, ?_, dtx s, dk s, dz s, vs, cs, fun i hi => ?_, ht.row, ht.ents⟩
    · rw [h0]; exact he
    · rw [cL, if_pos h0]; exact ⟨rfl, rfl, rfl, rfl, rfl, rfl, rfl, rfl⟩
    · have := hok.m
      show dm s ≤ 1000
      have : dm s ≤ 48 := this
      omega
    · have : 1 ≤ dk s i ∧ dk s i ≤ 4 := hok.k i hi
      omega
  · refine ⟨noL, he, hb, noL_in w', ?_, by decide, fun _ => ByteArray.empty, fun _ => 0, fun _ _ => 0, fun _ => none, fun _ => 0, fun i hi => absurd hi (Nat.not_lt_zero _), World.ownsRow_nil _ _ _ _, EntsO.nil _ _ _ _ _ _⟩
    rw [cL, if_neg h0]; exact ⟨rfl, rfl, rfl, rfl, rfl, rfl, rfl, rfl⟩

set_option maxRecDepth 100000 in
set_option maxHeartbeats 1000000 in
theorem decodes_any (kind : Int) (na : Option Addr) (n nc : Nat) (ea : Option Addr) (m ec : Nat) (a b : ByteArray) (lev : Int) (ra : Option Addr) (rn rc : Nat) (w : World) (ha : a.size ≤ 140737488351232) :
    Calls Tryz.prog 8 #[.agg #[.int .i64 kind, .slice na n nc, .slice ea m ec, .string a, .string b, .int .i64 lev, .slice ra rn rc]] w fun e w' => e = .returned (.bool true) ∧ Below w.heap.size w w' := by
  have HA : Hid ((w.alloc (.cells #[.int .i64 kind, .slice na n nc, .slice ea m ec, .string a, .string b, .int .i64 lev, .slice ra rn rc] 31)).cell? ⟨w.heap.size, 3, none⟩ = some (.string a)) := by show _ = _; go_simp
  obtain ⟨er, her⟩ : ∃ x, x = decE a := ⟨_, rfl⟩
  have HER : Hid (er = decE a) := her
  clear her
  go_enter Tryz.func8, Tryz.ntmps8
  go_wp2_with fail
  refine (decode_any a _ ha).mono ?_
  rintro e w1 hans
  obtain ⟨M, rfl, hb1, hin1, htw1, hm1, tx, k, z, vs, cs, hk1, hrow1, hent1⟩ := decAns_lay hans
  rw [← HER.out]
  have hz1 : w.heap.size < w1.heap.size := by have := hb1.size; simp at this; omega
  have a1 := cellTo hb1 HA.out (by show w.heap.size < _; simp)
  have HI1 : Hid (∀ wx, Below w1.heap.size w1 wx → M.In wx.heap.size wx) := fun wx hx => hin1.later hx
  have HB1 : Hid (Below w.heap.size w w1) := below_then (below_one _) hb1
  simp only [size_one] at hrow1 hent1
  have HRE : Hid (∀ wx, Below w1.heap.size w1 wx → wx.ownsRow (w.heap.size + 1) 63 2 (.slice M.ea M.m M.ec) M.m (entC tx k vs cs M.m) ∧ EntsO (w.heap.size + 1) k z M.m vs cs wx) := fun wx hx => ⟨ownC_below hrow1 hx, hent1.below hx⟩
  have HK : Hid (∀ i, i < M.m → 1 ≤ k i ∧ k i ≤ 1000) := hk1
  have HTW1 : Hid ((cL a).Twin M) := htw1
  clear hans hin1 htw1 hk1 hrow1 hent1 hb1
  go_wp2_with fail
  refine (refDecode_any a _ ha).mono ?_
  rintro e w2 hans
  obtain ⟨N, rfl, hb2, hin2, htw2, hm2, _⟩ := decAns_lay hans
  rw [← HER.out]
  have HB2 : Hid (Below w1.heap.size w1 w2) := below_then (below_one _) hb2
  have hz2 : w1.heap.size < w2.heap.size := by have := hb2.size; simp at this; omega
  have hT1 : w2.rowIs w1.heap.size 28 2 (fun j => #[Value.slice M.na M.n M.nc, .slice M.ea M.m M.ec].getD j undef) := (row_new w1 #[Value.slice M.na M.n M.nc, .slice M.ea M.m M.ec] 28 2 rfl).of_block (hb2.block _ (by simp))
  have t0 := hT1.cell (i := 0) (by omega)
  have t1 := hT1.cell (i := 1) (by omega)
  simp at t0 t1
  have HI2 : Hid (∀ wx, Below w2.heap.size w2 wx → N.In wx.heap.size wx) := fun wx hx => hin2.later hx
  have HTW : Hid (M.Twin N) := twin_two HTW1.out htw2
  clear hans hin2 htw2 hb2 a1 hT1
  go_wp2_with fail
  refine (sameTable_any M N _ (HI1.out _ (below_then HB2.out (below_one _))) (HI2.out _ (below_one _)) HTW.out).mono ?_
  rintro e w3 ⟨rfl, hb3⟩
  have HB3 : Hid (Below w2.heap.size w2 w3) := below_then (below_one _) hb3
  have t0' := cellTo HB3.out t0 (by show w1.heap.size < _; omega)
  have t1' := cellTo HB3.out t1 (by show w1.heap.size < _; omega)
  have hz3 : w2.heap.size ≤ w3.heap.size := HB3.out.size
  clear hb3 t0 t1
  go_wp2_with fail
  refine (asunder_any (w.heap.size + 1) M.m _ _ _ _ _ tx k z vs cs w3 (by omega) hm1 HK.out (HRE.out _ (below_then HB2.out HB3.out)).1 (HRE.out _ (below_then HB2.out HB3.out)).2).mono ?_
  rintro e w4 ⟨rfl, hb4⟩
  have HB4 : Hid (Below w.heap.size w w4) := (below_then (below_then HB1.out HB2.out) HB3.out).trans (hb4.mono (by omega))
  clear hb4
  have he : (er == er) = true := by simp
  go_wp2
  go_ret
  exact ⟨rfl, HB4.out⟩

set_option maxRecDepth 100000 in
set_option maxHeartbeats 1000000 in
theorem plays_decode (L : Lay) (a b : ByteArray) (lev : Int) (ra : Option Addr) (rn rc : Nat) (w : World) (ha : a.size ≤ 140737488351232) :
    Calls Tryz.prog 6 #[.agg #[.int .i64 6, .slice L.na L.n L.nc, .slice L.ea L.m L.ec, .string a, .string b, .int .i64 lev, .slice ra rn rc]] w fun e w' => e = .returned (.bool true) ∧ Below w.heap.size w w' := by
  go_enter Tryz.func6, Tryz.ntmps6
  go_wp2_with fail
  refine (decodes_any _ _ _ _ _ _ _ _ _ _ _ _ _ _ ha).mono ?_
  rintro e w1 ⟨rfl, hb1⟩
  go_wp2
  go_ret
  exact ⟨rfl, below_then (below_one _) hb1⟩

end Go.Proofs.YtpclldccjpncdabGreat
