import Derived.Test.YtpclldccjpncdaaGreatAsuW
namespace Go.Proofs.YtpclldccjpncdaaGreat
open Go.RowKit

/-- append to a list of one's own: the old list reads as it did -/
theorem run_append_keep {P : Program} (w : World) (base : Nat) (t ty e : TypeId) (i : TypeInfo) (z : Value) (size bytes : Nat) (ht : P.underlying t = some (.slice e)) (hi : P.info? e = some i) (hz : i.zero = some z)
    (hsize : i.size = size) (hby : i.bytes = bytes) (hzs : z.cells.size = size)
    (g0 cap n : Nat) (xs : List Value) (hown : w.ownsRow base e size (.slice (some ⟨g0, 0, none⟩) n cap) n xs)
    (a : Addr) (m c : Nat) (news : List Value) (hl : news.length = m * size) (hnews : ∀ j u, news[j]? = some u → w.cell? (a.add j) = some u) (h1 : ∀ u ∈ news, u.oneCell' = true)
    (h63 : n + m ≤ maxLen) (hbytes : (n + m) * bytes ≤ 140737488355328) (hbase : base ≤ w.heap.size) :
    ∃ g cap' w', (Builtin.append_ #[t, t] ty #[.slice (some ⟨g0, 0, none⟩) n cap, .slice (some a) m c]).run P w = .ok (.slice (some ⟨g, 0, none⟩) (n + m) cap') w' ∧
      w'.ownsRow base e size (.slice (some ⟨g, 0, none⟩) (n + m) cap') (n + m) (xs ++ news) ∧ w'.ownsRow base e size (.slice (some ⟨g0, 0, none⟩) n cap) n xs ∧ w.grownBy w' (some g0) ∧ (g = g0 ∨ g = w.heap.size) := by
  subst hsize
  subst hby
  have hsmall : n + m ≤ 9223372036854775807 := by simp only [maxLen] at h63; omega
  have hlen : (xs ++ news).length = (n + m) * i.size := by rw [List.length_append, hown.1, hl, Nat.add_mul]
  rcases hown.2 with ⟨hv, _⟩ | ⟨g, cap', cur, hv, hbg, hg, hnc, hcm, hcs, htake⟩
  · cases hv
  · cases hv
    by_cases hroom : n + m ≤ cap
    · have hfit : n * i.size + news.length ≤ cur.size := by rw [hl, hcs, ← Nat.add_mul]; exact Nat.mul_le_mul_right _ hroom
      have hr := run_append_room (P := P) w t ty e i ht hi g0 n cap cur hg a m c news hl hnews h1 hroom hfit
      have hcl : (cur.toList.take (n * i.size) ++ news ++ cur.toList.drop (n * i.size + news.length)).toArray.size = cap * i.size := by
        simp only [List.size_toArray, List.length_append, List.length_take, List.length_drop, Array.length_toList]
        omega
      refine ⟨g0, cap, _, hr, ⟨hlen, .inr ⟨g0, cap, _, rfl, hbg, setRow_heap w g0 cur _ e _ hg, hroom, hcm, hcl, ?_⟩⟩, ⟨hown.1, .inr ⟨g0, cap, _, rfl, hbg, setRow_heap w g0 cur _ e _ hg, hnc, hcm, hcl, ?_⟩⟩, ⟨rfl, rfl, rfl, by simp, fun k _ hk => setRow_other w g0 k _ (fun e => hk (by simp [e]))⟩, .inl rfl⟩
      · rw [htake, ← hlen]
        exact List.take_left
      · rw [htake, List.append_assoc, ← hown.1]
        exact List.take_left
    · have holds : ∀ j u, xs[j]? = some u → w.cell? ((⟨g0, 0, none⟩ : Addr).add j) = some u := hown.cells (g := g0) rfl
      have hr := run_append_grow (P := P) w t ty e i z ht hi hz ⟨g0, 0, none⟩ n cap xs hown.1 holds a m c news hl hnews (by omega) (by omega) (growslice_fits (by omega) hbytes)
      have hge := grownCap_ge w (n + m) cap e
      have hcm' : grownCap w (n + m) cap e ≤ maxLen := grownCap_le_maxLen w (n + m) cap e h63
      have hlt : g0 < w.heap.size := (Array.getElem?_eq_some_iff.1 hg).1
      refine ⟨_, _, _, hr, ⟨hlen, .inr ⟨w.heap.size, _, _, rfl, hbase, heap_alloc_new w.drew _, hge, hcm', ?_, ?_⟩⟩, ⟨hown.1, .inr ⟨g0, cap, cur, rfl, hbg, (heap_alloc_old w.drew _ hlt).trans hg, hnc, hcm, hcs, htake⟩⟩, ⟨rfl, rfl, rfl, by simp, fun k hk _ => heap_alloc_old w.drew _ hk⟩, .inr rfl⟩
      · simp only [Array.size_append, List.size_toArray, size_zeroCells, hzs, hown.1, hl, ← Nat.add_mul]
        congr 1
        omega
      · simp only [Array.toList_append, List.append_assoc]
        rw [← List.append_assoc, ← hlen]
        exact List.take_left

theorem wpList_append_keep {P : Program} (w : World) {ops : Array Oper} {rest : List Oper} {o : Oper} {a : Act} {Q : Exit → Act → World → Prop} (hgd : o.guard = none) (s x : Operand) (t : TypeId)
    (ho : o.op = .call { callee := .builtin .append, args := #[s, x], argTypes := #[t, t] })
    (base : Nat) (e : TypeId) (i : TypeInfo) (z : Value) (size bytes : Nat) (ht : P.underlying t = some (.slice e)) (hi : P.info? e = some i) (hz : i.zero = some z)
    (hsize : i.size = size) (hby : i.bytes = bytes) (hzs : z.cells.size = size)
    (g0 cap n : Nat) (xs : List Value) (hs : a.eval s = .slice (some ⟨g0, 0, none⟩) n cap) (hown : w.ownsRow base e size (.slice (some ⟨g0, 0, none⟩) n cap) n xs)
    (ad : Addr) (m c : Nat) (news : List Value) (hx : a.eval x = .slice (some ad) m c) (hl : news.length = m * size) (hnews : ∀ j u, news[j]? = some u → w.cell? (ad.add j) = some u) (h1 : ∀ u ∈ news, u.oneCell' = true)
    (h63 : n + m ≤ maxLen) (hbytes : (n + m) * bytes ≤ 140737488355328) (hbase : base ≤ w.heap.size)
    (h : ∀ g cap' w', w'.ownsRow base e size (.slice (some ⟨g, 0, none⟩) (n + m) cap') (n + m) (xs ++ news) → w'.ownsRow base e size (.slice (some ⟨g0, 0, none⟩) n cap) n xs → w.grownBy w' (some g0) → (g = g0 ∨ g = w.heap.size) → wpList P ops Q rest (a.put o.dst (.slice (some ⟨g, 0, none⟩) (n + m) cap')) w') :
    wpList P ops Q (o :: rest) a w := by
  refine wpList_plain hgd fun K hK => ?_
  obtain ⟨g, cap', w', hr, h2, h3, h4, h5⟩ := run_append_keep (P := P) w base t o.type e i z size bytes ht hi hz hsize hby hzs g0 cap n xs hown ad m c news hl hnews h1 h63 hbytes hbase
  unfold Oper.wp execOp
  simp only [ho, resolve, invoke, builtin, Sem.run_bind, Sem.run_pure, Result.andThen_ok, List.map_toArray, List.map_cons, List.map_nil, hs, hx, hr]
  exact hK _ _ (h g cap' w' h2 h3 h4 h5)

/-- a store into a list of one's own -/
theorem own_set {w : World} {base : Nat} {e : TypeId} {g cap n : Nat} {xs : List Value} (h : w.ownsRow base e 1 (.slice (some ⟨g, 0, none⟩) n cap) n xs) {q : Nat} (x : Value) : (w.setCell ⟨g, q, none⟩ x).ownsRow base e 1 (.slice (some ⟨g, 0, none⟩) n cap) n (xs.set q x) := by
  obtain ⟨hl, h2⟩ := h
  rcases h2 with ⟨hv, _⟩ | ⟨g', cap', cur, hv, hbg, hg, hnc, hcm, hcs, htake⟩
  · cases hv
  · cases hv
    refine ⟨by simpa using hl, .inr ⟨g, cap, cur.setIfInBounds q x, rfl, hbg, ?_, hnc, hcm, by simpa using hcs, ?_⟩⟩
    · simp [World.setCell, Array.getElem?_modify, hg]
    · rw [← htake, Array.toList_setIfInBounds, List.take_set]
theorem own_frozen {w : World} {base : Nat} {e : TypeId} {g cap n : Nat} {xs : List Value} (h : w.ownsRow base e 1 (.slice (some ⟨g, 0, none⟩) n cap) n xs) (q : Nat) : w.frozen? ⟨g, q, none⟩ = false := by
  obtain ⟨hl, h2⟩ := h
  rcases h2 with ⟨hv, _⟩ | ⟨g', cap', cur, hv, hbg, hg, hnc, hcm, hcs, htake⟩
  · cases hv
  · cases hv
    simp [World.frozen?, hg]

/-! ### asunder's state -/
/-- the first list's cells up to q are the mark -/
def mkZ (z : Nat → Nat → Int) (i q : Nat) (j c : Nat) : Int := if j < i ∨ (j = i ∧ c < q) then -(j : Int) - 1 else z j c
structure Asu (B m : Nat) (k : Nat → Nat) (z : Nat → Nat → Int) (vs : Nat → Option Addr) (cs : Nat → Nat) (i q : Nat) (gs : Nat → Option Addr) (gc : Nat → Nat) (w : World) : Prop where
  lists : EntsO B k (mkZ z i q) m vs cs w
  grown : ∀ j, j < i → w.ownsRow B 3 1 (.slice (gs j) (k j + 4) (gc j)) (k j + 4) (List.replicate (k j + 4) (.int .i64 (-(j : Int) - 1)))
  off : ∀ j j', j < i → j' < m → j ≠ j' → ∀ x, (gs j).map (·.block) = some x → (vs j').map (·.block) ≠ some x
theorem Asu.below {B m : Nat} {k : Nat → Nat} {z : Nat → Nat → Int} {vs : Nat → Option Addr} {cs : Nat → Nat} {i q : Nat} {gs : Nat → Option Addr} {gc : Nat → Nat} {w w' : World} (h : Asu B m k z vs cs i q gs gc w) (hb : Below w.heap.size w w') : Asu B m k z vs cs i q gs gc w' :=
  ⟨h.lists.below hb, fun j hj => ownC_below (h.grown j hj) hb, h.off⟩
theorem Asu.grow {B m : Nat} {k : Nat → Nat} {z : Nat → Nat → Int} {vs : Nat → Option Addr} {cs : Nat → Nat} {i q : Nat} {gs : Nat → Option Addr} {gc : Nat → Nat} {w w' : World} (h : Asu B m k z vs cs i q gs gc w) {base : Nat} {e : TypeId} {size : Nat} {v : Value} {n : Nat} {xs : List Value} (ho : w.ownsRow base e size v n xs) (ht : 3 ≠ e) (hg : w.grownBy w' v.ownBlock) : Asu B m k z vs cs i q gs gc w' :=
  ⟨h.lists.grown ho ht hg, fun j hj => ownC_grown (h.grown j hj) ho ht hg, h.off⟩
theorem asu_start {B m : Nat} {k : Nat → Nat} {z : Nat → Nat → Int} {vs : Nat → Option Addr} {cs : Nat → Nat} {w : World} (h : EntsO B k z m vs cs w) (gs : Nat → Option Addr) (gc : Nat → Nat) : Asu B m k z vs cs 0 0 gs gc w := by
  refine ⟨⟨fun j hj => ?_, h.apart⟩, fun j hj => by omega, fun j _ hj => by omega⟩
  have : mkZ z 0 0 j = z j := by funext c; simp [mkZ]
  rw [this]
  exact h.own j hj
/-- the mark is written at place q -/
theorem Asu.set {B m : Nat} {k : Nat → Nat} {z : Nat → Nat → Int} {vs : Nat → Option Addr} {cs : Nat → Nat} {i q : Nat} {gs : Nat → Option Addr} {gc : Nat → Nat} {w : World} (h : Asu B m k z vs cs i q gs gc w) (hi : i < m) {g : Nat} (hg : vs i = some ⟨g, 0, none⟩) :
    Asu B m k z vs cs i (q + 1) gs gc (w.setCell ⟨g, q, none⟩ (.int .i64 (-(i : Int) - 1))) := by
  have hO : OnlyRow g w (w.setCell ⟨g, q, none⟩ (.int .i64 (-(i : Int) - 1))) := OnlyRow.setCell _ _ _ _
  have hgi : (vs i).map (·.block) = some g := by rw [hg]; rfl
  refine ⟨⟨fun j hj => ?_, h.lists.apart⟩, fun j hj => own_only hO (h.grown j hj) ?_, h.off⟩
  · by_cases e : j = i
    · subst e
      have ho := h.lists.own j hj
      rw [hg] at ho ⊢
      have := own_set ho (q := q) (.int .i64 (-(j : Int) - 1))
      refine cast ?_ this
      congr 1
      apply List.ext_getElem?
      intro c
      rw [List.getElem?_set]
      simp only [List.getElem?_map, List.length_map, List.length_range]
      by_cases hc : c < k j
      · by_cases hcq : q = c
        · subst hcq
          simp [hc, mkZ]
        · rw [if_neg hcq]
          simp only [List.getElem?_range hc, Option.map_some, mkZ]
          congr 2
          by_cases h1 : c < q
          · have h2 : c < q + 1 := by omega
            simp [h1, h2]
          · have h2 : ¬ c < q + 1 := by omega
            simp [h1, h2]
      · have : (List.range (k j))[c]? = none := by simp; omega
        rw [this]
        by_cases hcq : q = c
        · subst hcq; simp [hc]
        · simp [hcq]
    · have ho := own_only hO (h.lists.own j hj) (by
        rw [slice_own]
        rcases Nat.lt_or_gt_of_ne e with h1 | h1
        · intro hx
          exact h.lists.apart j i g h1 hi hx hgi
        · intro hx
          exact h.lists.apart i j g h1 hj hgi hx)
      have : mkZ z i (q + 1) j = mkZ z i q j := by funext c; simp [mkZ, e]
      rw [this]
      exact ho
  · rw [slice_own]
    intro hx
    exact h.off j i hj hi (by omega) g hx hgi

theorem marks_all (z : Nat → Nat → Int) (i K : Nat) : ((List.range K).map fun c => Value.int .i64 (mkZ z i K i c)) = List.replicate K (.int .i64 (-(i : Int) - 1)) := by
  apply List.ext_getElem?
  intro c
  by_cases hc : c < K
  · simp [hc, mkZ]
  · simp [hc]
/-- the list i has been made longer -/
theorem Asu.append {B m : Nat} {k : Nat → Nat} {z : Nat → Nat → Int} {vs : Nat → Option Addr} {cs : Nat → Nat} {i : Nat} {gs : Nat → Option Addr} {gc : Nat → Nat} {w w' : World} (h : Asu B m k z vs cs i (k i) gs gc w) (hi : i < m) {g0 g cap' : Nat} (hg0 : vs i = some ⟨g0, 0, none⟩)
    (hnew : w'.ownsRow B 3 1 (.slice (some ⟨g, 0, none⟩) (k i + 4) cap') (k i + 4) (((List.range (k i)).map fun c => Value.int .i64 (mkZ z i (k i) i c)) ++ List.replicate 4 (.int .i64 (-(i : Int) - 1))))
    (hkeep : w'.ownsRow B 3 1 (.slice (vs i) (k i) (cs i)) (k i) ((List.range (k i)).map fun c => Value.int .i64 (mkZ z i (k i) i c)))
    (hgr : w.grownBy w' (some g0)) (hor : g = g0 ∨ g = w.heap.size) : Asu B m k z vs cs (i + 1) 0 (upd gs i (some ⟨g, 0, none⟩)) (upd gc i cap') w' := by
  have hgi : (vs i).map (·.block) = some g0 := by rw [hg0]; rfl
  refine ⟨⟨fun j hj => ?_, h.lists.apart⟩, fun j hj => ?_, fun j j' hj hj' hne x => ?_⟩
  · by_cases e : j = i
    · subst e
      refine cast ?_ hkeep
      congr 1
      refine List.map_congr_left fun c hc => ?_
      have hc := List.mem_range.1 hc
      simp [mkZ, hc]
    · have ho := own_of_block (h.lists.own j hj) (w' := w') fun b hb => hgr.block b (ownC_lt (h.lists.own j hj) hb).1 (by
        rw [slice_own] at hb
        intro hx
        cases hx
        rcases Nat.lt_or_gt_of_ne e with h1 | h1
        · exact h.lists.apart j i _ h1 hi hb hgi
        · exact h.lists.apart i j _ h1 hj hgi hb)
      refine cast ?_ ho
      congr 1
      refine List.map_congr_left fun c hc => ?_
      have h1 : (j < i + 1) = (j < i) := by simp; omega
      simp [mkZ, e, h1]
  · by_cases e : j = i
    · subst e
      rw [upd_at, upd_at]
      rw [marks_all, List.replicate_append_replicate] at hnew
      exact hnew
    · rw [upd_ne _ _ _ e, upd_ne _ _ _ e]
      have hj' : j < i := by omega
      exact own_of_block (h.grown j hj') fun b hb => hgr.block b (ownC_lt (h.grown j hj') hb).1 (by
        rw [slice_own] at hb
        intro hx
        cases hx
        exact h.off j i hj' hi e _ hb hgi)
  · by_cases e : j = i
    · subst e
      rw [upd_at]
      intro hx
      have hx : g = x := by simpa using hx
      subst hx
      intro hx'
      have l := (ownC_lt (h.lists.own j' hj') (b := g) (by rw [slice_own]; exact hx')).1
      rcases hor with hh | hh
      · rw [hh] at hx'
        rcases Nat.lt_or_gt_of_ne hne with h1 | h1
        · exact h.lists.apart j j' _ h1 hj' hgi hx'
        · exact h.lists.apart j' j _ h1 hi hx' hgi
      · omega
    · rw [upd_ne _ _ _ e]
      exact h.off j j' (by omega) hj' hne x

def lngC (k : Nat → Nat) (gs : Nat → Option Addr) (gc : Nat → Nat) (i : Nat) : List Value := (List.range i).map fun j => .slice (gs j) (k j + 4) (gc j)
theorem lngC_snoc (k : Nat → Nat) (gs : Nat → Option Addr) (gc : Nat → Nat) (i : Nat) : lngC k gs gc (i + 1) = lngC k gs gc i ++ [.slice (gs i) (k i + 4) (gc i)] := by simp [lngC, List.range_succ]
theorem lngC_congr (k : Nat → Nat) (gs gs' : Nat → Option Addr) (gc gc' : Nat → Nat) (i : Nat) (h : ∀ j, j < i → gs j = gs' j ∧ gc j = gc' j) : lngC k gs gc i = lngC k gs' gc' i := by
  unfold lngC
  refine List.map_congr_left fun j hj => ?_
  have := h j (List.mem_range.1 hj)
  rw [this.1, this.2]

/-- asunder, whole: the table's box A, its row of entries, the lists, the longer ones -/
structure AsuS (B A m : Nat) (no : Option Addr) (n nc : Nat) (eo : Option Addr) (ec : Nat) (tx : Nat → ByteArray) (k : Nat → Nat) (z : Nat → Nat → Int) (vs : Nat → Option Addr) (cs : Nat → Nat) (w0 : World) (i q : Nat) (gs : Nat → Option Addr) (gc : Nat → Nat) (v : Value) (u : Nat) (w : World) : Prop where
  below : Below B w0 w
  base : B ≤ w.heap.size
  box : w.rowIs A 28 2 (fun j => #[Value.slice no n nc, .slice eo m ec].getD j undef)
  row : w.ownsRow B 63 2 (.slice eo m ec) m (entC tx k vs cs m)
  asu : Asu B m k z vs cs i q gs gc w
  lng : w.ownsRow B 61 1 v u (lngC k gs gc u)
section
variable {B A m : Nat} {no : Option Addr} {n nc : Nat} {eo : Option Addr} {ec : Nat} {tx : Nat → ByteArray} {k : Nat → Nat} {z : Nat → Nat → Int} {vs : Nat → Option Addr} {cs : Nat → Nat} {w0 : World} {i q : Nat} {gs : Nat → Option Addr} {gc : Nat → Nat} {v : Value} {u : Nat} {w : World}
theorem AsuS.later {w' : World} (h : AsuS B A m no n nc eo ec tx k z vs cs w0 i q gs gc v u w) (hb : Below w.heap.size w w') : AsuS B A m no n nc eo ec tx k z vs cs w0 i q gs gc v u w' :=
  ⟨h.below.trans (hb.mono h.base), Nat.le_trans h.base hb.size, h.box.of_block (hb.block _ h.box.lt), ownC_below h.row hb, h.asu.below hb, ownC_below h.lng hb⟩
theorem AsuS.set (h : AsuS B A m no n nc eo ec tx k z vs cs w0 i q gs gc v u w) (hi : i < m) {g : Nat} (hg : vs i = some ⟨g, 0, none⟩) :
    AsuS B A m no n nc eo ec tx k z vs cs w0 i (q + 1) gs gc v u (w.setCell ⟨g, q, none⟩ (.int .i64 (-(i : Int) - 1))) := by
  have hO : OnlyRow g w (w.setCell ⟨g, q, none⟩ (.int .i64 (-(i : Int) - 1))) := OnlyRow.setCell _ _ _ _
  have hl := h.asu.lists.own i hi
  rw [hg] at hl
  have hbg := (ownC_lt hl (b := g) rfl).2
  refine ⟨hO.below h.below hbg, by simpa using h.base, hO.row h.box ?_, own_only hO h.row fun e => ?_, h.asu.set hi hg, own_only hO h.lng fun e => ?_⟩
  · intro e
    exact own_ne hl h.box (by decide) (by rw [e]; rfl)
  · exact ownC_two h.row hl (by decide) e rfl
  · exact ownC_two h.lng hl (by decide) e rfl
theorem AsuS.append {w' : World} (h : AsuS B A m no n nc eo ec tx k z vs cs w0 i (k i) gs gc v i w) (hi : i < m) {g0 g cap' : Nat} (hg0 : vs i = some ⟨g0, 0, none⟩)
    (hnew : w'.ownsRow B 3 1 (.slice (some ⟨g, 0, none⟩) (k i + 4) cap') (k i + 4) (((List.range (k i)).map fun c => Value.int .i64 (mkZ z i (k i) i c)) ++ List.replicate 4 (.int .i64 (-(i : Int) - 1))))
    (hkeep : w'.ownsRow B 3 1 (.slice (vs i) (k i) (cs i)) (k i) ((List.range (k i)).map fun c => Value.int .i64 (mkZ z i (k i) i c)))
    (hgr : w.grownBy w' (some g0)) (hor : g = g0 ∨ g = w.heap.size) : AsuS B A m no n nc eo ec tx k z vs cs w0 (i + 1) 0 (upd gs i (some ⟨g, 0, none⟩)) (upd gc i cap') v i w' := by
  have hl := h.asu.lists.own i hi
  rw [hg0] at hl
  have hbg := (ownC_lt hl (b := g0) rfl).2
  refine ⟨h.below.grown hgr h.base (fun r hr => by cases hr; exact hbg), Nat.le_trans h.base hgr.size, row_grown hgr h.box ?_, ?_, h.asu.append hi hg0 hnew hkeep hgr hor, ?_⟩
  · exact own_ne hl h.box (by decide)
  · exact own_of_block h.row fun b hb => hgr.block b (ownC_lt h.row hb).1 (ownC_two h.row hl (by decide) hb)
  · rw [lngC_congr k (upd gs i (some ⟨g, 0, none⟩)) gs (upd gc i cap') gc i fun j hj => ⟨upd_ne _ _ _ (by omega), upd_ne _ _ _ (by omega)⟩]
    exact own_of_block h.lng fun b hb => hgr.block b (ownC_lt h.lng hb).1 (ownC_two h.lng hl (by decide) hb)
theorem AsuS.longer {w' : World} {v' : Value} (h : AsuS B A m no n nc eo ec tx k z vs cs w0 (i + 1) 0 gs gc v i w) (hgr : w.grownBy w' v.ownBlock) (hnew : w'.ownsRow B 61 1 v' (i + 1) (lngC k gs gc i ++ [.slice (gs i) (k i + 4) (gc i)])) :
    AsuS B A m no n nc eo ec tx k z vs cs w0 (i + 1) 0 gs gc v' (i + 1) w' := by
  refine ⟨ownC_grown_below h.below h.base h.lng (Nat.le_refl _) hgr, Nat.le_trans h.base hgr.size, row_grown hgr h.box (own_ne h.lng h.box (by decide)), ?_, h.asu.grow h.lng (by decide) hgr, ?_⟩
  · exact own_of_block h.row fun b hb => hgr.block b (ownC_lt h.row hb).1 (ownC_two h.row h.lng (by decide) hb)
  · rw [lngC_snoc]; exact hnew
end

end Go.Proofs.YtpclldccjpncdaaGreat
