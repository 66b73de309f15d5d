import Derived.Test.YtpclldccjpncdabB18
namespace Go.Proofs.Ytpclldccjpncdab
open Go.RowKit

/-! the table that comes of it -/
def mapE (K : Wk) : List En := K.es.map fun e => ⟨e.tx, e.zs.map (plc K.ls)⟩
theorem compE_ok {L : Lay} {s : ByteArray} {rl : List Rl} {ls : List Sp} {es : List En} (hL : L.err = 0) (hrd : rdAll s = (rl, 0, 0)) (h : compE L s = .ok (ls, es)) : ∃ K, rulesE insE (begS L) rl 0 = .ok K ∧ weigh K.ls 0 0 0 = some ls ∧ es = mapE K := by
  unfold compE at h
  rw [if_neg (by simp [hL]), if_neg (by simp [hrd]), hrd] at h
  simp only at h
  cases hr : rulesE insE (begS L) rl 0 with
  | error x => rw [hr] at h; cases h
  | ok K =>
    rw [hr] at h
    simp only at h
    cases hw : weigh K.ls 0 0 0 with
    | none => rw [hw] at h; cases h
    | some ls' =>
      rw [hw] at h
      simp only [Except.ok.injEq, Prod.mk.injEq] at h
      obtain ⟨rfl, rfl⟩ := h
      exact ⟨K, rfl, hw, rfl⟩
theorem compE_no {L : Lay} {s : ByteArray} {rl : List Rl} {e : Int} {a : Nat} (hL : L.err = 0) (hrd : rdAll s = (rl, 0, 0)) (h : compE L s = .error (e, a)) : (e = 14 ∧ a = 0 ∧ ∃ K, rulesE insE (begS L) rl 0 = .ok K ∧ weigh K.ls 0 0 0 = none) ∨ rulesE insE (begS L) rl 0 = .error (e, a) := by
  unfold compE at h
  rw [if_neg (by simp [hL]), if_neg (by simp [hrd]), hrd] at h
  simp only at h
  cases hr : rulesE insE (begS L) rl 0 with
  | error x =>
    rw [hr] at h
    injection h with h
    right
    rw [h]
  | ok K =>
    rw [hr] at h
    simp only at h
    cases hw : weigh K.ls 0 0 0 with
    | none =>
      rw [hw] at h
      injection h with h
      injection h with h1 h2
      exact .inl ⟨h1.symm, h2.symm, K, rfl, hw⟩
    | some ls' => rw [hw] at h; cases h
/-- the table of a state, its list weighed -/
structure IsU (K : Wk) (ls : List Sp) (U : Lay) : Prop where
  n : U.n = ls.length
  m : U.m = K.es.length
  p : ∀ i, U.p i = (ls.getD i default).p
  s : ∀ i, U.s i = (ls.getD i default).s
  t : ∀ i, U.t i = (ls.getD i default).t
  tx : U.tx = txE (mapE K)
  k : U.k = kE (mapE K)
  z : U.z = zE (mapE K)
theorem isU_lys (K : Wk) (ls : List Sp) (no : Option Addr) (nc : Nat) (eo : Option Addr) (ec : Nat) (vs : Nat → Option Addr) (cs : Nat → Nat) : IsU K ls (lysL ls (mapE K) no nc eo ec vs cs) := ⟨rfl, by show (mapE K).length = _; simp [mapE], fun _ => rfl, fun _ => rfl, fun _ => rfl, rfl, rfl, rfl⟩
theorem mapE_at (K : Wk) {i : Nat} (h : i < K.es.length) : (mapE K).getD i default = ⟨(K.es.getD i default).tx, (K.es.getD i default).zs.map (plc K.ls)⟩ := by
  rw [getD_at (by simp [mapE]; exact h), getD_at h]
  simp [mapE]
theorem mapE_out (K : Wk) {i : Nat} (h : ¬ i < K.es.length) : (mapE K).getD i default = default := by
  rw [List.getD_eq_getElem?_getD, List.getElem?_eq_none (by simp [mapE]; omega)]
  rfl
theorem txE_map (K : Wk) : txE (mapE K) = txE K.es := by
  funext i
  unfold txE
  by_cases h : i < K.es.length
  · rw [mapE_at K h]
  · rw [mapE_out K h, List.getD_eq_getElem?_getD, List.getElem?_eq_none (by omega)]
    rfl
theorem IsU.tx' {K : Wk} {ls : List Sp} {U : Lay} (h : IsU K ls U) : U.tx = txE K.es := by rw [h.tx, txE_map]
theorem IsU.wt {K : Wk} {ls : List Sp} {U : Lay} (h : IsU K ls U) (lv c : Nat) : wt U lv c = wtS lv (ls.getD c default) := by
  unfold Go.Proofs.Ytpclldccjpncdab.wt wtS
  rw [h.p, h.s, h.t]
structure TabU (L : Lay) (T : ByteArray → Prop) (c i : Nat) (K : Wk) (ls : List Sp) (U : Lay) : Prop where
  inv : Inv L T c i K
  wg : weigh K.ls 0 0 0 = some ls
  is : IsU K ls U
theorem TabU.len {L : Lay} {T : ByteArray → Prop} {c i : Nat} {K : Wk} {ls : List Sp} {U : Lay} (h : TabU L T c i K ls U) : ls.length = K.ls.length := (weigh_all K.ls zeroS ls h.wg).1
theorem TabU.err {L : Lay} {T : ByteArray → Prop} {c i : Nat} {K : Wk} {ls : List Sp} {U : Lay} (h : TabU L T c i K ls U) : U.err = 0 := by
  have hl := h.len
  have hg := h.inv.good
  refine (err_ok ?_ ?_ ?_ ?_).symm
  · rw [h.is.n, hl]; exact hg.ls
  · rw [h.is.m]; exact hg.es
  · refine (nodesB_true fun j hj => ?_).symm
    rw [h.is.n, hl] at hj
    simp only [h.is.p, h.is.s, h.is.t]
    exact ⟨weigh_node h.wg hj, fun h0 => weigh_above h.wg hj h0⟩
  · refine (entriesB_yes fun j hj => ?_).symm
    rw [h.is.m] at hj
    have he := hg.ent _ (List.getElem_mem hj)
    rw [h.is.tx', h.is.k, h.is.z, h.is.n, hl]
    refine ⟨(entryB_yes ⟨?_, ?_, fun q hq => ?_⟩).symm, fun h0 => ?_⟩
    · unfold txE; rw [getD_at hj]; exact he.1
    · unfold kE
      rw [mapE_at K hj, getD_at hj]
      simp only [List.length_map]
      exact he.2.1
    · unfold kE at hq
      unfold zE
      rw [mapE_at K hj, getD_at hj] at hq ⊢
      simp only [List.length_map] at hq
      have hm : (K.es[j].zs.map (plc K.ls)).getD q 0 = plc K.ls (K.es[j].zs[q]) := by
        rw [List.getD_eq_getElem?_getD, List.getElem?_map, List.getElem?_eq_getElem hq]
        rfl
      simp only [hm]
      have hz := he.2.2 _ (List.getElem_mem hq)
      exact plc_in (hg.name _ hz.1 hz.2)
    · have := List.pairwise_iff_getElem.1 h.inv.sort (j - 1) j (by omega) hj (by omega)
      unfold txE
      rw [getD_at hj, getD_at (by omega)]
      exact this

/-! its nodes of a text -/
def PK (K : Wk) (z : Int) : Nat := (plc K.ls z).toNat
theorem entU {K : Wk} {ls : List Sp} {U : Lay} (h : IsU K ls U) {j : Nat} (hj : j < K.es.length) : entNums U.z U.k j = (K.es.getD j default).zs.map (PK K) := by
  unfold entNums
  rw [h.z, h.k]
  unfold zE kE
  rw [mapE_at K hj]
  simp only [List.length_map]
  refine List.ext_getElem (by simp) fun q h1 h2 => ?_
  simp only [List.length_map, List.length_range] at h1
  simp only [List.getElem_map, List.getElem_range]
  rw [List.getD_eq_getElem?_getD, List.getElem?_map, List.getElem?_eq_getElem h1]
  rfl
theorem numsU {K : Wk} {ls : List Sp} {U : Lay} (h : IsU K ls U) (s : ByteArray) : ∀ q, (∀ j, j < q → 0 < lenAt K.es.length (txE K.es) s (pos K.es.length (txE K.es) s j)) → nums U s q = (numsQ K.es s q).map (PK K)
  | 0, _ => by simp [nums, numsQ]
  | q + 1, hq => by
    have ih := numsU h s q fun j hj => hq j (by omega)
    have ht : isText K.es.length (txE K.es) (piece K.es.length (txE K.es) s q) := lenAt_text (hq q (by omega))
    have hs : numsQ K.es s (q + 1) = numsQ K.es s q ++ look K.es (piece K.es.length (txE K.es) s q) := by
      unfold numsQ
      rw [List.range_succ, List.flatMap_append, List.flatMap_singleton]
    rw [nums_succ, ih, hs, List.map_append]
    congr 1
    rw [h.m, h.tx']
    unfold pidx
    rw [entU h (idx_spec ht).1, look_idx ht]
theorem nodesN_U {K : Wk} {ls : List Sp} {U : Lay} (h : IsU K ls U) {s : ByteArray} {q : Nat} (hc : Cut K.es.length (txE K.es) s q) : nodesN U s = (numsQ K.es s q).map (PK K) := by
  have hc' : Cut U.m U.tx s q := by rw [h.m, h.tx']; exact hc
  unfold nodesN
  rw [cutN_eq hc']
  exact numsU h s q hc.go
theorem entL (L : Lay) {j : Nat} (hj : j < L.m) : entNums L.z L.k j = ((esB L L.m).getD j default).zs.map Int.toNat := by
  rw [esB_at L hj]
  unfold entNums enB
  simp only [List.map_map]
  rfl
theorem numsL (L : Lay) (s : ByteArray) : ∀ q, (∀ j, j < q → 0 < lenAt L.m L.tx s (pos L.m L.tx s j)) → nums L s q = (numsQ (esB L L.m) s q).map Int.toNat
  | 0, _ => by simp [nums, numsQ]
  | q + 1, hq => by
    have ih := numsL L s q fun j hj => hq j (by omega)
    have ht : isText L.m L.tx (piece L.m L.tx s q) := lenAt_text (hq q (by omega))
    have hs : numsQ (esB L L.m) s (q + 1) = numsQ (esB L L.m) s q ++ look (esB L L.m) (piece (esB L L.m).length (txE (esB L L.m)) s q) := by
      unfold numsQ
      rw [List.range_succ, List.flatMap_append, List.flatMap_singleton]
    rw [nums_succ, ih, hs, List.map_append]
    congr 1
    rw [piece_same (fun u => esB_text L u), look_idx ((esB_text L _).2 ht)]
    have he : idx (esB L L.m).length (txE (esB L L.m)) (piece L.m L.tx s q) = idx L.m L.tx (piece L.m L.tx s q) := by
      obtain ⟨i1, i2, i3⟩ := idx_spec ht
      refine idx_eq (by rw [esB_len]; exact i1) (by rw [esB_tx L i1]; exact i2) fun j hj => ?_
      rw [esB_tx L (by omega)]
      exact i3 j hj
    rw [he]
    exact entL L (idx_spec ht).1
theorem nodesN_L {L : Lay} {s : ByteArray} {q : Nat} (hc : Cut L.m L.tx s q) : nodesN L s = (numsQ (esB L L.m) s q).map Int.toNat := by
  unfold nodesN
  rw [cutN_eq hc]
  exact numsL L s q hc.go
/-- the same pieces are at the same places -/
theorem pos_piece {m m' : Nat} {tx tx' : Nat → ByteArray} {s : ByteArray} {q : Nat} (h : ∀ j, j < q → piece m tx s j = piece m' tx' s j) : ∀ j, j ≤ q → pos m tx s j = pos m' tx' s j
  | 0, _ => rfl
  | j + 1, hj => by
    have ih := pos_piece h j (by omega)
    show pos m tx s j + lenAt m tx s (pos m tx s j) = pos m' tx' s j + lenAt m' tx' s (pos m' tx' s j)
    have hp := congrArg ByteArray.size (h j (by omega))
    unfold piece at hp
    rw [size_sub _ _ _ (lenAt_le m tx s _ (pos_le m tx s j)).1, size_sub _ _ _ (lenAt_le m' tx' s _ (pos_le m' tx' s j)).1] at hp
    omega
/-- pieces that no rule names have the nodes that they had -/
theorem numsQ_old {L : Lay} {T : ByteArray → Prop} {c i : Nat} {K : Wk} (hL : L.err = 0) (h : Inv L T c i K) (s : ByteArray) : ∀ q, (∀ j, j < q → 0 < lenAt L.m L.tx s (pos L.m L.tx s j)) → (∀ j, j < q → piece K.es.length (txE K.es) s j = piece L.m L.tx s j) → (∀ j, j < q → ¬ T (piece L.m L.tx s j)) → numsQ K.es s q = numsQ (esB L L.m) s q
  | 0, _, _, _ => by simp [numsQ]
  | q + 1, hg, hp, ht => by
    have ih := numsQ_old hL h s q (fun j hj => hg j (by omega)) (fun j hj => hp j (by omega)) fun j hj => ht j (by omega)
    have hs : ∀ es : List En, numsQ es s (q + 1) = numsQ es s q ++ look es (piece es.length (txE es) s q) := fun es => by
      unfold numsQ
      rw [List.range_succ, List.flatMap_append, List.flatMap_singleton]
    rw [hs, hs, ih, hp q (by omega), piece_same (fun u => esB_text L u)]
    congr 1
    obtain ⟨e, he, hte⟩ := isText_mem.1 ((esB_text L _).2 (lenAt_text (hg q (by omega))))
    have hte' : e.tx = piece L.m L.tx s q := hte
    have hk := h.keep e he (by rw [hte']; exact ht q (by omega))
    rw [← hte', look_mem (sort_once h.sort) hk]
    rw [look_mem (sort_once (esB_sort hL)) he]


/-! keys and order by it -/
theorem old_wt {L : Lay} {T : ByteArray → Prop} {c i : Nat} {K : Wk} {ls : List Sp} {U : Lay} (h : TabU L T c i K ls U) {z : Int} (h0 : 0 ≤ z) (h1 : z < L.n) (lv : Nat) : wt U lv (PK K z) = wt L lv z.toNat := by
  obtain ⟨j, hj, hs⟩ := h.inv.old z.toNat (by omega)
  have hz : ((z.toNat : Nat) : Int) = z := by omega
  rw [hz] at hj
  unfold PK
  rw [hj, Int.toNat_natCast, h.is.wt]
  have hw := ((weigh_all K.ls zeroS ls h.wg).2 j (plc_spec hj).1).2.2.2.1 (by rw [hs]; rfl)
  rw [hw, hs]
  rfl
theorem numsB_in {L : Lay} (hL : L.err = 0) {s : ByteArray} {q : Nat} (hq : ∀ j, j < q → 0 < lenAt L.m L.tx s (pos L.m L.tx s j)) : ∀ z ∈ numsQ (esB L L.m) s q, 0 ≤ z ∧ z < L.n := by
  have hg := begS_good hL
  refine (numsQ_all hg s q fun j hj => ?_).2.2
  show 0 < lenAt (esB L L.m).length (txE (esB L L.m)) s (pos (esB L L.m).length (txE (esB L L.m)) s j)
  rw [lenAt_same (fun u => esB_text L u), pos_same (fun u => esB_text L u)]
  exact hq j hj
/-- a text of the same pieces, none of them named, has the same weights -/
theorem wl_same {L : Lay} {T : ByteArray → Prop} {c i : Nat} {K : Wk} {ls : List Sp} {U : Lay} (hL : L.err = 0) (h : TabU L T c i K ls U) {s : ByteArray} {q : Nat} (hc : Cut L.m L.tx s q) (hc' : Cut U.m U.tx s q) (hp : ∀ j, j < q → piece U.m U.tx s j = piece L.m L.tx s j) (ht : ∀ j, j < q → ¬ T (piece L.m L.tx s j)) (lv : Nat) : wl U s lv = wl L s lv := by
  rw [h.is.m, h.is.tx'] at hc' hp
  unfold wl
  rw [nodesN_U h.is hc', nodesN_L hc, numsQ_old hL h.inv s q hc.go hp ht]
  unfold wts
  rw [List.map_map, List.map_map]
  congr 1
  refine List.map_congr_left fun z hz => ?_
  have := numsB_in hL hc.go z hz
  exact old_wt h this.1 this.2 lv
theorem keyL_same {L U : Lay} {s : ByteArray} (h : ∀ lv, wl U s lv = wl L s lv) : ∀ k, keyL U s k = keyL L s k
  | 0 => rfl
  | k + 1 => by
    unfold keyL
    rw [keyL_same h k, h]
theorem keyL_two {U : Lay} {s s' : ByteArray} (h : nodesN U s = nodesN U s') : ∀ k, keyL U s k = keyL U s' k
  | 0 => rfl
  | k + 1 => by
    unfold keyL wl
    rw [keyL_two h k, h]
theorem cmpL_pre : ∀ (l a b : List Int), cmpL (l ++ a) (l ++ b) = cmpL a b
  | [], _, _ => rfl
  | x :: l, a, b => by
    show (if x < x then -1 else if x < x then 1 else cmpL (l ++ a) (l ++ b)) = _
    rw [if_neg (by omega), if_neg (by omega)]
    exact cmpL_pre l a b
theorem wts_app (U : Lay) (lv : Nat) (a b : List Nat) : wts U lv (a ++ b) = wts U lv a ++ wts U lv b := by
  unfold wts
  rw [List.map_append, List.filter_append]
theorem cmpL_none : ∀ a : List Int, cmpL a a = 0
  | [] => rfl
  | x :: l => by
    unfold cmpL
    rw [if_neg (by omega), if_neg (by omega)]
    exact cmpL_none l
/-- two texts that part in their last node -/
theorem wl_last {U : Lay} {a b : ByteArray} {st : List Nat} {x y : Nat} (ha : nodesN U a = st ++ [x]) (hb : nodesN U b = st ++ [y]) (lv : Nat) : (wt U lv x = wt U lv y → cmpL (wl U a lv) (wl U b lv) = 0) ∧ (0 ≤ wt U lv x → wt U lv x < wt U lv y → cmpL (wl U a lv) (wl U b lv) = -1) := by
  unfold wl
  rw [ha, hb, wts_app, wts_app, cmpL_pre]
  unfold wts
  simp only [List.map_cons, List.map_nil]
  refine ⟨fun e => ?_, fun h0 h1 => ?_⟩
  · rw [e]; exact cmpL_none _
  · have hy : [wt U lv y].filter (fun z => decide (z ≠ 0)) = [wt U lv y] := by
      rw [List.filter_cons_of_pos (by simp; omega)]; rfl
    rw [hy]
    by_cases e : wt U lv x = 0
    · have hx : [wt U lv x].filter (fun z => decide (z ≠ 0)) = [] := by
        rw [List.filter_cons_of_neg (by simp; exact e)]; rfl
      rw [hx]
      rfl
    · have hx : [wt U lv x].filter (fun z => decide (z ≠ 0)) = [wt U lv x] := by
        rw [List.filter_cons_of_pos (by simp; exact e)]; rfl
      rw [hx]
      unfold cmpL
      rw [if_pos h1]
theorem cmpFrom_none {U : Lay} {a b : ByteArray} : ∀ f lv, (∀ k, lv ≤ k → k < lv + f → cmpL (wl U a k) (wl U b k) = 0) → cmpFrom U a b f lv = 0
  | 0, _, _ => rfl
  | f + 1, lv, h => by
    unfold cmpFrom
    rw [if_neg (by simp [h lv (Nat.le_refl _) (by omega)])]
    exact cmpFrom_none f (lv + 1) fun k k1 k2 => h k (by omega) (by omega)
theorem cmpFrom_last {U : Lay} {a b : ByteArray} {r : Int} (hr : r ≠ 0) : ∀ f lv, (∀ k, lv ≤ k → k < lv + f → cmpL (wl U a k) (wl U b k) = 0) → cmpL (wl U a (lv + f)) (wl U b (lv + f)) = r → cmpFrom U a b (f + 1) lv = r
  | 0, lv, _, h1 => by
    unfold cmpFrom
    have h1 : cmpL (wl U a lv) (wl U b lv) = r := h1
    rw [if_pos (by rw [h1]; exact hr)]
    exact h1
  | f + 1, lv, h, h1 => by
    unfold cmpFrom
    rw [if_neg (by simp [h lv (Nat.le_refl _) (by omega)])]
    exact cmpFrom_last hr f (lv + 1) (fun k k1 k2 => h k (by omega) (by omega)) (by rw [show lv + 1 + f = lv + (f + 1) by omega]; exact h1)
theorem stand {K : Wk} {ls : List Sp} {U : Lay} (hu : IsU K ls U) (hw : weigh K.ls 0 0 0 = some ls) {a b : ByteArray} {st : List Nat} {i j v : Nat} (ha : nodesN U a = st ++ [i]) (hb : nodesN U b = st ++ [j]) (h1 : 1 ≤ v) (h3 : v ≤ 3) (hr : RelS K.ls i j v) : cmpFrom U a b v 1 = -1 ∧ cmpFrom U a b (v - 1) 1 = 0 := by
  obtain ⟨r1, r2⟩ := rel_wt hw h1 h3 hr
  have hp := wtS_pos (weigh_node hw (i := i) (by have := hr.1; have := hr.2.1; omega)) v
  have z : ∀ k, 1 ≤ k → k < v → cmpL (wl U a k) (wl U b k) = 0 := fun k k1 k2 => (wl_last ha hb k).1 (by rw [hu.wt, hu.wt]; exact r1 k k1 k2)
  have hv : cmpL (wl U a v) (wl U b v) = -1 := (wl_last ha hb v).2 (by rw [hu.wt]; exact hp) (by rw [hu.wt, hu.wt]; exact r2)
  refine ⟨?_, cmpFrom_none _ _ fun k k1 k2 => z k k1 (by omega)⟩
  have := cmpFrom_last (U := U) (a := a) (b := b) (r := -1) (by decide) (v - 1) 1 (fun k k1 k2 => z k k1 (by omega)) (by rw [show 1 + (v - 1) = v by omega]; exact hv)
  rw [show v - 1 + 1 = v by omega] at this
  exact this
/-- a text that is an entry's is one piece -/
theorem sub_all (u : ByteArray) : sub u 0 u.size = u := by
  unfold sub
  rw [Nat.zero_add]
  exact ByteArray.extract_zero_size
theorem cut_self {m : Nat} {tx : Nat → ByteArray} {u : ByteArray} (h1 : 1 ≤ u.size) (h3 : u.size ≤ 3) (h : isText m tx u) : Cut m tx u 1 ∧ pos m tx u 1 = u.size ∧ piece m tx u 0 = u := by
  have hl : lenAt m tx u 0 = u.size := lenAt_eq (Nat.zero_le _) h3 (by omega) (fun _ => by rw [sub_all]; exact h) fun k k1 _ k3 => by omega
  have hp : pos m tx u 1 = u.size := by
    show 0 + lenAt m tx u 0 = _
    omega
  refine ⟨⟨fun j hj => ?_, ?_⟩, hp, ?_⟩
  · have : j = 0 := by omega
    subst this
    show 0 < lenAt m tx u 0
    omega
  · rw [hp]
    have := lenAt_le m tx u u.size (Nat.le_refl _)
    omega
  · show sub u 0 (lenAt m tx u 0) = u
    rw [hl]; exact sub_all u
theorem nodesN_ent {K : Wk} {ls : List Sp} {U : Lay} (h : IsU K ls U) (hs : SortE K.es) (hg : GoodK K) {e : En} (he : e ∈ K.es) : nodesN U e.tx = e.zs.map (PK K) ∧ hasP U e.tx := by
  have ht : isText K.es.length (txE K.es) e.tx := isText_mem.2 ⟨e, he, rfl⟩
  have hz := (hg.ent e he).1
  obtain ⟨c1, c2, c3⟩ := cut_self hz.1 hz.2 ht
  refine ⟨?_, ?_⟩
  · rw [nodesN_U h c1]
    congr 1
    unfold numsQ
    rw [show List.range 1 = [0] from rfl, List.flatMap_singleton, c3, look_mem (sort_once hs) he]
  · unfold hasP
    have hc' : Cut U.m U.tx e.tx 1 := by rw [h.m, h.tx']; exact c1
    rw [cutN_eq hc', h.m, h.tx']
    exact c2
theorem hasP_of {U : Lay} {s : ByteArray} (h : ∀ p, p < s.size → isText U.m U.tx (sub s p 1)) : hasP U s := by
  obtain ⟨q, hq⟩ := cut_ex U.m U.tx s
  unfold hasP
  rw [cutN_eq hq]
  exact sp_cut h hq
theorem hasP_text {U : Lay} {u : ByteArray} (h1 : 1 ≤ u.size) (h3 : u.size ≤ 3) (h : isText U.m U.tx u) : hasP U u := by
  obtain ⟨c1, c2, _⟩ := cut_self h1 h3 h
  unfold hasP
  rw [cutN_eq c1]
  exact c2

end Go.Proofs.Ytpclldccjpncdab

namespace Go.Proofs.Ytpclldccjpncdab
open Go.RowKit

/-! where a rule puts its node -/
theorem anch_at {K : Wk} (hg : GoodK K) {a : Int} (ha : 0 ≤ a ∧ a < K.names) : ∃ i : Nat, plc K.ls a = (i : Nat) ∧ i < K.ls.length := by
  obtain ⟨h1, h2⟩ := plc_in (hg.name a ha.1 ha.2)
  exact ⟨(plc K.ls a).toNat, by omega, by omega⟩
theorem RuleOk.new_at {K K' : Wk} {r : Rl} {stem : List Int} {anchor : Int} {more : List Int} (h : RuleOk K r K' stem anchor more) (hl : 0 < r.level) (hf : ∀ j, j < K.ls.length → (K.ls.getD j default).name < K.names) : plc K'.ls K'.anchor = ((if r.before = 0 then behindS K.ls anchor r.level else (startS K.ls anchor r.before).toNat : Nat) : Int) := by
  obtain ⟨p1, p2, _⟩ := h.up hl
  rw [p1, p2]
  refine plc_new (x := ⟨K.names, r.level, false, 0, 0, 0⟩) h.at_le fun j hj => ?_
  have := hf j hj
  show _ ≠ K.names
  omega
theorem RuleOk.rel {K K' : Wk} {r : Rl} {stem : List Int} {anchor : Int} {more : List Int} (h : RuleOk K r K' stem anchor more) (hl : 0 < r.level) (hg : GoodK K) (hf : ∀ j, j < K.ls.length → (K.ls.getD j default).name < K.names) (ha : 0 ≤ anchor ∧ anchor < K.names) :
    (r.before = 0 → RelS K'.ls (PK K' anchor) (PK K' K'.anchor) r.level) ∧ (r.before ≠ 0 → RelS K'.ls (PK K' K'.anchor) (PK K' anchor) r.level) := by
  obtain ⟨i, hi, hlt⟩ := anch_at hg ha
  have hn := h.new_at hl hf
  obtain ⟨p1, p2, _⟩ := h.up hl
  have hle := h.at_le
  refine ⟨fun hb => ?_, fun hb => ?_⟩
  · rw [if_pos hb] at p1 hn hle
    unfold PK
    rw [hn, p1, plc_ins hle hi (by show K.names ≠ _; omega)]
    obtain ⟨r1, r2⟩ := rel_behind (x := ⟨K.names, r.level, false, 0, 0, 0⟩) hi (v := r.level) rfl
    rw [if_pos r2, Int.toNat_natCast, Int.toNat_natCast]
    exact r1
  · have hbb : r.level = r.before ∧ ¬ startS K.ls anchor r.before < 0 := by
      have := h.bef
      by_cases e : r.level = r.before
      · refine ⟨e, fun hs => this ⟨hb, .inr hs⟩⟩
      · exact absurd ⟨hb, .inl e⟩ this
    rw [if_neg hb] at p1 hn hle
    unfold PK
    rw [hn, p1, plc_ins hle hi (by show K.names ≠ _; omega)]
    obtain ⟨r1, r2⟩ := rel_before (x := ⟨K.names, r.level, false, 0, 0, 0⟩) hi (v := r.before) hbb.2
    rw [if_neg (by omega), Int.toNat_natCast, Int.toNat_natCast, hbb.1]
    rw [hbb.1] at r1
    exact r1
/-- it stays so -/
theorem RuleOk.rel_keep {K K' : Wk} {r : Rl} {stem : List Int} {anchor : Int} {more : List Int} (h : RuleOk K r K' stem anchor more) (hl : 0 < r.level) (hg : GoodK K) {a b v : Int} (ha : 0 ≤ a ∧ a < K.names) (hb : 0 ≤ b ∧ b < K.names) (hv : v ≤ r.level) (hr : RelS K.ls (PK K a) (PK K b) v) : RelS K'.ls (PK K' a) (PK K' b) v := by
  obtain ⟨i, hi, _⟩ := anch_at hg ha
  obtain ⟨j, hj, _⟩ := anch_at hg hb
  obtain ⟨p1, _, _⟩ := h.up hl
  unfold PK at hr ⊢
  rw [hi, hj, Int.toNat_natCast, Int.toNat_natCast] at hr
  rw [p1, plc_ins h.at_le hi (by show K.names ≠ _; omega), plc_ins h.at_le hj (by show K.names ≠ _; omega), Int.toNat_natCast, Int.toNat_natCast]
  exact relS_ins h.at_le hr hv
theorem numsE_nil {K : Wk} (hg : GoodK K) {s : ByteArray} (h0 : s.size = 0) {l : List Int} (h : numsE K.es s = some l) : l = [] := by
  have := (numsE_all hg h).1
  rw [h0] at this
  exact List.length_eq_zero_iff.1 (by omega)
theorem last_app {l : List Int} (h : l ≠ []) : l = l.dropLast ++ [l.getLastD 0] := by
  conv => lhs; rw [← List.dropLast_concat_getLast h]
  congr 2
  rw [List.getLastD_eq_getLast?, List.getLast?_eq_some_getLast h]
  rfl
theorem RuleOk.reset_is {K K' : Wk} {r : Rl} {stem : List Int} {anchor : Int} {more : List Int} (h : RuleOk K r K' stem anchor more) (hg : GoodK K) (h0 : r.reset.size ≠ 0) : numsE K.es r.reset = some (stem ++ [anchor]) ∧ (0 ≤ anchor ∧ anchor < K.names) ∧ ∀ z ∈ stem, 0 ≤ z ∧ z < K.names := by
  have hr := h.hreset
  rw [if_pos h0] at hr
  cases hn : numsE K.es r.reset with
  | none => rw [hn] at hr; cases hr
  | some l =>
    rw [hn] at hr
    simp only [Option.map_some, Option.some.injEq, Prod.mk.injEq] at hr
    obtain ⟨_, b2, b3⟩ := numsE_all hg hn
    have hl := last_app (b2 h0)
    rw [hr.1, hr.2] at hl
    rw [hl] at b3
    refine ⟨by rw [hl], b3 anchor (by simp), fun z hz => b3 z (by simp [hz])⟩
/-- the nodes of a text of the table, by a state whose entries cut it so and name none of its pieces -/
theorem numsE_cut {es : List En} {s : ByteArray} {q : Nat} {l : List Int} (h : numsE es s = some l) (hc : Cut es.length (txE es) s q) : numsQ es s q = l := by
  by_cases hp : pos es.length (txE es) s q = s.size
  · rw [numsE_some hc hp] at h
    injection h
  · rw [numsE_none hc hp] at h
    cases h
theorem cutB {L : Lay} {s : ByteArray} {q : Nat} (hc : Cut L.m L.tx s q) : Cut (esB L L.m).length (txE (esB L L.m)) s q := (cut_same (fun u => esB_text L u) s q).2 hc

/-! Placed -/
theorem placed_pure {L : Lay} {r : Rl} {K : Wk} {ls : List Sp} {U : Lay} (hL : L.err = 0) (hr : r.ok) (h0 : r.reset.size ≠ 0) (hm : r.more.size = 0) (he : rulesE insE (begS L) [r] 0 = .ok K) (hw : weigh K.ls 0 0 0 = some ls) (hu : IsU K ls U) :
    TabU L (fun u => u = r.text) (lvC r) 1 K ls U ∧ hasP U r.text ∧ ∀ q, Cut L.m L.tx r.reset q → Cut U.m U.tx r.reset q → (∀ j, j < q → piece U.m U.tx r.reset j = piece L.m L.tx r.reset j) → (∀ j, j < q → piece L.m L.tx r.reset j ≠ r.text) →
      (r.level = 0 → nodesN U r.reset = nodesN U r.text) ∧
      (0 < r.level → r.before = 0 → cmpFrom U r.reset r.text r.level.toNat 1 = -1 ∧ cmpFrom U r.reset r.text (r.level.toNat - 1) 1 = 0) ∧
      (0 < r.level → r.before ≠ 0 → cmpFrom U r.text r.reset r.level.toNat 1 = -1 ∧ cmpFrom U r.text r.reset (r.level.toNat - 1) 1 = 0) := by
  have hi := inv_start hL
  have he1 : ruleE insE (begS L) r = .ok K := by
    unfold rulesE at he
    cases hq : ruleE insE (begS L) r with
    | error e => rw [hq] at he; cases he
    | ok K2 =>
      rw [hq] at he
      injection he with he
      rw [he]
  obtain ⟨h1, a1⟩ := inv_step hi hr (.inl h0) he1
  obtain ⟨stem, anchor, more, ho⟩ := ruleE_ok he1
  have hmo := numsE_nil hi.good hm ho.hmore
  subst hmo
  obtain ⟨n1, n2, n3⟩ := ho.reset_is hi.good h0
  have hT : TabU L (fun u => u = r.text) (lvC r) 1 K ls U := by
    refine ⟨⟨h1.good, h1.sort, h1.old, h1.fresh, h1.sub, fun e he hn => h1.keep e he fun ht => hn (ht.resolve_left id), h1.text, fun e he => (h1.only e he).imp id fun ht => ht.resolve_left id, ?_, ?_⟩, hw, hu⟩
    · rw [h1.ln]; omega
    · have := h1.em
      omega
  have hmem : (⟨r.text, stem ++ [K.anchor]⟩ : En) ∈ K.es := by
    have := ho.hes
    rw [List.append_nil] at this
    rw [this]
    exact (insE_mem hi.sort _ _).2 (.inl rfl)
  obtain ⟨t1, t2⟩ := nodesN_ent hu h1.sort h1.good hmem
  have t1 : nodesN U r.text = (stem ++ [K.anchor]).map (PK K) := t1
  refine ⟨hT, t2, fun q hc hc' hp ht => ?_⟩
  have hR : nodesN U r.reset = (stem ++ [anchor]).map (PK K) := by
    rw [hu.m, hu.tx'] at hc' hp
    rw [nodesN_U hu hc', numsQ_old hL hT.inv r.reset q hc.go hp ht]
    rw [numsE_cut (es := esB L L.m) n1 (cutB hc)]
  rw [List.map_append] at t1 hR
  have hlv := hr.2.2.2.1
  refine ⟨fun hz => ?_, fun hl hb => ?_, fun hl hb => ?_⟩
  · rw [hR, t1, (ho.zero (by omega)).2.1]
  · have hrel := (ho.rel hl hi.good hi.fresh n2).1 hb
    rw [show r.level = ((r.level.toNat : Nat) : Int) by omega] at hrel
    exact stand hu hw hR t1 (by omega) (by omega) hrel
  · have hrel := (ho.rel hl hi.good hi.fresh n2).2 hb
    rw [show r.level = ((r.level.toNat : Nat) : Int) by omega] at hrel
    exact stand hu hw t1 hR (by omega) (by omega) hrel

end Go.Proofs.Ytpclldccjpncdab

namespace Go.Proofs.Ytpclldccjpncdab
open Go.RowKit

/-! a text of which no part is named -/
theorem lenAt_sub {m m' : Nat} {tx tx' : Nat → ByteArray} {s : ByteArray} {p : Nat} (h : ∀ k, 1 ≤ k → k ≤ 3 → p + k ≤ s.size → (isText m tx (sub s p k) ↔ isText m' tx' (sub s p k))) : lenAt m tx s p = lenAt m' tx' s p := by
  have key : ∀ k, 1 ≤ k → k ≤ 3 → ((p + k ≤ s.size ∧ isText m tx (sub s p k)) ↔ (p + k ≤ s.size ∧ isText m' tx' (sub s p k))) := fun k h1 h3 => by
    constructor
    · rintro ⟨a, b⟩
      exact ⟨a, (h k h1 h3 a).1 b⟩
    · rintro ⟨a, b⟩
      exact ⟨a, (h k h1 h3 a).2 b⟩
  unfold lenAt
  have k3 := key 3 (by omega) (by omega)
  have k2 := key 2 (by omega) (by omega)
  have k1 := key 1 (by omega) (by omega)
  by_cases c3 : p + 3 ≤ s.size ∧ isText m tx (sub s p 3)
  · rw [if_pos c3, if_pos (k3.1 c3)]
  · rw [if_neg c3, if_neg fun h => c3 (k3.2 h)]
    by_cases c2 : p + 2 ≤ s.size ∧ isText m tx (sub s p 2)
    · rw [if_pos c2, if_pos (k2.1 c2)]
    · rw [if_neg c2, if_neg fun h => c2 (k2.2 h)]
      by_cases c1 : p + 1 ≤ s.size ∧ isText m tx (sub s p 1)
      · rw [if_pos c1, if_pos (k1.1 c1)]
      · rw [if_neg c1, if_neg fun h => c1 (k1.2 h)]
theorem inv_text {L : Lay} {T : ByteArray → Prop} {c i : Nat} {K : Wk} (h : Inv L T c i K) {u : ByteArray} (hu : ¬ T u) : isText K.es.length (txE K.es) u ↔ isText L.m L.tx u := by
  refine ⟨fun ht => ?_, h.text u⟩
  obtain ⟨e, he, rfl⟩ := isText_mem.1 ht
  rcases h.only e he with h1 | h1
  · exact (esB_text L e.tx).1 (isText_mem.2 ⟨e, h1, rfl⟩)
  · exact absurd h1 hu
/-- no part of the text is named -/
def FreeT (T : ByteArray → Prop) (s : ByteArray) : Prop := ∀ p k, 1 ≤ k → k ≤ 3 → p + k ≤ s.size → ¬ T (sub s p k)
theorem free_len {L : Lay} {T : ByteArray → Prop} {c i : Nat} {K : Wk} (h : Inv L T c i K) {s : ByteArray} (hf : FreeT T s) (p : Nat) : lenAt K.es.length (txE K.es) s p = lenAt L.m L.tx s p := lenAt_sub fun k h1 h3 hp => inv_text h (hf p k h1 h3 hp)
theorem free_pos {L : Lay} {T : ByteArray → Prop} {c i : Nat} {K : Wk} (h : Inv L T c i K) {s : ByteArray} (hf : FreeT T s) : ∀ q, pos K.es.length (txE K.es) s q = pos L.m L.tx s q
  | 0 => rfl
  | q + 1 => by
    show pos K.es.length (txE K.es) s q + lenAt K.es.length (txE K.es) s (pos K.es.length (txE K.es) s q) = pos L.m L.tx s q + lenAt L.m L.tx s (pos L.m L.tx s q)
    rw [free_pos h hf q, free_len h hf]
theorem free_cut {L : Lay} {T : ByteArray → Prop} {c i : Nat} {K : Wk} (h : Inv L T c i K) {s : ByteArray} (hf : FreeT T s) {q : Nat} (hc : Cut L.m L.tx s q) : Cut K.es.length (txE K.es) s q := ⟨fun j hj => by rw [free_pos h hf, free_len h hf]; exact hc.go j hj, by rw [free_pos h hf, free_len h hf]; exact hc.stop⟩
theorem free_piece {L : Lay} {T : ByteArray → Prop} {c i : Nat} {K : Wk} (h : Inv L T c i K) {s : ByteArray} (hf : FreeT T s) (j : Nat) : piece K.es.length (txE K.es) s j = piece L.m L.tx s j := by
  unfold piece
  rw [free_pos h hf, free_len h hf]
theorem free_named {L : Lay} {T : ByteArray → Prop} {s : ByteArray} (hf : FreeT T s) {q : Nat} (hc : Cut L.m L.tx s q) : ∀ j, j < q → ¬ T (piece L.m L.tx s j) := fun j hj => by
  have h1 := hc.go j hj
  have h2 := lenAt_le L.m L.tx s _ (pos_le L.m L.tx s j)
  exact hf _ _ h1 h2.2 h2.1
theorem free_nums {L : Lay} {T : ByteArray → Prop} {c i : Nat} {K : Wk} (hL : L.err = 0) (h : Inv L T c i K) {s : ByteArray} (hf : FreeT T s) : numsE K.es s = numsE (esB L L.m) s := by
  obtain ⟨q, hq⟩ := cut_ex L.m L.tx s
  have hk := free_cut h hf hq
  have hb := cutB hq
  have hs := numsQ_old hL h s q hq.go (fun j _ => free_piece h hf j) (free_named hf hq)
  by_cases hp : pos L.m L.tx s q = s.size
  · rw [numsE_some hk (by rw [free_pos h hf]; exact hp), numsE_some hb (by rw [pos_same (fun u => esB_text L u)]; exact hp), hs]
  · rw [numsE_none hk (by rw [free_pos h hf]; exact hp), numsE_none hb (by rw [pos_same (fun u => esB_text L u)]; exact hp)]
theorem free_nodes {L : Lay} {T : ByteArray → Prop} {c i : Nat} {K : Wk} {ls : List Sp} {U : Lay} (hL : L.err = 0) (h : Inv L T c i K) (hu : IsU K ls U) {s : ByteArray} (hf : FreeT T s) {l : List Int} (hl : numsE (esB L L.m) s = some l) : nodesN U s = l.map (PK K) := by
  obtain ⟨q, hq⟩ := cut_ex L.m L.tx s
  rw [nodesN_U hu (free_cut h hf hq), numsE_cut (by rw [free_nums hL h hf]; exact hl) (free_cut h hf hq)]

/-! the first chain -/
theorem rules3 {K0 K3 : Wk} {a b c : Rl} {i : Nat} (h : rulesE insE K0 [a, b, c] i = .ok K3) : ∃ K1 K2, ruleE insE K0 a = .ok K1 ∧ ruleE insE K1 b = .ok K2 ∧ ruleE insE K2 c = .ok K3 := by
  unfold rulesE at h
  cases h1 : ruleE insE K0 a with
  | error e => rw [h1] at h; cases h
  | ok K1 =>
    rw [h1] at h
    simp only at h
    unfold rulesE at h
    cases h2 : ruleE insE K1 b with
    | error e => rw [h2] at h; cases h
    | ok K2 =>
      rw [h2] at h
      simp only at h
      unfold rulesE at h
      cases h3 : ruleE insE K2 c with
      | error e => rw [h3] at h; cases h
      | ok K3' =>
        rw [h3] at h
        injection h with h
        exact ⟨K1, K2, rfl, h2, by rw [h3, h]⟩
/-- two texts stand so by a table -/
def StandC (U : Lay) (a b : ByteArray) (n : Nat) : Prop := cmpFrom U a b n 1 = -1 ∧ cmpFrom U a b (n - 1) 1 = 0
structure ChainP (L : Lay) (R tX tY tZ e0 : ByteArray) (n : Nat) : Prop where
  err : L.err = 0
  r0 : R.size ≠ 0
  r6 : R.size ≤ 6
  e : e0.size = 0
  x : 1 ≤ tX.size ∧ tX.size ≤ 3
  y : 1 ≤ tY.size ∧ tY.size ≤ 3
  z : 1 ≤ tZ.size ∧ tZ.size ≤ 3
  xy : tX ≠ tY
  xz : tX ≠ tZ
  yz : tY ≠ tZ
  n1 : 1 ≤ n
  n3 : n ≤ 3
  sp : ∀ p, p < R.size → isText L.m L.tx (sub R p 1)
  free : FreeT (fun u => u = tX ∨ u = tY ∨ u = tZ) R
  ln : L.n ≤ 40
  lm : L.m ≤ 40
theorem ChainP.okR {L : Lay} {R tX tY tZ e0 : ByteArray} {n : Nat} (h : ChainP L R tX tY tZ e0 n) (r t : ByteArray) (hr : r.size ≤ 6) (ht : 1 ≤ t.size ∧ t.size ≤ 3) : (Rl.mk r 0 (n : Nat) t e0).ok := by
  have := h.n1
  have := h.n3
  have := h.e
  refine ⟨ht, by show e0.size ≤ 6; omega, hr, ⟨by show (0 : Int) ≤ (n : Nat); omega, by show ((n : Nat) : Int) ≤ 3; omega⟩, ⟨Int.le_refl 0, by show (0 : Int) ≤ 3; omega⟩, .inl rfl⟩
theorem anch_next {K K' : Wk} {r : Rl} {stem : List Int} {anchor : Int} {more : List Int} (h : RuleOk K r K' stem anchor more) (h0 : r.reset.size = 0) : stem = K.stem ∧ anchor = K.anchor := by
  have := h.hreset
  rw [if_neg (by simp [h0])] at this
  simp only [Option.some.injEq, Prod.mk.injEq] at this
  exact ⟨this.1.symm, this.2.symm⟩
theorem chain1 {L : Lay} {R tX tY tZ e0 : ByteArray} {n : Nat} (h : ChainP L R tX tY tZ e0 n) {K : Wk} {ls : List Sp} {U : Lay} (he : rulesE insE (begS L) [⟨R, 0, (n : Nat), tX, e0⟩, ⟨e0, 0, (n : Nat), tY, e0⟩, ⟨e0, 0, (n : Nat), tZ, e0⟩] 0 = .ok K) (hw : weigh K.ls 0 0 0 = some ls) (hu : IsU K ls U) :
    U.err = 0 ∧ hasP U R ∧ hasP U tX ∧ hasP U tY ∧ hasP U tZ ∧ StandC U R tX n ∧ StandC U tX tY n ∧ StandC U tY tZ n := by
  have hn1 := h.n1
  obtain ⟨K1, K2, e1, e2, e3⟩ := rules3 he
  have i0 := inv_start h.err
  obtain ⟨i1, a1⟩ := inv_step i0 (h.okR R tX h.r6 h.x) (.inl h.r0) e1
  obtain ⟨i2, a2⟩ := inv_step i1 (h.okR e0 tY (by rw [h.e]; omega) h.y) (.inr a1) e2
  obtain ⟨i3, a3⟩ := inv_step i2 (h.okR e0 tZ (by rw [h.e]; omega) h.z) (.inr a2) e3
  obtain ⟨s1, c1, m1, o1⟩ := ruleE_ok e1
  obtain ⟨s2, c2, m2, o2⟩ := ruleE_ok e2
  obtain ⟨s3, c3, m3, o3⟩ := ruleE_ok e3
  have hl : (0 : Int) < (n : Nat) := by omega
  have q1 := numsE_nil i0.good h.e o1.hmore
  have q2 := numsE_nil i1.good h.e o2.hmore
  have q3 := numsE_nil i2.good h.e o3.hmore
  subst q1 q2 q3
  obtain ⟨n1, n2, n3⟩ := o1.reset_is i0.good h.r0
  obtain ⟨x1, x2⟩ := anch_next o2 h.e
  obtain ⟨x3, x4⟩ := anch_next o3 h.e
  have x1 : s2 = s1 := by rw [x1]; exact o1.hstem
  have x3 : s3 = s1 := by rw [x3, o2.hstem]; exact x1
  subst x1 x3
  subst x2 x4
  obtain ⟨_, u1, v1⟩ := o1.up hl
  obtain ⟨_, u2, v2⟩ := o2.up hl
  obtain ⟨_, u3, v3⟩ := o3.up hl
  have A1 := a1.anchor
  have A2 := a2.anchor
  have A3 := a3.anchor
  -- the relations
  have R1 := (o1.rel hl i0.good i0.fresh n2).1 rfl
  have R1 := o2.rel_keep hl i1.good (by rw [v1]; omega) A1 (Int.le_refl _) R1
  have R1 := o3.rel_keep hl i2.good (by rw [v2, v1]; omega) (by rw [v2]; omega) (Int.le_refl _) R1
  have R2 := (o2.rel hl i1.good i1.fresh A1).1 rfl
  have R2 := o3.rel_keep hl i2.good (by rw [v2]; omega) A2 (Int.le_refl _) R2
  have R3 := (o3.rel hl i2.good i2.fresh A2).1 rfl
  -- the entries
  have E1 := o1.hes
  have E2 := o2.hes
  have E3 := o3.hes
  rw [List.append_nil] at E1 E2 E3
  have m1 : (⟨tX, s3 ++ [K1.anchor]⟩ : En) ∈ K.es := by
    rw [E3]
    refine (insE_mem i2.sort _ _).2 (.inr ⟨?_, h.xz⟩)
    rw [E2]
    refine (insE_mem i1.sort _ _).2 (.inr ⟨?_, h.xy⟩)
    rw [E1]
    exact (insE_mem i0.sort _ _).2 (.inl rfl)
  have m2 : (⟨tY, s3 ++ [K2.anchor]⟩ : En) ∈ K.es := by
    rw [E3]
    refine (insE_mem i2.sort _ _).2 (.inr ⟨?_, h.yz⟩)
    rw [E2]
    exact (insE_mem i1.sort _ _).2 (.inl rfl)
  have m3 : (⟨tZ, s3 ++ [K.anchor]⟩ : En) ∈ K.es := by
    rw [E3]
    exact (insE_mem i2.sort _ _).2 (.inl rfl)
  obtain ⟨p1, p2⟩ := nodesN_ent hu i3.sort i3.good m1
  obtain ⟨p3, p4⟩ := nodesN_ent hu i3.sort i3.good m2
  obtain ⟨p5, p6⟩ := nodesN_ent hu i3.sort i3.good m3
  have hf : FreeT (fun u => ((False ∨ u = tX) ∨ u = tY) ∨ u = tZ) R := fun p k k1 k3 hp ht => h.free p k k1 k3 hp (by rcases ht with ((ht | ht) | ht) | ht; exact ht.elim; exact .inl ht; exact .inr (.inl ht); exact .inr (.inr ht))
  have pr := free_nodes h.err i3 hu hf n1
  rw [List.map_append] at p1 p3 p5 pr
  have hT : TabU L _ _ _ K ls U := ⟨i3, hw, hu⟩
  refine ⟨hT.err, hasP_of fun p hp => ?_, p2, p4, p6, ?_, ?_, ?_⟩
  · rw [hu.m, hu.tx']
    exact i3.text _ (h.sp p hp)
  · exact stand hu hw pr p1 h.n1 h.n3 R1
  · exact stand hu hw p1 p3 h.n1 h.n3 R2
  · exact stand hu hw p3 p5 h.n1 h.n3 R3

end Go.Proofs.Ytpclldccjpncdab

namespace Go.Proofs.Ytpclldccjpncdab
open Go.RowKit

/-! the second chain -/
theorem beh_eq (l : List Sp) (lev : Int) : ∀ d i j, j - i = d → i ≤ j → j ≤ l.length → (∀ k, i ≤ k → k < j → lev < (l.getD k default).str) → (j < l.length → (l.getD j default).str ≤ lev) → beh l lev i = j
  | 0, i, j, hd, hij, hj, _, h2 => by
    have : i = j := by omega
    subst this
    rw [beh, if_neg]
    rintro ⟨a, b⟩
    have := h2 a
    omega
  | d + 1, i, j, hd, hij, hj, h1, h2 => by
    rw [beh, if_pos ⟨by omega, h1 i (Nat.le_refl _) (by omega)⟩]
    exact beh_eq l lev d (i + 1) j (by omega) (by omega) hj (fun k k1 k2 => h1 k (by omega) k2) h2
theorem behindS_eq {l : List Sp} {an lev : Int} {i j : Nat} (hp : plc l an = (i : Nat)) (hij : i < j) (hj : j ≤ l.length) (h1 : ∀ k, i < k → k < j → lev < (l.getD k default).str) (h2 : j < l.length → (l.getD j default).str ≤ lev) : behindS l an lev = j := by
  unfold behindS
  rw [hp, show ((i : Int) + 1).toNat = i + 1 by omega]
  exact beh_eq l lev _ (i + 1) j rfl (by omega) hj (fun k k1 k2 => h1 k (by omega) k2) h2
theorem behindS_spec {l : List Sp} {an lev : Int} {i : Nat} (hp : plc l an = (i : Nat)) : i < behindS l an lev ∧ behindS l an lev ≤ l.length ∧ (∀ k, i < k → k < behindS l an lev → lev < (l.getD k default).str) ∧ (behindS l an lev < l.length → (l.getD (behindS l an lev) default).str ≤ lev) := by
  have hi := (plc_spec hp).1
  have hle := behindS_le l an lev
  have e : behindS l an lev = beh l lev (i + 1) := by
    unfold behindS
    rw [hp, show ((i : Int) + 1).toNat = i + 1 by omega]
  have hb := (beh_all l lev _ (i + 1) (Nat.le_refl _)).1
  obtain ⟨s1, s2⟩ := beh_spec l lev _ (i + 1) (Nat.le_refl _)
  rw [← e] at hb s1 s2
  exact ⟨by omega, hle, fun k k1 k2 => s1 k (by omega) k2, s2⟩
theorem ruleE_fine {K : Wk} {r : Rl} {stem : List Int} {anchor : Int} (hq : SortE K.es) (hm : numsE K.es r.more = some []) (hr : numsE K.es r.reset = some (stem ++ [anchor])) (h0 : r.reset.size ≠ 0) (hb : r.before = 0) (h4 : (stem ++ [anchor]).length ≤ 4) (hl : K.ls.length < 48) (hes : K.es.length < 48) : ∃ K', ruleE insE K r = .ok K' := by
  unfold ruleE
  rw [hm]
  simp only
  have hs : (if r.reset.size ≠ 0 then (numsE K.es r.reset).map (fun l => (l.dropLast, l.getLastD 0)) else some (K.stem, K.anchor)) = some (stem, anchor) := by
    rw [if_pos h0, hr]
    simp
  rw [hs]
  simp only
  rw [if_neg (by simp [hb])]
  have key : ∀ K2 : Wk, K2.ls.length ≤ K.ls.length + 1 → K2.es = K.es → (K2.stem ++ [K2.anchor]).length ≤ 4 → ∃ K', (if 4 < (K2.stem ++ [K2.anchor] ++ []).length then (Except.error 12 : Except Int Wk) else if 48 < K2.ls.length ∨ 48 < (insE K2.es ⟨r.text, K2.stem ++ [K2.anchor] ++ []⟩).length then .error 13 else .ok { K2 with es := insE K2.es ⟨r.text, K2.stem ++ [K2.anchor] ++ []⟩ }) = .ok K' := by
    intro K2 h2 h3 h5
    rw [if_neg (by rw [List.append_nil]; omega), if_neg]
    · exact ⟨_, rfl⟩
    · rw [h3]
      have := insE_lenI hq ⟨r.text, K2.stem ++ [K2.anchor] ++ []⟩
      omega
  refine key _ ?_ ?_ ?_
  · split
    · show (K.ls.take _ ++ [_] ++ K.ls.drop _).length ≤ _
      simp
      omega
    · exact Nat.le_succ _
  · split <;> rfl
  · split
    · show (stem ++ [K.names]).length ≤ 4
      simpa using h4
    · exact h4
theorem insS_app {P Q : List Sp} {x : Sp} {a : Nat} (h : a = P.length) : insS (P ++ Q) a x = P ++ x :: Q := by
  subst h
  unfold insS
  rw [List.take_left, List.drop_left, List.append_assoc]
  rfl
/-- of two new nodes of one strength the weights are the same -/
theorem wgt_new {p s t v : Int} {x x' : Sp} (hx : x.old = false) (hx' : x'.old = false) (h : x.str = v) (h' : x'.str = v) (hv : v = 1 ∨ v = 2 ∨ v = 3) : (wgt p s t x).p = (wgt p s t x').p ∧ (wgt p s t x).s = (wgt p s t x').s ∧ (wgt p s t x).t = (wgt p s t x').t ∧ (wgt p s t x).str = (wgt p s t x').str ∧ (v = 1 → (wgt p s t x).p = p + 1 ∧ (wgt p s t x).s = 8 ∧ (wgt p s t x).t = 8) ∧ (v = 2 → (wgt p s t x).p = p ∧ (wgt p s t x).s = s + 1 ∧ (wgt p s t x).t = 8) ∧ (v = 3 → (wgt p s t x).p = p ∧ (wgt p s t x).s = s ∧ (wgt p s t x).t = t + 1) := by
  unfold wgt
  rw [hx, hx', h, h']
  rcases hv with rfl | rfl | rfl
  · simp
  · simp
  · simp
theorem okW_same {p s t : Int} {y y' : Sp} (h : y.p = y'.p ∧ y.s = y'.s ∧ y.t = y'.t ∧ y.str = y'.str) : okW p s t y = okW p s t y' := by
  unfold okW
  rw [h.1, h.2.1, h.2.2.1, h.2.2.2]
theorem okW_less {p s t v : Int} {q : Sp} (hq : q.str ≤ v) (hv : v = 1 ∨ v = 2 ∨ v = 3) {p1 s1 t1 p2 s2 t2 : Int} (h1 : v = 1 → (p1 = p + 1 ∧ s1 = 8 ∧ t1 = 8) ∧ p2 = p + 2 ∧ s2 = 8 ∧ t2 = 8) (h2 : v = 2 → (p1 = p ∧ s1 = s + 1 ∧ t1 = 8) ∧ p2 = p ∧ s2 = s + 2 ∧ t2 = 8) (h3 : v = 3 → (p1 = p ∧ s1 = s ∧ t1 = t + 1) ∧ p2 = p ∧ s2 = s ∧ t2 = t + 2) (h : okW p2 s2 t2 q = true) : okW p1 s1 t1 q = true := by
  have hvq := (okW_step (a := ⟨0, 0, false, p2, s2, t2⟩) h)
  obtain ⟨⟨d1, d2⟩, d3, _, d5⟩ := hvq
  have w1 : ∀ x : Sp, wtS 1 x = x.p := fun _ => rfl
  have w2 : ∀ x : Sp, wtS 2 x = x.s := fun _ => rfl
  have w3 : ∀ x : Sp, wtS 3 x = x.t := fun _ => rfl
  have A1 := d1 1 (by omega) (by omega)
  have A2 := d1 2 (by omega) (by omega)
  have B1 := d2 1 (by omega) (by omega)
  have B2 := d2 2 (by omega) (by omega)
  have B3 := d2 3 (by omega) (by omega)
  simp only [w1, w2, w3] at A1 A2 B1 B2 B3
  unfold okW
  rw [d3, Bool.and_true, Bool.and_eq_true, decide_eq_true_eq]
  unfold aboveB stI
  rcases d5 with e | e | e
  · have hp := B1 (by rw [e]; rfl)
    have hlt : p1 < q.p := by
      rcases hv with e' | e' | e'
      · have := h1 e'
        omega
      · have := h2 e'
        omega
      · have := h3 e'
        omega
    rw [if_neg (by omega), if_pos (by omega), e]
    exact ⟨by simpa using hlt, rfl⟩
  · have hp := A1 (by rw [e]; decide)
    have hs := B2 (by rw [e]; rfl)
    have hv2 : v = 2 ∨ v = 3 := by omega
    have hpe : q.p = p1 ∧ s1 < q.s := by
      rcases hv2 with e' | e'
      · have := h2 e'
        omega
      · have := h3 e'
        omega
    rw [if_pos hpe.1, if_neg (by omega), if_neg (by omega), if_pos (by omega), e]
    exact ⟨by simpa using hpe.2, rfl⟩
  · have hp := A1 (by rw [e]; decide)
    have hs := A2 (by rw [e]; decide)
    have ht := B3 (by rw [e]; rfl)
    have hv3 : v = 3 := by omega
    have := h3 hv3
    have hpe : q.p = p1 ∧ q.s = s1 ∧ t1 < q.t := by omega
    rw [if_pos hpe.1, if_pos hpe.2.1, if_neg (by omega), if_neg (by omega), e]
    exact ⟨by simpa using hpe.2.2, rfl⟩
/-- where three new nodes fit two do -/
theorem weigh_fewer {v : Int} (hv : v = 1 ∨ v = 2 ∨ v = 3) {x y z x' y' : Sp} (hx : x.old = false ∧ x.str = v) (hy : y.old = false ∧ y.str = v) (hz : z.old = false ∧ z.str = v) (hx' : x'.old = false ∧ x'.str = v) (hy' : y'.old = false ∧ y'.str = v) (Q : List Sp) (hQ : ∀ q R, Q = q :: R → q.old = true ∧ q.str ≤ v) : ∀ (P : List Sp) (p s t : Int), (∃ l, weigh (P ++ x :: y :: z :: Q) p s t = some l) → ∃ l, weigh (P ++ x' :: y' :: Q) p s t = some l
  | [], p, s, t, ⟨l, h⟩ => by
    have s1 : ∀ (a : Sp) (r : List Sp) (p s t : Int) (l : List Sp), weigh (a :: r) p s t = some l → okW p s t (wgt p s t a) = true ∧ ∃ l', weigh r (wgt p s t a).p (wgt p s t a).s (wgt p s t a).t = some l' := fun a r p s t l h => by
      unfold weigh at h
      split at h
      · next ho =>
        refine ⟨ho, ?_⟩
        cases hw : weigh r (wgt p s t a).p (wgt p s t a).s (wgt p s t a).t with
        | none => rw [hw] at h; cases h
        | some l' => exact ⟨l', rfl⟩
      · cases h
    have s2 : ∀ (a : Sp) (r : List Sp) (p s t : Int), okW p s t (wgt p s t a) = true → (∃ l', weigh r (wgt p s t a).p (wgt p s t a).s (wgt p s t a).t = some l') → ∃ l, weigh (a :: r) p s t = some l := fun a r p s t ho ⟨l', hl⟩ => by
      unfold weigh
      rw [if_pos ho, hl]
      exact ⟨_, rfl⟩
    obtain ⟨o1, l1, h1⟩ := s1 _ _ _ _ _ _ h
    obtain ⟨o2, l2, h2⟩ := s1 _ _ _ _ _ _ h1
    obtain ⟨o3, l3, h3⟩ := s1 _ _ _ _ _ _ h2
    have W1 := wgt_new (p := p) (s := s) (t := t) hx.1 hx'.1 hx.2 hx'.2 hv
    obtain ⟨a1, a2, a3, a4, b1, b2, b3⟩ := W1
    refine s2 _ _ _ _ _ (by rw [← okW_same ⟨a1, a2, a3, a4⟩]; exact o1) ?_
    rw [← a1, ← a2, ← a3]
    generalize wgt p s t x = X at *
    have W2 := wgt_new (p := X.p) (s := X.s) (t := X.t) hy.1 hy'.1 hy.2 hy'.2 hv
    obtain ⟨c1, c2, c3, c4, e1, e2, e3⟩ := W2
    refine s2 _ _ _ _ _ (by rw [← okW_same ⟨c1, c2, c3, c4⟩]; exact o2) ?_
    rw [← c1, ← c2, ← c3]
    generalize wgt X.p X.s X.t y = Y at *
    have W3 := wgt_new (p := Y.p) (s := Y.s) (t := Y.t) hz.1 hz.1 hz.2 hz.2 hv
    obtain ⟨_, _, _, _, f1, f2, f3⟩ := W3
    generalize wgt Y.p Y.s Y.t z = Z at *
    cases hq : Q with
    | nil => exact ⟨[], rfl⟩
    | cons q R =>
      obtain ⟨q1, q2⟩ := hQ q R hq
      rw [hq] at h3
      obtain ⟨o4, l4, h4⟩ := s1 _ _ _ _ _ _ h3
      rw [wgt_old q1] at o4 h4
      refine s2 _ _ _ _ _ ?_ ?_
      · rw [wgt_old q1]
        refine okW_less (p := X.p) (s := X.s) (t := X.t) q2 hv ?_ ?_ ?_ o4
        · intro e
          have := e1 e
          have := f1 e
          omega
        · intro e
          have := e2 e
          have := f2 e
          omega
        · intro e
          have := e3 e
          have := f3 e
          omega
      · rw [wgt_old q1]
        exact ⟨l4, h4⟩
  | a :: P, p, s, t, ⟨l, h⟩ => by
    rw [List.cons_append] at h ⊢
    unfold weigh at h ⊢
    split at h
    · next ho =>
      rw [if_pos ho]
      cases hw : weigh (P ++ x :: y :: z :: Q) (wgt p s t a).p (wgt p s t a).s (wgt p s t a).t with
      | none => rw [hw] at h; cases h
      | some l' =>
        obtain ⟨l2, h2⟩ := weigh_fewer hv hx hy hz hx' hy' Q hQ P _ _ _ ⟨l', hw⟩
        rw [h2]
        exact ⟨_, rfl⟩
    · cases h

theorem ls_split (l : List Sp) {b : Nat} (h : b ≤ l.length) : l = l.take b ++ l.drop b ∧ (l.take b).length = b := ⟨(List.take_append_drop b l).symm, by simp; omega⟩
theorem chain2 {L : Lay} {R tX tY tZ e0 : ByteArray} {n : Nat} (h : ChainP L R tX tY tZ e0 n) {K3 : Wk} {ls3 : List Sp} (he : rulesE insE (begS L) [⟨R, 0, (n : Nat), tX, e0⟩, ⟨e0, 0, (n : Nat), tY, e0⟩, ⟨e0, 0, (n : Nat), tZ, e0⟩] 0 = .ok K3) (hw : weigh K3.ls 0 0 0 = some ls3) :
    ∃ K ls, rulesE insE (begS L) [⟨R, 0, (n : Nat), tX, e0⟩, ⟨R, 0, (n : Nat), tY, e0⟩] 0 = .ok K ∧ weigh K.ls 0 0 0 = some ls ∧ ∀ U, IsU K ls U → U.err = 0 ∧ hasP U R ∧ hasP U tX ∧ hasP U tY ∧ StandC U R tY n ∧ StandC U tY tX n := by
  have hn1 := h.n1
  have hn3 := h.n3
  obtain ⟨K1, K2, e1, e2, e3⟩ := rules3 he
  have i0 := inv_start h.err
  obtain ⟨i1, a1⟩ := inv_step i0 (h.okR R tX h.r6 h.x) (.inl h.r0) e1
  obtain ⟨i2, a2⟩ := inv_step i1 (h.okR e0 tY (by rw [h.e]; omega) h.y) (.inr a1) e2
  obtain ⟨s1, c1, m1, o1⟩ := ruleE_ok e1
  obtain ⟨s2, c2, m2, o2⟩ := ruleE_ok e2
  obtain ⟨s3, c3, m3, o3⟩ := ruleE_ok e3
  have hl : (0 : Int) < (n : Nat) := by omega
  have q1 := numsE_nil i0.good h.e o1.hmore
  subst q1
  obtain ⟨n1, n2, n3⟩ := o1.reset_is i0.good h.r0
  obtain ⟨_, x2⟩ := anch_next o2 h.e
  obtain ⟨_, x4⟩ := anch_next o3 h.e
  subst x2 x4
  obtain ⟨l1, u1, v1⟩ := o1.up hl
  obtain ⟨l2, u2, v2⟩ := o2.up hl
  obtain ⟨l3, u3, v3⟩ := o3.up hl
  have w1 := o1.new_at hl i0.fresh
  have w2 := o2.new_at hl i1.fresh
  simp only [if_true] at l1 l2 l3 w1 w2
  obtain ⟨i, hi, _⟩ := anch_at i0.good n2
  -- the places
  obtain ⟨b, hb⟩ : ∃ b, b = behindS (begS L).ls c1 (n : Nat) := ⟨_, rfl⟩
  rw [← hb] at l1 w1
  obtain ⟨b1, b2, b3, b4⟩ := behindS_spec (lev := (n : Nat)) hi
  rw [← hb] at b1 b2 b3 b4
  have hlen1 : K1.ls.length = (begS L).ls.length + 1 := by rw [l1]; exact insS_len _ b2
  have at1 : ∀ k, K1.ls.getD k default = if k < b then (begS L).ls.getD k default else if k = b then (⟨(begS L).names, (n : Nat), false, 0, 0, 0⟩ : Sp) else (begS L).ls.getD (k - 1) default := fun k => by rw [l1]; exact insS_at _ b2 k
  have hB2 : behindS K1.ls K1.anchor (n : Nat) = b + 1 := behindS_eq w1 (by omega) (by omega) (fun k k1 k2 => by omega) fun hk => by
    rw [at1, if_neg (by omega), if_neg (by omega), Nat.add_sub_cancel]
    exact b4 (by omega)
  rw [hB2] at l2 w2
  have hlen2 : K2.ls.length = (begS L).ls.length + 2 := by rw [l2, insS_len _ (by omega)]; omega
  have hB3 : behindS K2.ls K2.anchor (n : Nat) = b + 2 := behindS_eq w2 (by omega) (by omega) (fun k k1 k2 => by omega) fun hk => by
    rw [l2, insS_at _ (by omega), if_neg (by omega), if_neg (by omega), at1, if_neg (by omega), if_neg (by omega)]
    exact b4 (by omega)
  rw [hB3] at l3
  obtain ⟨sp1, sp2⟩ := ls_split (begS L).ls b2
  obtain ⟨P, hP⟩ : ∃ P, P = (begS L).ls.take b := ⟨_, rfl⟩
  obtain ⟨Q, hQ⟩ : ∃ Q, Q = (begS L).ls.drop b := ⟨_, rfl⟩
  rw [← hP] at sp1 sp2
  rw [← hQ] at sp1
  have g1 : K1.ls = P ++ (⟨(begS L).names, (n : Nat), false, 0, 0, 0⟩ : Sp) :: Q := by
    rw [l1]
    conv => lhs; rw [sp1]
    exact insS_app sp2.symm
  have g2 : K2.ls = P ++ (⟨(begS L).names, (n : Nat), false, 0, 0, 0⟩ : Sp) :: (⟨K1.names, (n : Nat), false, 0, 0, 0⟩ : Sp) :: Q := by
    rw [l2, g1, show P ++ (⟨(begS L).names, (n : Nat), false, 0, 0, 0⟩ : Sp) :: Q = (P ++ [(⟨(begS L).names, (n : Nat), false, 0, 0, 0⟩ : Sp)]) ++ Q by simp, insS_app (by simp [sp2])]
    simp
  have g3 : K3.ls = P ++ (⟨(begS L).names, (n : Nat), false, 0, 0, 0⟩ : Sp) :: (⟨K1.names, (n : Nat), false, 0, 0, 0⟩ : Sp) :: (⟨K2.names, (n : Nat), false, 0, 0, 0⟩ : Sp) :: Q := by
    rw [l3, g2, show P ++ (⟨(begS L).names, (n : Nat), false, 0, 0, 0⟩ : Sp) :: (⟨K1.names, (n : Nat), false, 0, 0, 0⟩ : Sp) :: Q = (P ++ [(⟨(begS L).names, (n : Nat), false, 0, 0, 0⟩ : Sp), (⟨K1.names, (n : Nat), false, 0, 0, 0⟩ : Sp)]) ++ Q by simp, insS_app (by simp [sp2])]
    simp
  -- the second rule of the second chain
  have hf1 : FreeT (fun u => False ∨ u = tX) R := fun p k k1 k3 hp ht => h.free p k k1 k3 hp (.inl (ht.resolve_left id))
  have hn := free_nums h.err i1 hf1
  have n1' : numsE K1.es R = some (s1 ++ [c1]) := by rw [hn]; exact n1
  have hmm : numsE K1.es e0 = some [] := by
    obtain ⟨l, hl⟩ := spE_nums (es := K1.es) (s := e0) fun p hp => by rw [h.e] at hp; omega
    rw [hl, numsE_nil i1.good h.e hl]
  have h4 : (s1 ++ [c1]).length ≤ 4 := by
    have := o1.len
    rw [List.append_nil] at this
    simpa using this
  obtain ⟨K, eK⟩ := ruleE_fine (K := K1) (r := ⟨R, 0, (n : Nat), tY, e0⟩) i1.sort hmm n1' h.r0 rfl h4 (by have := h.ln; have : (begS L).ls.length = L.n := i0.ln; omega) (by have := h.lm; have := i1.em; omega)
  obtain ⟨s5, c5, m5, o5⟩ := ruleE_ok eK
  have q5 := numsE_nil i1.good h.e o5.hmore
  subst q5
  obtain ⟨r1, r2, r3⟩ := o5.reset_is i1.good h.r0
  have r1 : numsE K1.es R = some (s5 ++ [c5]) := r1
  rw [n1'] at r1
  injection r1 with r1
  obtain ⟨z1, z2⟩ := List.append_inj' r1 rfl
  simp only [List.cons.injEq, and_true] at z2
  subst z1 z2
  obtain ⟨i5, a5⟩ := inv_step i1 (h.okR R tY h.r6 h.y) (.inl h.r0) eK
  obtain ⟨l5, u5, v5⟩ := o5.up hl
  have w5 := o5.new_at hl i1.fresh
  simp only [if_true] at l5 w5
  have hi1 : plc K1.ls c1 = (i : Nat) := by
    rw [l1, plc_ins b2 hi (by show (begS L).names ≠ _; omega), if_pos b1]
  have hB5 : behindS K1.ls c1 (n : Nat) = b := behindS_eq hi1 b1 (by omega) (fun k k1 k2 => by rw [at1, if_pos k2]; exact b3 k k1 k2) fun _ => by
    rw [at1, if_neg (by omega), if_pos rfl]
    exact Int.le_refl _
  rw [hB5] at l5 w5
  have g5 : K.ls = P ++ (⟨K1.names, (n : Nat), false, 0, 0, 0⟩ : Sp) :: (⟨(begS L).names, (n : Nat), false, 0, 0, 0⟩ : Sp) :: Q := by
    rw [l5, g1, insS_app sp2.symm]
  have hv : ((n : Nat) : Int) = 1 ∨ ((n : Nat) : Int) = 2 ∨ ((n : Nat) : Int) = 3 := by omega
  have hQ' : ∀ q R', Q = q :: R' → q.old = true ∧ q.str ≤ (n : Nat) := by
    intro q R' hq
    have hlt : b < (begS L).ls.length := by
      have := congrArg List.length hQ
      rw [hq] at this
      simp at this
      omega
    have hq0 : (begS L).ls.getD b default = q := by
      rw [getD_at hlt]
      have := List.drop_eq_getElem_cons hlt
      rw [← hQ, hq] at this
      injection this with this _
      exact this.symm
    refine ⟨?_, by rw [← hq0]; exact b4 hlt⟩
    have hbn : b < L.n := by
      have : (begS L).ls.length = L.n := i0.ln
      omega
    rw [← hq0, show (begS L).ls.getD b default = spB L b from lsB_at L hbn]
    rfl
  rw [g3] at hw
  obtain ⟨ls, hls⟩ := weigh_fewer (v := (n : Nat)) hv (x' := ⟨K1.names, (n : Nat), false, 0, 0, 0⟩) (y' := ⟨(begS L).names, (n : Nat), false, 0, 0, 0⟩) ⟨rfl, rfl⟩ ⟨rfl, rfl⟩ ⟨rfl, rfl⟩ ⟨rfl, rfl⟩ ⟨rfl, rfl⟩ Q hQ' P 0 0 0 ⟨_, hw⟩
  rw [← g5] at hls
  refine ⟨K, ls, ?_, hls, fun U hu => ?_⟩
  · unfold rulesE
    rw [e1]
    simp only
    unfold rulesE
    rw [eK]
    rfl
  · have R1 := (o5.rel hl i1.good i1.fresh r2).1 rfl
    have A1 := a1.anchor
    have R2 : RelS K.ls (PK K K.anchor) (PK K K1.anchor) (n : Nat) := by
      unfold PK
      rw [w5, Int.toNat_natCast, l5, plc_ins (by omega) w1 (by show K1.names ≠ _; omega), if_neg (by omega), Int.toNat_natCast]
      refine ⟨by omega, by rw [insS_len _ (by omega)]; omega, fun k k1 k2 => ?_, b + 1, by omega, by omega, ?_⟩
      · rw [insS_at _ (by omega), if_neg (by omega), if_neg (by omega), at1, if_neg (by omega), if_pos (by omega)]
        exact Int.le_refl _
      · rw [insS_at _ (by omega), if_neg (by omega), if_neg (by omega), at1, if_neg (by omega), if_pos (by omega)]
    have E1 := o1.hes
    have E5 := o5.hes
    rw [List.append_nil] at E1 E5
    have m1 : (⟨tX, s1 ++ [K1.anchor]⟩ : En) ∈ K.es := by
      rw [E5]
      refine (insE_mem i1.sort _ _).2 (.inr ⟨?_, h.xy⟩)
      rw [E1]
      exact (insE_mem i0.sort _ _).2 (.inl rfl)
    have m2 : (⟨tY, s1 ++ [K.anchor]⟩ : En) ∈ K.es := by
      rw [E5]
      exact (insE_mem i1.sort _ _).2 (.inl rfl)
    obtain ⟨p1, p2⟩ := nodesN_ent hu i5.sort i5.good m1
    obtain ⟨p3, p4⟩ := nodesN_ent hu i5.sort i5.good m2
    have hf : FreeT (fun u => (False ∨ u = tX) ∨ u = tY) R := fun p k k1 k3 hp ht => h.free p k k1 k3 hp (by rcases ht with (ht | ht) | ht; exact ht.elim; exact .inl ht; exact .inr (.inl ht))
    have pr := free_nodes h.err i5 hu hf n1
    rw [List.map_append] at p1 p3 pr
    have hT : TabU L _ _ _ K ls U := ⟨i5, hls, hu⟩
    refine ⟨hT.err, hasP_of fun p hp => ?_, p2, p4, ?_, ?_⟩
    · rw [hu.m, hu.tx']
      exact i5.text _ (h.sp p hp)
    · exact stand hu hls pr p3 h.n1 h.n3 R1
    · exact stand hu hls p3 p1 h.n1 h.n3 R2

end Go.Proofs.Ytpclldccjpncdab
