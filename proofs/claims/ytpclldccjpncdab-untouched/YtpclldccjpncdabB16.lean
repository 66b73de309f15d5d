import Derived.Test.YtpclldccjpncdabB15
namespace Go.Proofs.Ytpclldccjpncdab
open Go.RowKit

theorem weigh_names : ∀ (l : List Sp) (p s t : Int) (l' : List Sp), weigh l p s t = some l' → l'.map (·.name) = l.map (·.name)
  | [], _, _, _, l', h => by
    have h' : some [] = some l' := h
    injection h' with h'
    rw [← h']
  | x :: l, p, s, t, l', h => by
    unfold weigh at h
    split at h
    · cases hw : weigh l (wgt p s t x).p (wgt p s t x).s (wgt p s t x).t with
      | none => rw [hw] at h; cases h
      | some r =>
        rw [hw] at h
        simp only [Option.map_some, Option.some.injEq] at h
        rw [← h, List.map_cons, List.map_cons, weigh_names l _ _ _ r hw, (wgt_str p s t x).2]
    · cases h

/-- a table of lists, wherever it lies -/
def lysL (ls : List Sp) (es : List En) (no : Option Addr) (nc : Nat) (eo : Option Addr) (ec : Nat) (vs : Nat → Option Addr) (cs : Nat → Nat) : Lay :=
  { n := ls.length, m := es.length, na := no, ea := eo, nc := nc, ec := ec, nb := blk no, no := 0, eb := blk eo, eo := 0, p := fun i => (ls.getD i default).p, s := fun i => (ls.getD i default).s, t := fun i => (ls.getD i default).t, tx := txE es, la := vs, k := kE es, lc := cs, lb := fun i => blk (vs i), lo := fun _ => 0, z := zE es }
theorem ndsC_at : ∀ (l : List Sp) (i : Nat), i < l.length → (ndsC l)[i * 3]? = some (.int .i64 (l.getD i default).p) ∧ (ndsC l)[i * 3 + 1]? = some (.int .i64 (l.getD i default).s) ∧ (ndsC l)[i * 3 + 2]? = some (.int .i64 (l.getD i default).t)
  | [], i, h => by simp at h
  | x :: l, 0, _ => ⟨rfl, rfl, rfl⟩
  | x :: l, i + 1, h => by
    have h' : i < l.length := by simpa using h
    have ih := ndsC_at l i h'
    have e : ndsC (x :: l) = [.int .i64 x.p, .int .i64 x.s, .int .i64 x.t] ++ ndsC l := rfl
    rw [e]
    refine ⟨?_, ?_, ?_⟩
    · rw [List.getElem?_append_right (by show 3 ≤ _; omega), show (i + 1) * 3 - [Value.int .i64 x.p, .int .i64 x.s, .int .i64 x.t].length = i * 3 by show _ - 3 = _; omega]
      exact ih.1
    · rw [List.getElem?_append_right (by show 3 ≤ _; omega), show (i + 1) * 3 + 1 - [Value.int .i64 x.p, .int .i64 x.s, .int .i64 x.t].length = i * 3 + 1 by show _ - 3 = _; omega]
      exact ih.2.1
    · rw [List.getElem?_append_right (by show 3 ≤ _; omega), show (i + 1) * 3 + 2 - [Value.int .i64 x.p, .int .i64 x.s, .int .i64 x.t].length = i * 3 + 2 by show _ - 3 = _; omega]
      exact ih.2.2
theorem lysL_in {ls : List Sp} {es : List En} {no : Option Addr} {nc : Nat} {eo : Option Addr} {ec : Nat} {vs : Nat → Option Addr} {cs : Nat → Nat} {B : Nat} {w : World} (hl : ls.length ≤ 1000) (hm : es.length ≤ 1000) (hk : ∀ j, j < es.length → kE es j ≤ 1000) (hn : w.ownsRow B 60 3 (.slice no ls.length nc) ls.length (ndsC ls)) (he : w.ownsRow B 41 2 (.slice eo es.length ec) es.length (entC (txE es) (kE es) vs cs es.length)) (hi : EntsO B (kE es) (zE es) es.length vs cs w) : (lysL ls es no nc eo ec vs cs).In w.heap.size w := by
  refine ⟨?_, ?_⟩
  · obtain ⟨vo, vc, gv, hv, ha, hc⟩ := ownC_cells hn
    cases hv
    have key : ∀ i, i < ls.length → blk no = gv := fun i hi => by rw [(ha (by omega)).1]; rfl
    refine ⟨fun h0 => ?_, fun h0 => ?_, fun i hi => ?_, fun i hi => ?_, fun i hi => ?_, ?_⟩
    · show no = some ⟨blk no, 0, none⟩
      rw [(ha h0).1]; rfl
    · show blk no < _
      rw [(ha h0).1]; exact (ha h0).2.1
    · have hi : i < ls.length := hi
      show w.cell? ⟨blk no, 0 + i * 3, none⟩ = _
      rw [key i hi, Nat.zero_add]
      exact hc _ _ (by omega) (ndsC_at ls i hi).1
    · have hi : i < ls.length := hi
      show w.cell? ⟨blk no, 0 + i * 3 + 1, none⟩ = _
      rw [key i hi, Nat.zero_add]
      exact hc _ _ (by omega) (ndsC_at ls i hi).2.1
    · have hi : i < ls.length := hi
      show w.cell? ⟨blk no, 0 + i * 3 + 2, none⟩ = _
      rw [key i hi, Nat.zero_add]
      exact hc _ _ (by omega) (ndsC_at ls i hi).2.2
    · show ls.length * 24 ≤ _
      omega
  · obtain ⟨vo, vc, gv, hv, ha, hc⟩ := ownC_cells he
    cases hv
    have key : ∀ i, i < es.length → blk eo = gv := fun i hi => by rw [(ha (by omega)).1]; rfl
    refine ⟨fun h0 => ?_, fun h0 => ?_, fun i hi => ?_, fun i hi => ?_, fun i hi' => ?_, ?_⟩
    · show eo = some ⟨blk eo, 0, none⟩
      rw [(ha h0).1]; rfl
    · show blk eo < _
      rw [(ha h0).1]; exact (ha h0).2.1
    · have hi : i < es.length := hi
      show w.cell? ⟨blk eo, 0 + i * 2, none⟩ = _
      rw [key i hi, Nat.zero_add]
      exact hc _ _ (by omega) (entC_at _ _ _ _ _ i hi).1
    · have hi : i < es.length := hi
      show w.cell? ⟨blk eo, 0 + i * 2 + 1, none⟩ = _
      rw [key i hi, Nat.zero_add]
      exact hc _ _ (by omega) (entC_at _ _ _ _ _ i hi).2
    · have hi' : i < es.length := hi'
      have hk' := hk i hi'
      obtain ⟨vo', vc', gv', hv', ha', hc'⟩ := ownC_cells (hi.own i hi')
      injection hv' with hv1 hv2 hv3
      refine ⟨fun h0 => ?_, fun h0 => ?_, fun j hj => ?_, ?_⟩
      · show vs i = some ⟨blk (vs i), 0, none⟩
        rw [hv1, (ha' h0).1]; rfl
      · show blk (vs i) < _
        rw [hv1, (ha' h0).1]; exact (ha' h0).2.1
      · have hj : j < kE es i := hj
        show w.cell? ⟨blk (vs i), 0 + j, none⟩ = _
        rw [hv1, (ha' (by omega)).1, Nat.zero_add]
        exact hc' j _ (by omega) (by simp [hj]; rfl)
      · show kE es i * 8 ≤ _
        omega
    · show es.length * 40 ≤ _
      omega
theorem compE_bd {L : Lay} {s : ByteArray} {ls : List Sp} {es : List En} (h : compE L s = .ok (ls, es)) : ls.length ≤ 48 ∧ es.length ≤ 48 ∧ ∀ j, j < es.length → 1 ≤ kE es j ∧ kE es j ≤ 4 := by
  unfold compE at h
  split at h
  · cases h
  · next h0 =>
    have h0 : L.err = 0 := by simpa using h0
    split at h
    · cases h
    · next h1 =>
      have h1 : (rdAll s).2.1 = 0 := by simpa using h1
      have hrd : rdAll s = ((rdAll s).1, 0, (rdAll s).2.2) := by rw [← h1]
      obtain ⟨g1, g2, _⟩ := rdAll_good hrd
      cases hr : rulesE insE (begS L) (rdAll s).1 0 with
      | error x => rw [hr] at h; cases h
      | ok K =>
        rw [hr] at h
        simp only at h
        obtain ⟨hg, _⟩ := rulesE_good (rdAll s).1 (begS L) K 0 (begS_good h0) (esB_sort h0) g1 (.inl g2) hr
        cases hw : weigh K.ls 0 0 0 with
        | none => rw [hw] at h; cases h
        | some ls' =>
          rw [hw] at h
          simp only [Except.ok.injEq, Prod.mk.injEq] at h
          obtain ⟨rfl, rfl⟩ := h
          have hl : ls'.length = K.ls.length := by
            have := congrArg List.length (weigh_names _ _ _ _ _ hw)
            simpa using this
          refine ⟨by rw [hl]; exact hg.ls, by rw [List.length_map]; exact hg.es, fun j hj => ?_⟩
          rw [List.length_map] at hj
          have h3 := (hg.ent _ (List.getElem_mem hj)).2.1
          unfold kE
          rw [getD_at (by rw [List.length_map]; exact hj), List.getElem_map]
          simp only [List.length_map]
          exact h3

end Go.Proofs.Ytpclldccjpncdab

namespace Go.Proofs.Ytpclldccjpncdab
open Go.RowKit

/-! weights along the list -/
def wtS (lv : Nat) (x : Sp) : Int := if lv = 1 then x.p else if lv = 2 then x.s else x.t
/-- a node as to the one before it -/
def StepS (a b : Sp) : Prop := (∀ lv : Nat, 1 ≤ lv → lv ≤ 3 → (lv : Int) < b.str → wtS lv b = wtS lv a) ∧ ∀ lv : Nat, 1 ≤ lv → lv ≤ 3 → (lv : Int) = b.str → wtS lv a < wtS lv b
theorem okW_step {a y : Sp} (h : okW a.p a.s a.t y = true) : StepS a y ∧ nodeB y.p y.s y.t = true ∧ aboveB y.p y.s y.t a.p a.s a.t = true ∧ (y.str = 1 ∨ y.str = 2 ∨ y.str = 3) := by
  unfold okW at h
  rw [Bool.and_eq_true, Bool.and_eq_true] at h
  obtain ⟨⟨h1, h2⟩, h3⟩ := h
  have h2 : stI a.p a.s a.t y.p y.s y.t = y.str := by simpa using h2
  have hv := stI_vals a.p a.s a.t y.p y.s y.t
  rw [h2] at hv
  refine ⟨?_, h3, h1, hv⟩
  unfold stI at h2
  unfold aboveB at h1
  have hw1 : ∀ x : Sp, wtS 1 x = x.p := fun _ => rfl
  have hw2 : ∀ x : Sp, wtS 2 x = x.s := fun _ => rfl
  have hw3 : ∀ x : Sp, wtS 3 x = x.t := fun _ => rfl
  by_cases hp : y.p = a.p
  · rw [if_pos hp] at h1
    rw [if_neg (by simp [hp])] at h2
    by_cases hs : y.s = a.s
    · rw [if_pos hs] at h1
      rw [if_neg (by simp [hs])] at h2
      have h1 : a.t < y.t := by simpa using h1
      refine ⟨fun lv a1 a3 hl => ?_, fun lv a1 a3 hl => ?_⟩
      · have : lv = 1 ∨ lv = 2 := by omega
        rcases this with rfl | rfl
        · exact hp
        · exact hs
      · have : lv = 3 := by omega
        subst this
        exact h1
    · rw [if_neg hs] at h1
      rw [if_pos (fun e => hs e.symm)] at h2
      have h1 : a.s < y.s := by simpa using h1
      refine ⟨fun lv a1 a3 hl => ?_, fun lv a1 a3 hl => ?_⟩
      · have : lv = 1 := by omega
        subst this
        exact hp
      · have : lv = 2 := by omega
        subst this
        exact h1
  · rw [if_neg hp] at h1
    rw [if_pos (fun e => hp e.symm)] at h2
    have h1 : a.p < y.p := by simpa using h1
    refine ⟨fun lv a1 a3 hl => by omega, fun lv a1 a3 hl => ?_⟩
    have : lv = 1 := by omega
    subst this
    exact h1
theorem wgt_old {p s t : Int} {x : Sp} (h : x.old = true) : wgt p s t x = x := by unfold wgt; rw [if_pos h]
theorem wgt_is (p s t : Int) (x : Sp) : (wgt p s t x).old = x.old := by
  unfold wgt
  split
  · rfl
  · split
    · rfl
    · split
      · rfl
      · split <;> rfl
/-- what weighing tells of each place -/
theorem weigh_all : ∀ (l : List Sp) (a : Sp) (l' : List Sp), weigh l a.p a.s a.t = some l' → l'.length = l.length ∧ ∀ i, i < l.length → (l'.getD i default).name = (l.getD i default).name ∧ (l'.getD i default).str = (l.getD i default).str ∧ (l'.getD i default).old = (l.getD i default).old ∧ ((l.getD i default).old = true → l'.getD i default = l.getD i default) ∧ okW (if i = 0 then a else l'.getD (i - 1) default).p (if i = 0 then a else l'.getD (i - 1) default).s (if i = 0 then a else l'.getD (i - 1) default).t (l'.getD i default) = true
  | [], a, l', h => by
    have h' : some [] = some l' := h
    injection h' with h'
    rw [← h']
    exact ⟨rfl, fun i hi => absurd hi (Nat.not_lt_zero _)⟩
  | x :: l, a, l', h => by
    unfold weigh at h
    split at h
    · next hok =>
      cases hw : weigh l (wgt a.p a.s a.t x).p (wgt a.p a.s a.t x).s (wgt a.p a.s a.t x).t with
      | none => rw [hw] at h; cases h
      | some r =>
        rw [hw] at h
        simp only [Option.map_some, Option.some.injEq] at h
        obtain ⟨hl, hr⟩ := weigh_all l _ r hw
        subst h
        refine ⟨by simp [hl], fun i hi => ?_⟩
        cases i with
        | zero =>
          refine ⟨(wgt_str _ _ _ x).2, (wgt_str _ _ _ x).1, wgt_is _ _ _ x, fun ho => wgt_old ho, hok⟩
        | succ i =>
          have hi' : i < l.length := by simpa using hi
          obtain ⟨a1, a2, a3, a4, a5⟩ := hr i hi'
          refine ⟨by simpa using a1, by simpa using a2, by simpa using a3, by simpa using a4, ?_⟩
          rw [if_neg (by omega)]
          cases i with
          | zero => simpa using a5
          | succ i => simpa using a5
    · cases h
/-- the place j is behind the place i on the level v -/
def RelS (l : List Sp) (i j : Nat) (v : Int) : Prop := i < j ∧ j < l.length ∧ (∀ k, i < k → k ≤ j → v ≤ (l.getD k default).str) ∧ ∃ k, i < k ∧ k ≤ j ∧ (l.getD k default).str = v
def zeroS : Sp := ⟨0, 0, false, 0, 0, 0⟩
theorem weigh_step {l l' : List Sp} (h : weigh l 0 0 0 = some l') {i : Nat} (hi : i + 1 < l.length) : StepS (l'.getD i default) (l'.getD (i + 1) default) := by
  have := ((weigh_all l zeroS l' h).2 (i + 1) hi).2.2.2.2
  rw [if_neg (by omega), Nat.add_sub_cancel] at this
  exact (okW_step this).1
theorem weigh_mono {l l' : List Sp} (h : weigh l 0 0 0 = some l') {v : Nat} (h1 : 1 ≤ v) (h3 : v ≤ 3) (i : Nat) : ∀ j, i ≤ j → j < l.length → (∀ k, i < k → k ≤ j → (v : Int) ≤ (l.getD k default).str) → (∀ lv : Nat, 1 ≤ lv → lv < v → wtS lv (l'.getD j default) = wtS lv (l'.getD i default)) ∧ wtS v (l'.getD i default) ≤ wtS v (l'.getD j default) ∧ ((∃ k, i < k ∧ k ≤ j ∧ (l.getD k default).str = v) → wtS v (l'.getD i default) < wtS v (l'.getD j default))
  | 0, hij, hj, hk => by
    have : i = 0 := by omega
    subst this
    exact ⟨fun _ _ _ => rfl, Int.le_refl _, fun ⟨k, a, b, _⟩ => by omega⟩
  | j + 1, hij, hj, hk => by
    by_cases e : i = j + 1
    · subst e
      exact ⟨fun _ _ _ => rfl, Int.le_refl _, fun ⟨k, a, b, _⟩ => by omega⟩
    · obtain ⟨a, b, c⟩ := weigh_mono h h1 h3 i j (by omega) (by omega) fun k x y => hk k x (by omega)
      have hs := weigh_step h hj
      have hstr := ((weigh_all l zeroS l' h).2 (j + 1) hj).2.1
      have hv := hk (j + 1) (by omega) (Nat.le_refl _)
      rw [← hstr] at hv
      have hle : wtS v (l'.getD j default) ≤ wtS v (l'.getD (j + 1) default) ∧ ((l.getD (j + 1) default).str = v → wtS v (l'.getD j default) < wtS v (l'.getD (j + 1) default)) := by
        by_cases e : (v : Int) = (l'.getD (j + 1) default).str
        · have := hs.2 v h1 h3 e
          exact ⟨by omega, fun _ => this⟩
        · have := hs.1 v h1 h3 (by omega)
          exact ⟨by omega, fun e' => absurd (by rw [hstr]; exact e'.symm) e⟩
      refine ⟨fun lv l1 l2 => ?_, by omega, fun ⟨k, k1, k2, k3⟩ => ?_⟩
      · rw [hs.1 lv l1 (by omega) (by omega), a lv l1 l2]
      · by_cases ek : k = j + 1
        · subst ek
          have := hle.2 k3
          omega
        · have := c ⟨k, k1, by omega, k3⟩
          omega
theorem rel_wt {l l' : List Sp} (h : weigh l 0 0 0 = some l') {v : Nat} (h1 : 1 ≤ v) (h3 : v ≤ 3) {i j : Nat} (hr : RelS l i j v) : (∀ lv : Nat, 1 ≤ lv → lv < v → wtS lv (l'.getD i default) = wtS lv (l'.getD j default)) ∧ wtS v (l'.getD i default) < wtS v (l'.getD j default) := by
  obtain ⟨a, b, c, d⟩ := hr
  obtain ⟨x, _, z⟩ := weigh_mono h h1 h3 i j (by omega) b c
  exact ⟨fun lv l1 l2 => (x lv l1 l2).symm, z d⟩
theorem weigh_node {l l' : List Sp} (h : weigh l 0 0 0 = some l') {i : Nat} (hi : i < l.length) : nodeB (l'.getD i default).p (l'.getD i default).s (l'.getD i default).t = true := (okW_step ((weigh_all l zeroS l' h).2 i hi).2.2.2.2).2.1
theorem weigh_above {l l' : List Sp} (h : weigh l 0 0 0 = some l') {i : Nat} (hi : i < l.length) (h0 : 0 < i) : aboveB (l'.getD i default).p (l'.getD i default).s (l'.getD i default).t (l'.getD (i - 1) default).p (l'.getD (i - 1) default).s (l'.getD (i - 1) default).t = true := by
  have := ((weigh_all l zeroS l' h).2 i hi).2.2.2.2
  rw [if_neg (by omega)] at this
  exact (okW_step this).2.2.1
theorem wtS_pos {x : Sp} (h : nodeB x.p x.s x.t = true) (lv : Nat) : 0 ≤ wtS lv x := by
  simp only [nodeB, decide_eq_true_eq] at h
  unfold wtS
  split
  · omega
  · split <;> omega

/-! a node is put in -/
def insS (l : List Sp) (a : Nat) (x : Sp) : List Sp := l.take a ++ [x] ++ l.drop a
theorem insS_len {l : List Sp} {a : Nat} (x : Sp) (h : a ≤ l.length) : (insS l a x).length = l.length + 1 := by
  unfold insS
  simp
  omega
theorem insS_at {l : List Sp} {a : Nat} (x : Sp) (h : a ≤ l.length) (k : Nat) : (insS l a x).getD k default = if k < a then l.getD k default else if k = a then x else l.getD (k - 1) default := by
  unfold insS
  have hta : (l.take a).length = a := by simp; omega
  simp only [List.getD_eq_getElem?_getD]
  by_cases h1 : k < a
  · rw [if_pos h1, List.append_assoc, List.getElem?_append_left (by omega), List.getElem?_take, if_pos h1]
  · rw [if_neg h1]
    by_cases h2 : k = a
    · rw [if_pos h2, List.getElem?_append_left (by simp; omega), List.getElem?_append_right (by omega), hta, h2, Nat.sub_self]
      rfl
    · rw [if_neg h2, List.getElem?_append_right (by simp; omega), List.getElem?_drop]
      congr 2
      simp
      omega
theorem relS_ins {l : List Sp} {a : Nat} {x : Sp} (h : a ≤ l.length) {i j : Nat} {v : Int} (hr : RelS l i j v) (hx : v ≤ x.str) : RelS (insS l a x) (if i < a then i else i + 1) (if j < a then j else j + 1) v := by
  obtain ⟨h1, h2, h3, k, k1, k2, k3⟩ := hr
  refine ⟨by split <;> split <;> omega, by rw [insS_len x h]; split <;> omega, fun q q1 q2 => ?_, if k < a then k else k + 1, by split <;> split <;> omega, by split <;> split <;> omega, ?_⟩
  · rw [insS_at x h]
    by_cases c1 : q < a
    · rw [if_pos c1]
      exact h3 q (by split at q1 <;> omega) (by split at q2 <;> omega)
    · rw [if_neg c1]
      by_cases c2 : q = a
      · rw [if_pos c2]; exact hx
      · rw [if_neg c2]
        exact h3 (q - 1) (by split at q1 <;> omega) (by split at q2 <;> omega)
  · rw [insS_at x h]
    by_cases c1 : k < a
    · rw [if_pos c1, if_pos c1]; exact k3
    · rw [if_neg c1, if_neg (by omega), if_neg (by omega), Nat.add_sub_cancel]; exact k3
/-- where a name stands, a new node put in -/
theorem plc_spec {l : List Sp} {nm : Int} {i : Nat} (h : plc l nm = (i : Nat)) : i < l.length ∧ (l.getD i default).name = nm ∧ ∀ j, j < i → (l.getD j default).name ≠ nm := by
  unfold plc at h
  split at h
  · next q hq =>
    rw [List.findIdx?_eq_some_iff_getElem] at hq
    obtain ⟨hl, h1, h2⟩ := hq
    have : q = i := by omega
    subst this
    refine ⟨hl, ?_, fun j hj => ?_⟩
    · rw [getD_at hl]; simpa using h1
    · rw [getD_at (by omega)]
      have := h2 j hj
      simpa using this
  · omega
theorem plc_ins {l : List Sp} {a : Nat} {x : Sp} (h : a ≤ l.length) {nm : Int} {i : Nat} (hp : plc l nm = (i : Nat)) (hx : x.name ≠ nm) : plc (insS l a x) nm = ((if i < a then i else i + 1 : Nat) : Int) := by
  obtain ⟨h1, h2, h3⟩ := plc_spec hp
  refine plc_at (by rw [insS_len x h]; split <;> omega) ?_ fun j hj => ?_
  · rw [insS_at x h]
    by_cases c : i < a
    · rw [if_pos c, if_pos c]; exact h2
    · rw [if_neg c, if_neg (by omega), if_neg (by omega), Nat.add_sub_cancel]; exact h2
  · rw [insS_at x h]
    by_cases c1 : j < a
    · rw [if_pos c1]
      exact h3 j (by split at hj <;> omega)
    · rw [if_neg c1]
      by_cases c2 : j = a
      · rw [if_pos c2]; exact hx
      · rw [if_neg c2]
        exact h3 (j - 1) (by split at hj <;> omega)
theorem plc_new {l : List Sp} {a : Nat} {x : Sp} (h : a ≤ l.length) (hx : ∀ j, j < l.length → (l.getD j default).name ≠ x.name) : plc (insS l a x) x.name = (a : Nat) := by
  refine plc_at (by rw [insS_len x h]; omega) ?_ fun j hj => ?_
  · rw [insS_at x h, if_neg (by omega), if_pos rfl]
  · rw [insS_at x h, if_pos hj]
    exact hx j (by omega)
/-- behind: the places between are weaker -/
theorem beh_spec (l : List Sp) (lev : Int) : ∀ f i, l.length - i ≤ f → (∀ k, i ≤ k → k < beh l lev i → lev < (l.getD k default).str) ∧ (beh l lev i < l.length → (l.getD (beh l lev i) default).str ≤ lev)
  | 0, i, h => by
    rw [beh, if_neg (by omega)]
    exact ⟨fun k a b => by omega, fun hh => by omega⟩
  | f + 1, i, h => by
    rw [beh]
    split
    · next hc =>
      obtain ⟨a, b⟩ := beh_spec l lev f (i + 1) (by omega)
      refine ⟨fun k k1 k2 => ?_, b⟩
      by_cases e : k = i
      · rw [e]; exact hc.2
      · exact a k (by omega) k2
    · next hc =>
      exact ⟨fun k a b => by omega, fun hh => by
        by_cases e : lev < (l.getD i default).str
        · exact absurd ⟨hh, e⟩ hc
        · omega⟩
theorem rel_behind {l : List Sp} {an : Int} {v : Int} {i : Nat} {x : Sp} (hp : plc l an = (i : Nat)) (hx : x.str = v) : RelS (insS l (behindS l an v) x) i (behindS l an v) v ∧ i < behindS l an v := by
  have hle := behindS_le l an v
  have hi := (plc_spec hp).1
  have e : behindS l an v = beh l v (i + 1) := by
    unfold behindS
    rw [hp]
    congr 1
  have hb := (beh_all l v _ (i + 1) (Nat.le_refl _)).1
  obtain ⟨s1, _⟩ := beh_spec l v _ (i + 1) (Nat.le_refl _)
  rw [← e] at hb s1
  refine ⟨⟨by omega, by rw [insS_len x hle]; omega, fun k k1 k2 => ?_, behindS l an v, by omega, Nat.le_refl _, ?_⟩, by omega⟩
  · rw [insS_at x hle]
    by_cases c : k < behindS l an v
    · rw [if_pos c]
      have := s1 k (by omega) c
      omega
    · rw [if_neg c, if_pos (by omega)]
      omega
  · rw [insS_at x hle, if_neg (by omega), if_pos rfl]; exact hx
/-- before: the place itself is of that strength, those up to the anchor are weaker -/
theorem stt_spec (l : List Sp) (lev : Int) : ∀ i, ¬ stt l lev i < 0 → ∃ c : Nat, stt l lev i = (c : Nat) ∧ c < i ∧ (l.getD c default).str = lev ∧ ∀ k, c < k → k < i → lev < (l.getD k default).str
  | 0, h => absurd (by unfold stt; omega) h
  | i + 1, h => by
    unfold stt at h ⊢
    split at h
    · next h1 =>
      split at h
      · next h2 =>
        rw [if_pos h1, if_pos h2]
        exact ⟨i, rfl, by omega, h2, fun k k1 k2 => by omega⟩
      · omega
    · next h1 =>
      rw [if_neg h1]
      obtain ⟨c, c1, c2, c3, c4⟩ := stt_spec l lev i h
      refine ⟨c, c1, by omega, c3, fun k k1 k2 => ?_⟩
      by_cases e : k = i
      · rw [e]; omega
      · exact c4 k k1 (by omega)
theorem rel_before {l : List Sp} {an : Int} {v : Int} {i : Nat} {x : Sp} (hp : plc l an = (i : Nat)) (hs : ¬ startS l an v < 0) : RelS (insS l (startS l an v).toNat x) (startS l an v).toNat (i + 1) v ∧ (startS l an v).toNat ≤ i := by
  have hi := (plc_spec hp).1
  unfold startS at hs ⊢
  rw [hp] at hs ⊢
  have e : ((i : Int) + 1).toNat = i + 1 := by omega
  rw [e] at hs ⊢
  obtain ⟨c, c1, c2, c3, c4⟩ := stt_spec l v (i + 1) hs
  rw [c1, Int.toNat_natCast]
  have hle : c ≤ l.length := by omega
  refine ⟨⟨by omega, by rw [insS_len x hle]; omega, fun k k1 k2 => ?_, c + 1, by omega, by omega, ?_⟩, by omega⟩
  · rw [insS_at x hle, if_neg (by omega), if_neg (by omega)]
    by_cases e : k = c + 1
    · rw [e, Nat.add_sub_cancel]; omega
    · have := c4 (k - 1) (by omega) (by omega)
      omega
  · rw [insS_at x hle, if_neg (by omega), if_neg (by omega), Nat.add_sub_cancel]; exact c3

end Go.Proofs.Ytpclldccjpncdab

namespace Go.Proofs.Ytpclldccjpncdab
open Go.RowKit

/-! what a rule does, and what stays from rule to rule -/
structure RuleOk (K : Wk) (r : Rl) (K' : Wk) (stem : List Int) (anchor : Int) (more : List Int) : Prop where
  hmore : numsE K.es r.more = some more
  hreset : (if r.reset.size ≠ 0 then (numsE K.es r.reset).map (fun l => (l.dropLast, l.getLastD 0)) else some (K.stem, K.anchor)) = some (stem, anchor)
  bef : ¬ (r.before ≠ 0 ∧ (r.level ≠ r.before ∨ startS K.ls anchor r.before < 0))
  hstem : K'.stem = stem
  up : 0 < r.level → K'.ls = insS K.ls (if r.before = 0 then behindS K.ls anchor r.level else (startS K.ls anchor r.before).toNat) ⟨K.names, r.level, false, 0, 0, 0⟩ ∧ K'.anchor = K.names ∧ K'.names = K.names + 1
  zero : ¬ 0 < r.level → K'.ls = K.ls ∧ K'.anchor = anchor ∧ K'.names = K.names
  hes : K'.es = insE K.es ⟨r.text, stem ++ [K'.anchor] ++ more⟩
  len : (stem ++ [K'.anchor] ++ more).length ≤ 4
theorem ruleE_ok {K K' : Wk} {r : Rl} (he : ruleE insE K r = .ok K') : ∃ stem anchor more, RuleOk K r K' stem anchor more := by
  unfold ruleE at he
  cases hm : numsE K.es r.more with
  | none => rw [hm] at he; cases he
  | some more =>
    rw [hm] at he
    simp only at he
    cases hs : (if r.reset.size ≠ 0 then (numsE K.es r.reset).map (fun l => (l.dropLast, l.getLastD 0)) else some (K.stem, K.anchor)) with
    | none => rw [hs] at he; cases he
    | some sa =>
      obtain ⟨stem, anchor⟩ := sa
      rw [hs] at he
      simp only at he
      by_cases hb : r.before ≠ 0 ∧ (r.level ≠ r.before ∨ startS K.ls anchor r.before < 0)
      · rw [if_pos hb] at he; cases he
      · rw [if_neg hb] at he
        have key : ∀ K2 : Wk, (if 4 < (K2.stem ++ [K2.anchor] ++ more).length then (Except.error 12 : Except Int Wk) else if 48 < K2.ls.length ∨ 48 < (insE K2.es ⟨r.text, K2.stem ++ [K2.anchor] ++ more⟩).length then .error 13 else .ok { K2 with es := insE K2.es ⟨r.text, K2.stem ++ [K2.anchor] ++ more⟩ }) = .ok K' → (K2.stem ++ [K2.anchor] ++ more).length ≤ 4 ∧ K' = { K2 with es := insE K2.es ⟨r.text, K2.stem ++ [K2.anchor] ++ more⟩ } := by
          intro K2 hh
          split at hh
          · cases hh
          · next h4 =>
            split at hh
            · cases hh
            · injection hh with hh
              exact ⟨Nat.le_of_not_lt h4, hh.symm⟩
        obtain ⟨h4, hK⟩ := key _ he
        by_cases hl : 0 < r.level
        · rw [if_pos hl] at hK h4
          subst hK
          exact ⟨stem, anchor, more, hm, hs, hb, rfl, fun _ => ⟨rfl, rfl, rfl⟩, fun h => absurd hl h, rfl, h4⟩
        · rw [if_neg hl] at hK h4
          subst hK
          exact ⟨stem, anchor, more, hm, hs, hb, rfl, fun h => absurd h hl, fun _ => ⟨rfl, rfl, rfl⟩, rfl, h4⟩
theorem insE_lenI {es : List En} (h : SortE es) (e : En) : (insE es e).length ≤ es.length + 1 := by
  rw [(insE_perm h e).length_eq, List.length_cons]
  exact Nat.add_le_add_right (List.length_filter_le _ _) 1
theorem ruleE_bad {K : Wk} {r : Rl} {e : Int} (hq : SortE K.es) (hm : ∃ m, numsE K.es r.more = some m) (hr : r.reset.size ≠ 0 → ∃ m, numsE K.es r.reset = some m) (hl : K.ls.length < 48) (hes : K.es.length < 48) (he : ruleE insE K r = .error e) : (e = 11 ∧ r.before ≠ 0) ∨ e = 12 := by
  obtain ⟨more, hm⟩ := hm
  unfold ruleE at he
  rw [hm] at he
  simp only at he
  cases hs : (if r.reset.size ≠ 0 then (numsE K.es r.reset).map (fun l => (l.dropLast, l.getLastD 0)) else some (K.stem, K.anchor)) with
  | none =>
    exfalso
    by_cases h0 : r.reset.size ≠ 0
    · obtain ⟨l, hl⟩ := hr h0
      rw [if_pos h0, hl] at hs
      cases hs
    · rw [if_neg h0] at hs
      cases hs
  | some sa =>
    obtain ⟨stem, anchor⟩ := sa
    rw [hs] at he
    simp only at he
    by_cases hb : r.before ≠ 0 ∧ (r.level ≠ r.before ∨ startS K.ls anchor r.before < 0)
    · rw [if_pos hb] at he
      injection he with he
      exact .inl ⟨he.symm, hb.1⟩
    · rw [if_neg hb] at he
      right
      have key : ∀ K2 : Wk, K2.ls.length ≤ K.ls.length + 1 → K2.es = K.es → (if 4 < (K2.stem ++ [K2.anchor] ++ more).length then (Except.error 12 : Except Int Wk) else if 48 < K2.ls.length ∨ 48 < (insE K2.es ⟨r.text, K2.stem ++ [K2.anchor] ++ more⟩).length then .error 13 else .ok { K2 with es := insE K2.es ⟨r.text, K2.stem ++ [K2.anchor] ++ more⟩ }) = .error e → e = 12 := by
        intro K2 h2 h3 hh
        split at hh
        · injection hh with hh; exact hh.symm
        · split at hh
          · next h48 =>
            exfalso
            rw [h3] at h48
            have := insE_lenI hq ⟨r.text, K2.stem ++ [K2.anchor] ++ more⟩
            omega
          · cases hh
      refine key _ ?_ ?_ he
      · split
        · show (K.ls.take _ ++ [_] ++ K.ls.drop _).length ≤ _
          simp
          omega
        · exact Nat.le_succ _
      · split <;> rfl

/-! texts of letters -/
def SpE (es : List En) (s : ByteArray) : Prop := ∀ p, p < s.size → isText es.length (txE es) (sub s p 1)
theorem cut_ex (m : Nat) (tx : Nat → ByteArray) (s : ByteArray) : ∃ q, Cut m tx s q := by
  apply Classical.byContradiction
  intro hn
  have hall : ∀ q, ∀ j, j < q → 0 < lenAt m tx s (pos m tx s j) := by
    intro q
    induction q with
    | zero => intro j hj; omega
    | succ q ih =>
      intro j hj
      by_cases e : j = q
      · subst e
        apply Nat.pos_of_ne_zero
        intro h0
        exact hn ⟨j, ih, h0⟩
      · exact ih j (by omega)
  have h1 := pos_ge (s.size + 1) (hall (s.size + 1))
  have h2 := pos_le m tx s (s.size + 1)
  omega
theorem sp_cut {m : Nat} {tx : Nat → ByteArray} {s : ByteArray} (h : ∀ p, p < s.size → isText m tx (sub s p 1)) {q : Nat} (hc : Cut m tx s q) : pos m tx s q = s.size := by
  apply Classical.byContradiction
  intro hne
  have hle := pos_le m tx s q
  have := lenAt_max (n := 1) (by omega) (by omega) (by omega) (h (pos m tx s q) (by omega))
  have := hc.stop
  omega
theorem spE_nums {es : List En} {s : ByteArray} (h : SpE es s) : ∃ l, numsE es s = some l := by
  obtain ⟨q, hq⟩ := cut_ex es.length (txE es) s
  exact ⟨_, numsE_some hq (sp_cut h hq)⟩

/-! the invariant -/
theorem esB_tx (L : Lay) {j : Nat} (h : j < L.m) : txE (esB L L.m) j = L.tx j := by unfold txE; rw [esB_at L h]; rfl
theorem esB_text (L : Lay) (u : ByteArray) : isText (esB L L.m).length (txE (esB L L.m)) u ↔ isText L.m L.tx u := by
  rw [esB_len]
  constructor
  · rintro ⟨i, hi, h⟩
    exact ⟨i, hi, by rw [← esB_tx L hi]; exact h⟩
  · rintro ⟨i, hi, h⟩
    exact ⟨i, hi, by rw [esB_tx L hi]; exact h⟩
structure Inv (L : Lay) (T : ByteArray → Prop) (c i : Nat) (K : Wk) : Prop where
  good : GoodK K
  sort : SortE K.es
  old : ∀ z : Nat, z < L.n → ∃ j : Nat, plc K.ls (z : Int) = (j : Nat) ∧ K.ls.getD j default = spB L z
  fresh : ∀ j, j < K.ls.length → (K.ls.getD j default).name < K.names
  sub : (lsB L L.n).Sublist K.ls
  keep : ∀ e ∈ esB L L.m, ¬ T e.tx → e ∈ K.es
  text : ∀ u, isText L.m L.tx u → isText K.es.length (txE K.es) u
  only : ∀ e ∈ K.es, e ∈ esB L L.m ∨ T e.tx
  ln : K.ls.length = L.n + c
  em : K.es.length ≤ L.m + i
theorem lsB_at (L : Lay) {i j : Nat} (h : j < i) : (lsB L i).getD j default = spB L j := by
  rw [getD_at (by rw [lsB_len]; exact h)]
  simp [lsB]
theorem inv_start {L : Lay} (h : L.err = 0) : Inv L (fun _ => False) 0 0 (begS L) := by
  refine ⟨begS_good h, esB_sort h, fun z hz => ⟨z, ?_, ?_⟩, fun j hj => ?_, List.Sublist.refl _, fun e he _ => he, fun u hu => (esB_text L u).2 hu, fun e he => .inl he, lsB_len L L.n, Nat.le_of_eq (esB_len L L.m)⟩
  · refine plc_at (by show z < (lsB L L.n).length; rw [lsB_len]; exact hz) ?_ fun j hj => ?_
    · show ((lsB L L.n).getD z default).name = _
      rw [lsB_at L hz]; rfl
    · show ((lsB L L.n).getD j default).name ≠ _
      rw [lsB_at L (by omega)]
      show ((j : Nat) : Int) ≠ _
      omega
  · exact lsB_at L hz
  · have hj : j < (lsB L L.n).length := hj
    rw [lsB_len] at hj
    show ((lsB L L.n).getD j default).name < ((L.n : Nat) : Int)
    rw [lsB_at L hj]
    show ((j : Nat) : Int) < _
    omega
theorem ins_sub {l : List Sp} {a : Nat} {x : Sp} : l.Sublist (insS l a x) := by
  unfold insS
  conv => lhs; rw [← List.take_append_drop a l]
  rw [List.append_assoc]
  exact List.Sublist.append (List.Sublist.refl _) (List.sublist_append_right _ _)
theorem insE_mem {es : List En} (h : SortE es) (e x : En) : x ∈ insE es e ↔ x = e ∨ (x ∈ es ∧ x.tx ≠ e.tx) := by
  rw [(insE_perm h e).mem_iff, List.mem_cons, List.mem_filter]
  simp
theorem insE_text {es : List En} (h : SortE es) (e : En) (u : ByteArray) : isText (insE es e).length (txE (insE es e)) u ↔ u = e.tx ∨ isText es.length (txE es) u := by
  rw [isText_mem, isText_mem]
  constructor
  · rintro ⟨x, hx, ht⟩
    rcases (insE_mem h e x).1 hx with rfl | hx
    · exact .inl ht.symm
    · exact .inr ⟨x, hx.1, ht⟩
  · rintro (hu | ⟨x, hx, ht⟩)
    · exact ⟨e, (insE_mem h e e).2 (.inl rfl), hu.symm⟩
    · by_cases he : x.tx = e.tx
      · exact ⟨e, (insE_mem h e e).2 (.inl rfl), by rw [← he]; exact ht⟩
      · exact ⟨x, (insE_mem h e x).2 (.inr ⟨hx, he⟩), ht⟩
theorem RuleOk.at_le {K K' : Wk} {r : Rl} {stem : List Int} {anchor : Int} {more : List Int} (_h : RuleOk K r K' stem anchor more) : (if r.before = 0 then behindS K.ls anchor r.level else (startS K.ls anchor r.before).toNat) ≤ K.ls.length := by
  split
  · exact behindS_le _ _ _
  · have := startS_lt K.ls anchor r.before
    omega
def lvC (r : Rl) : Nat := if 0 < r.level then 1 else 0
theorem inv_step {L : Lay} {T : ByteArray → Prop} {c i : Nat} {K K' : Wk} {r : Rl} (h : Inv L T c i K) (hr : r.ok) (ha : r.reset.size ≠ 0 ∨ Anch K) (he : ruleE insE K r = .ok K') : Inv L (fun u => T u ∨ u = r.text) (c + lvC r) (i + 1) K' ∧ Anch K' := by
  obtain ⟨hg, hA⟩ := ruleE_good h.good (upd_ins h.sort) hr ha he
  obtain ⟨stem, anchor, more, ho⟩ := ruleE_ok he
  have hes := ho.hes
  refine ⟨⟨hg, ?_, fun z hz => ?_, fun j hj => ?_, ?_, fun e he' hn => ?_, fun u hu => ?_, fun e he' => ?_, ?_, ?_⟩, hA⟩
  · rw [hes]; exact insE_sort h.sort _
  · obtain ⟨j, h1, h2⟩ := h.old z hz
    by_cases hl : 0 < r.level
    · rw [(ho.up hl).1]
      have hf := h.fresh j (plc_spec h1).1
      rw [h2] at hf
      have hf : ((z : Nat) : Int) < K.names := hf
      have hle := ho.at_le
      generalize (if r.before = 0 then behindS K.ls anchor r.level else (startS K.ls anchor r.before).toNat) = A at hle ⊢
      refine ⟨_, plc_ins hle h1 (by show K.names ≠ _; omega), ?_⟩
      rw [insS_at _ hle]
      by_cases hc : j < A
      · rw [if_pos hc, if_pos hc]; exact h2
      · rw [if_neg hc, if_neg (by omega), if_neg (by omega), Nat.add_sub_cancel]; exact h2
    · rw [(ho.zero hl).1]
      exact ⟨j, h1, h2⟩
  · by_cases hl : 0 < r.level
    · obtain ⟨p1, p2, p3⟩ := ho.up hl
      have hle := ho.at_le
      rw [p1] at hj ⊢
      rw [p3]
      generalize (if r.before = 0 then behindS K.ls anchor r.level else (startS K.ls anchor r.before).toNat) = A at hle hj ⊢
      rw [insS_len _ hle] at hj
      rw [insS_at _ hle]
      by_cases hc : j < A
      · rw [if_pos hc]
        have := h.fresh j (by omega)
        omega
      · rw [if_neg hc]
        by_cases hc2 : j = A
        · rw [if_pos hc2]
          show K.names < _
          omega
        · rw [if_neg hc2]
          have := h.fresh (j - 1) (by omega)
          omega
    · obtain ⟨p1, p2, p3⟩ := ho.zero hl
      rw [p1] at hj ⊢
      rw [p3]
      exact h.fresh j hj
  · by_cases hl : 0 < r.level
    · rw [(ho.up hl).1]
      exact h.sub.trans ins_sub
    · rw [(ho.zero hl).1]; exact h.sub
  · rw [hes]
    exact (insE_mem h.sort _ e).2 (.inr ⟨h.keep e he' fun ht => hn (.inl ht), fun ht => hn (.inr ht)⟩)
  · rw [hes]
    exact (insE_text h.sort _ u).2 (.inr (h.text u hu))
  · rw [hes] at he'
    rcases (insE_mem h.sort _ e).1 he' with rfl | ⟨he', _⟩
    · exact .inr (.inr rfl)
    · exact (h.only e he').imp id .inl
  · unfold lvC
    by_cases hl : 0 < r.level
    · rw [(ho.up hl).1, insS_len _ ho.at_le, h.ln, if_pos hl]
      omega
    · rw [(ho.zero hl).1, h.ln, if_neg hl]
      omega
  · rw [hes]
    have := insE_lenI h.sort ⟨r.text, stem ++ [K'.anchor] ++ more⟩
    have := h.em
    omega
def lvs (l : List Rl) : Nat := (l.map lvC).foldr (· + ·) 0
theorem inv_list {L : Lay} : ∀ (l : List Rl) (T : ByteArray → Prop) (c i j : Nat) (K K' : Wk), Inv L T c i K → (∀ r ∈ l, r.ok) → ((∀ r, l.head? = some r → r.reset.size ≠ 0) ∨ Anch K) → rulesE insE K l j = .ok K' → Inv L (fun u => T u ∨ ∃ r ∈ l, u = r.text) (c + lvs l) (i + l.length) K'
  | [], T, c, i, j, K, K', h, _, _, he => by
    injection he with he
    subst he
    exact ⟨h.good, h.sort, h.old, h.fresh, h.sub, fun e he hn => h.keep e he fun ht => hn (.inl ht), h.text, fun e he => (h.only e he).imp id .inl, h.ln, h.em⟩
  | r :: l, T, c, i, j, K, K', h, hok, ha, he => by
    unfold rulesE at he
    cases hq : ruleE insE K r with
    | error e => rw [hq] at he; cases he
    | ok K2 =>
      rw [hq] at he
      obtain ⟨h2, a2⟩ := inv_step h (hok r (by simp)) (ha.imp (fun h => h r rfl) id) hq
      have h3 := inv_list l _ _ _ (j + 1) K2 K' h2 (fun x hx => hok x (by simp [hx])) (.inr a2) he
      have hT : ∀ u, ((T u ∨ u = r.text) ∨ ∃ x ∈ l, u = x.text) ↔ (T u ∨ ∃ x ∈ r :: l, u = x.text) := fun u => by
        simp only [List.mem_cons, exists_eq_or_imp]
        rw [or_assoc]
      refine ⟨h3.good, h3.sort, h3.old, h3.fresh, h3.sub, fun e he hn => h3.keep e he fun ht => hn ((hT _).1 ht), h3.text, fun e he => (h3.only e he).imp id (hT _).1, ?_, ?_⟩
      · rw [h3.ln]
        unfold lvs
        simp only [List.map_cons, List.foldr_cons]
        omega
      · have := h3.em
        rw [List.length_cons]
        omega
theorem spE_mono {L : Lay} {T : ByteArray → Prop} {c i : Nat} {K : Wk} (h : Inv L T c i K) {s : ByteArray} (hs : ∀ p, p < s.size → isText L.m L.tx (sub s p 1)) : SpE K.es s := fun p hp => h.text _ (hs p hp)
theorem err_list {L : Lay} : ∀ (l : List Rl) (T : ByteArray → Prop) (c i j : Nat) (K : Wk) (e : Int) (a : Nat), Inv L T c i K → (∀ r ∈ l, r.ok) → ((∀ r, l.head? = some r → r.reset.size ≠ 0) ∨ Anch K) → (∀ r ∈ l, (∀ p, p < r.reset.size → isText L.m L.tx (sub r.reset p 1)) ∧ ∀ p, p < r.more.size → isText L.m L.tx (sub r.more p 1)) → L.n + c + l.length ≤ 48 → L.m + i + l.length ≤ 48 → rulesE insE K l j = .error (e, a) → ∃ q, a = j + q ∧ q < l.length ∧ ((e = 11 ∧ (l.getD q default).before ≠ 0) ∨ e = 12)
  | [], T, c, i, j, K, e, a, h, _, _, _, _, _, he => by cases he
  | r :: l, T, c, i, j, K, e, a, h, hok, ha, hsp, hn, hm, he => by
    unfold rulesE at he
    have hln := h.ln
    have hem := h.em
    rw [List.length_cons] at hn hm
    cases hq : ruleE insE K r with
    | error x =>
      rw [hq] at he
      injection he with he
      injection he with h1 h2
      subst h1 h2
      have hs := hsp r (by simp)
      refine ⟨0, rfl, by simp, ?_⟩
      exact ruleE_bad h.sort (spE_nums (spE_mono h hs.2)) (fun _ => spE_nums (spE_mono h hs.1)) (by omega) (by omega) hq
    | ok K2 =>
      rw [hq] at he
      obtain ⟨h2, a2⟩ := inv_step h (hok r (by simp)) (ha.imp (fun h => h r rfl) id) hq
      have hlc : lvC r ≤ 1 := by unfold lvC; split <;> omega
      obtain ⟨q, q1, q2, q3⟩ := err_list l _ _ _ (j + 1) K2 e a h2 (fun x hx => hok x (by simp [hx])) (.inr a2) (fun x hx => hsp x (by simp [hx])) (by omega) (by omega) he
      exact ⟨q + 1, by omega, by simp; omega, by simpa using q3⟩

end Go.Proofs.Ytpclldccjpncdab

namespace Go.Proofs.Ytpclldccjpncdab
open Go.RowKit

/-- the nodes of a text, in memory -/
abbrev NodesL (L : Lay) (w : World) (ao : Option Addr) (l : List Nat) (b : Nat) : Prop := NodesIn w.heap.size w ao l.length b 0 (fun i => L.p (l.getD i 0)) (fun i => L.s (l.getD i 0)) (fun i => L.t (l.getD i 0))

theorem nodesOf_n (L : Lay) (s : ByteArray) (w : World) (h : L.In w.heap.size w) (hok : L.Ok) (hs : s.size ≤ 24) :
    Calls Try.prog 48 #[.agg #[.slice L.na L.n L.nc, .slice L.ea L.m L.ec], .string s] w fun e w' => Below w.heap.size w w' ∧ (nodesN L s).length ≤ 96 ∧
      ((hasP L s ∧ ∃ ao cap b, e = .returned (.tuple #[.slice ao (nodesN L s).length cap, .bool true]) ∧ NodesL L w' ao (nodesN L s) b) ∨ (¬ hasP L s ∧ e = .returned (.tuple #[.slice none 0 0, .bool false]))) := by
  refine (nodesOf_any L s w h hok hs).mono ?_
  rintro e w' ⟨q, hq, hb, hor⟩
  have hN := cutN_eq hq
  have h1 := pos_ge q hq.go
  have h2 := pos_le L.m L.tx s q
  have h3 := nums_len hok q hq.go
  unfold hasP nodesN
  rw [hN]
  exact ⟨hb, by omega, hor⟩

theorem cmpE_err {L : Lay} {a b : ByteArray} {lev : Int} (h : L.err ≠ 0) : cmpE L a b lev = L.err := by simp [cmpE, h]
theorem cmpE_long {L : Lay} {a b : ByteArray} {lev : Int} (h : L.err = 0) (h2 : 24 < a.size ∨ 24 < b.size) : cmpE L a b lev = 4 := by simp [cmpE, h, h2]
theorem cmpE_level {L : Lay} {a b : ByteArray} {lev : Int} (h : L.err = 0) (ha : a.size ≤ 24) (hb : b.size ≤ 24) (h3 : lev < 1 ∨ 3 < lev) : cmpE L a b lev = 5 := by
  have : ¬ (24 < a.size ∨ 24 < b.size) := by omega
  simp [cmpE, h, this, h3]
theorem cmpE_text {L : Lay} {a b : ByteArray} {lev : Int} (h : L.err = 0) (ha : a.size ≤ 24) (hb : b.size ≤ 24) (h3 : 1 ≤ lev) (h4 : lev ≤ 3) (h5 : ¬ hasP L a ∨ ¬ hasP L b) : cmpE L a b lev = 6 := by
  have h1 : ¬ (24 < a.size ∨ 24 < b.size) := by omega
  have h2 : ¬ (lev < 1 ∨ 3 < lev) := by omega
  simp only [cmpE, h, h1, h2, h5, ne_eq, not_true_eq_false, if_false, if_true]
theorem cmpE_ok {L : Lay} {a b : ByteArray} {lev : Int} (h : L.err = 0) (ha : a.size ≤ 24) (hb : b.size ≤ 24) (h3 : 1 ≤ lev) (h4 : lev ≤ 3) (h5 : hasP L a) (h6 : hasP L b) : cmpE L a b lev = 0 := by
  have h1 : ¬ (24 < a.size ∨ 24 < b.size) := by omega
  have h2 : ¬ (lev < 1 ∨ 3 < lev) := by omega
  have h7 : ¬ (¬ hasP L a ∨ ¬ hasP L b) := by simp [h5, h6]
  simp only [cmpE, h, h1, h2, h7, ne_eq, not_true_eq_false, if_false]
theorem cmpV_no {L : Lay} {a b : ByteArray} {lev : Int} (h : cmpE L a b lev ≠ 0) : cmpV L a b lev = 0 := by simp [cmpV, h]
theorem cmpV_ok {L : Lay} {a b : ByteArray} {lev : Int} (h : cmpE L a b lev = 0) : cmpV L a b lev = cmpFrom L a b lev.toNat 1 := by simp [cmpV, h]
theorem ret_two {x x' y y' : Int} (h1 : x = x') (h2 : y = y') : Ending.returned (.tuple #[.int .i64 x, .int .i64 y]) = .returned (.tuple #[.int .i64 x', .int .i64 y']) := by rw [h1, h2]

set_option maxRecDepth 100000 in
set_option maxHeartbeats 2000000 in
theorem tableCompare_any (L : Lay) (a b : ByteArray) (lev : Int) (w : World) (h : L.In w.heap.size w) :
    Calls Try.prog 72 #[.agg #[.slice L.na L.n L.nc, .slice L.ea L.m L.ec], .string a, .string b, .int .i64 lev] w fun e w' => e = .returned (.tuple #[.int .i64 (cmpV L a b lev), .int .i64 (cmpE L a b lev)]) ∧ Below w.heap.size w w' := by
  have HL : Hid (∀ w', Below w.heap.size w w' → L.In w'.heap.size w') := fun w' hb => h.later hb
  clear h
  by_cases he : L.err = 0
  · by_cases ha : a.size ≤ 24
    · by_cases hb : b.size ≤ 24
      · by_cases hl : 1 ≤ lev ∧ lev ≤ 3
        · obtain ⟨hl1, hl3⟩ := hl
          have HOK : Hid L.Ok := err_zero he
          have hlv : decide (1 ≤ lev ∧ lev ≤ 3) = true := by simp [hl1, hl3]
          go_enter Try.func72, Try.ntmps72
          go_wp2_with (first
            | (go_at_call 32; refine (tableValid_any L _ (HL.out _ (below_one _))).mono ?_; rintro e w1 ⟨rfl, hb1⟩; obtain ⟨hc, hf⟩ := bcell hb1; have hz1 : w.heap.size < w1.heap.size := by have := hb1.size; simp at this; omega)
            | (go_at_call 47; refine (isLevel_any _ _).mono ?_; rintro e _ ⟨rfl, rfl⟩))
          refine (nodesOf_n L a _ (HL.out _ (below_then (below_one _) hb1)) HOK.out ha).mono ?_
          rintro e w2 ⟨hb2, hlen2, hor2⟩
          obtain ⟨hc2, hf2⟩ := bcell hb2
          have hz2 : w.heap.size < w2.heap.size := by have := hb2.size; omega
          rcases hor2 with ⟨hpa, ao, acap, ab, rfl, hna⟩ | ⟨hpa, rfl⟩
          · have HNA : Hid (NodesL L w2 ao (nodesN L a) ab) := hna
            clear hna
            go_wp2_with fail
            refine (nodesOf_n L b _ (HL.out _ (below_then (below_then (below_one _) hb1) hb2)) HOK.out hb).mono ?_
            rintro e w3 ⟨hb3, hlen3, hor3⟩
            have HBW : Hid (Below w.heap.size w w3) := below_then (below_then (below_then (below_one _) hb1) hb2) hb3
            rcases hor3 with ⟨hpb, bo, bcap, bb, rfl, hnb⟩ | ⟨hpb, rfl⟩
            · have HNB : Hid (NodesL L w3 bo (nodesN L b) bb) := hnb
              have HNA3 : Hid (NodesL L w3 ao (nodesN L a) ab) := (HNA.out.below hb3).mono hb3.size
              have HE : Hid (cmpE L a b lev = 0) := cmpE_ok he ha hb hl1 hl3 hpa hpb
              clear hnb HNA hc hf hc2 hf2
              obtain ⟨t, ht⟩ : ∃ t : Nat, lev = t := ⟨lev.toNat, by omega⟩
              subst ht
              go_wp2
              go_loopw [15] (fun kv wr => ∃ k : Nat, 1 ≤ k ∧ k ≤ t + 1 ∧ kv = .int .i64 k ∧ Below w3.heap.size w3 wr ∧ cmpFrom L a b t 1 = cmpFrom L a b (t + 1 - k) k) (fun kv _ => t + 1 - (intOf kv).toNat)
              case atStart => exact ⟨1, by omega, by omega, rfl, Below.refl _ _, by simp⟩
              case round =>
                obtain ⟨k, hk1, hk2, rfl, hbel, hcf⟩ := hrel
                have HCF : Hid (cmpFrom L a b t 1 = cmpFrom L a b (t + 1 - k) k) := hcf
                clear hcf
                by_cases hkt : k ≤ t
                · have HST : Hid (cmpFrom L a b (t + 1 - k) k = if cmpL (wl L a k) (wl L b k) ≠ 0 then cmpL (wl L a k) (wl L b k) else cmpFrom L a b (t + 1 - (k + 1)) (k + 1)) := by
                    show _ = _
                    rw [show t + 1 - k = (t + 1 - (k + 1)) + 1 by omega]
                    rfl
                  go_wp2_with fail
                  refine (weights_any L (nodesN L a) k ao ab 0 acap _ (by omega) hk1 (by omega) ((HNA3.out.below hbel).mono hbel.size)).mono ?_
                  rintro e w4 ⟨pa, pcap, pb, rfl, hia, hb4⟩
                  have HIA : Hid (IntsL w4.heap.size w4 pa (wts L k (nodesN L a)) pb 0) := hia
                  clear hia
                  go_wp2_with fail
                  refine (weights_any L (nodesN L b) k bo bb 0 bcap _ (by omega) hk1 (by omega) ((HNB.out.below (below_then hbel hb4)).mono (below_then hbel hb4).size)).mono ?_
                  rintro e w5 ⟨qa, qcap, qb, rfl, hib, hb5⟩
                  have HIB : Hid (IntsL w5.heap.size w5 qa (wts L k (nodesN L b)) qb 0) := hib
                  clear hib
                  go_wp2_with fail
                  refine (compareWeights_any _ _ _ _ _ _ _ _ _ _ _ ((HIA.out.below hb5).mono hb5.size) HIB.out).mono ?_
                  rintro e w6 ⟨rfl, hb6⟩
                  obtain ⟨x, hx⟩ : ∃ x, x = cmpL (wts L k (nodesN L a)) (wts L k (nodesN L b)) := ⟨_, rfl⟩
                  rw [← hx]
                  have HX : Hid (x = cmpL (wl L a k) (wl L b k)) := hx
                  clear hx
                  have HBL : Hid (Below w3.heap.size w3 w6) := below_then (below_then (below_then hbel hb4) hb5) hb6
                  by_cases hx0 : x = 0
                  · go_wp2
                    go_roundw
                    case rel => exact ⟨k + 1, by omega, by omega, by go_num, HBL.out, by rw [HCF.out, HST.out, if_neg (by rw [← HX.out]; simpa using hx0)]⟩
                    case measure => simp [intOf]; omega
                  · go_wp2
                    go_ret2
                    refine ⟨ret_two ?_ HE.out.symm, below_then HBW.out HBL.out⟩
                    rw [cmpV_ok HE.out, show (t : Int).toNat = t by omega, HCF.out, HST.out, if_pos (by rw [← HX.out]; exact hx0)]
                    exact HX.out
                · go_wp2
                  go_ret2
                  refine ⟨ret_two ?_ HE.out.symm, below_then HBW.out hbel⟩
                  have hke : t + 1 - k = 0 := by omega
                  rw [cmpV_ok HE.out, show (t : Int).toNat = t by omega, HCF.out, hke]
                  rfl
            · have HE : Hid (cmpE L a b lev = 6) := cmpE_text he ha hb hl1 hl3 (.inr hpb)
              go_wp2
              go_ret2
              exact ⟨ret_two (cmpV_no (by rw [HE.out]; decide)).symm HE.out.symm, HBW.out⟩
          · have HE : Hid (cmpE L a b lev = 6) := cmpE_text he ha hb hl1 hl3 (.inl hpa)
            go_wp2_with fail
            refine (nodesOf_n L b _ (HL.out _ (below_then (below_then (below_one _) hb1) hb2)) HOK.out hb).mono ?_
            rintro e w3 ⟨hb3, hlen3, hor3⟩
            have HBW : Hid (Below w.heap.size w w3) := below_then (below_then (below_then (below_one _) hb1) hb2) hb3
            rcases hor3 with ⟨hpb, bo, bcap, bb, rfl, hnb⟩ | ⟨hpb, rfl⟩
            · clear hnb
              go_wp2
              go_ret2
              exact ⟨ret_two (cmpV_no (by rw [HE.out]; decide)).symm HE.out.symm, HBW.out⟩
            · go_wp2
              go_ret2
              exact ⟨ret_two (cmpV_no (by rw [HE.out]; decide)).symm HE.out.symm, HBW.out⟩
        · have hlv : decide (1 ≤ lev ∧ lev ≤ 3) = false := by simpa using hl
          have hE : cmpE L a b lev = 5 := cmpE_level he ha hb (by omega)
          have HE : Hid (cmpE L a b lev = 5) := hE
          clear hE
          go_enter Try.func72, Try.ntmps72
          go_wp2_with (first
            | (go_at_call 32; refine (tableValid_any L _ (HL.out _ (below_one _))).mono ?_; rintro e w1 ⟨rfl, hb1⟩)
            | (go_at_call 47; refine (isLevel_any _ _).mono ?_; rintro e _ ⟨rfl, rfl⟩))
          go_ret2
          exact ⟨ret_two (cmpV_no (by rw [HE.out]; decide)).symm HE.out.symm, below_then (below_one _) hb1⟩
      · have HE : Hid (cmpE L a b lev = 4) := cmpE_long he (by omega)
        go_enter Try.func72, Try.ntmps72
        go_wp2_with (first
          | (go_at_call 32; refine (tableValid_any L _ (HL.out _ (below_one _))).mono ?_; rintro e w1 ⟨rfl, hb1⟩))
        go_ret2
        exact ⟨ret_two (cmpV_no (by rw [HE.out]; decide)).symm HE.out.symm, below_then (below_one _) hb1⟩
    · have HE : Hid (cmpE L a b lev = 4) := cmpE_long he (by omega)
      go_enter Try.func72, Try.ntmps72
      go_wp2_with (first
        | (go_at_call 32; refine (tableValid_any L _ (HL.out _ (below_one _))).mono ?_; rintro e w1 ⟨rfl, hb1⟩))
      go_ret2
      exact ⟨ret_two (cmpV_no (by rw [HE.out]; decide)).symm HE.out.symm, below_then (below_one _) hb1⟩
  · have HE : Hid (cmpE L a b lev = L.err) := cmpE_err he
    go_enter Try.func72, Try.ntmps72
    go_wp2_with (first
      | (go_at_call 32; refine (tableValid_any L _ (HL.out _ (below_one _))).mono ?_; rintro e w1 ⟨rfl, hb1⟩))
    go_ret2
    exact ⟨ret_two (cmpV_no (by rw [HE.out]; exact he)).symm HE.out.symm, below_then (below_one _) hb1⟩


set_option maxHeartbeats 400000 in
theorem compare_any (L : Lay) (a b : ByteArray) (lev : Int) (w : World) (h : L.In w.heap.size w) :
    Calls Try.prog 50 #[.agg #[.slice L.na L.n L.nc, .slice L.ea L.m L.ec], .string a, .string b, .int .i64 lev] w fun e w' => e = .returned (.tuple #[.int .i64 (cmpV L a b lev), .int .i64 (cmpE L a b lev)]) ∧ Below w.heap.size w w' := by
  have HL : Hid (∀ w', Below w.heap.size w w' → L.In w'.heap.size w') := fun w' hb => h.later hb
  clear h
  go_enter Try.func50, Try.ntmps50
  go_wp2_with (go_at_call 72; refine (tableCompare_any L _ _ _ _ (HL.out _ (below_one _))).mono ?_; rintro e w1 ⟨rfl, hb1⟩)
  go_ret2
  exact ⟨rfl, below_then (below_one _) hb1⟩

end Go.Proofs.Ytpclldccjpncdab
