import Derived.Test.YtpclldccjpncdaaCutY
namespace Go.Proofs.Ytpclldccjpncdaa
open Go.RowKit

/-! ### Weights, comparison -/
def cmpL : List Int → List Int → Int
  | [], [] => 0
  | [], _ :: _ => -1
  | _ :: _, [] => 1
  | a :: l, b :: r => if a < b then -1 else if b < a then 1 else cmpL l r
theorem cmpL_lt {a b : List Int} {j : Nat} (ha : j < a.length) (hb : j < b.length) (h : a.getD j 0 < b.getD j 0) : cmpL (a.drop j) (b.drop j) = -1 := by
  rw [List.drop_eq_getElem_cons ha, List.drop_eq_getElem_cons hb]
  simp only [List.getD, List.getElem?_eq_getElem ha, List.getElem?_eq_getElem hb, Option.getD_some] at h
  simp [cmpL, h]
theorem cmpL_gt {a b : List Int} {j : Nat} (ha : j < a.length) (hb : j < b.length) (h : b.getD j 0 < a.getD j 0) : cmpL (a.drop j) (b.drop j) = 1 := by
  rw [List.drop_eq_getElem_cons ha, List.drop_eq_getElem_cons hb]
  simp only [List.getD, List.getElem?_eq_getElem ha, List.getElem?_eq_getElem hb, Option.getD_some] at h
  have h1 : ¬ a[j] < b[j] := by omega
  simp [cmpL, h, h1]
theorem cmpL_eq {a b : List Int} {j : Nat} (ha : j < a.length) (hb : j < b.length) (h : a.getD j 0 = b.getD j 0) : cmpL (a.drop j) (b.drop j) = cmpL (a.drop (j + 1)) (b.drop (j + 1)) := by
  rw [List.drop_eq_getElem_cons ha, List.drop_eq_getElem_cons hb]
  simp only [List.getD, List.getElem?_eq_getElem ha, List.getElem?_eq_getElem hb, Option.getD_some] at h
  have h1 : ¬ a[j] < b[j] := by omega
  have h2 : ¬ b[j] < a[j] := by omega
  simp [cmpL, h]
theorem cmpL_end {a b : List Int} {j : Nat} (h : j = a.length ∨ j = b.length) (ha : j ≤ a.length) (hb : j ≤ b.length) : cmpL (a.drop j) (b.drop j) = if a.length < b.length then -1 else if b.length < a.length then 1 else 0 := by
  rcases h with h | h
  · rw [List.drop_of_length_le (l := a) (by omega)]
    by_cases e : j < b.length
    · rw [List.drop_eq_getElem_cons e]
      have : a.length < b.length := by omega
      simp [cmpL, this]
    · rw [List.drop_of_length_le (l := b) (by omega)]
      have h1 : ¬ a.length < b.length := by omega
      have h2 : ¬ b.length < a.length := by omega
      simp [cmpL, h1, h2]
  · rw [List.drop_of_length_le (l := b) (by omega)]
    by_cases e : j < a.length
    · rw [List.drop_eq_getElem_cons e]
      have h1 : ¬ a.length < b.length := by omega
      have h2 : b.length < a.length := by omega
      simp [cmpL, h1, h2]
    · rw [List.drop_of_length_le (l := a) (by omega)]
      have h1 : ¬ a.length < b.length := by omega
      have h2 : ¬ b.length < a.length := by omega
      simp [cmpL, h1, h2]
theorem cmpL_vals : ∀ a b : List Int, cmpL a b = -1 ∨ cmpL a b = 0 ∨ cmpL a b = 1
  | [], [] => by simp [cmpL]
  | [], _ :: _ => by simp [cmpL]
  | _ :: _, [] => by simp [cmpL]
  | a :: l, b :: r => by
    unfold cmpL
    split
    · simp
    · split
      · simp
      · exact cmpL_vals l r

def entNums (z : Nat → Nat → Int) (k : Nat → Nat) (j : Nat) : List Nat := (List.range (k j)).map fun i => (z j i).toNat
noncomputable def nums (L : Lay) (s : ByteArray) (q : Nat) : List Nat := (List.range q).flatMap fun j => entNums L.z L.k (pidx L.m L.tx s j)
theorem nums_succ (L : Lay) (s : ByteArray) (q : Nat) : nums L s (q + 1) = nums L s q ++ entNums L.z L.k (pidx L.m L.tx s q) := by simp [nums, List.range_succ]
theorem entNums_len (z : Nat → Nat → Int) (k : Nat → Nat) (j : Nat) : (entNums z k j).length = k j := by simp [entNums]
theorem entNums_take (z : Nat → Nat → Int) (k : Nat → Nat) (j i : Nat) (h : i < k j) : (entNums z k j).take (i + 1) = (entNums z k j).take i ++ [(z j i).toNat] := by
  rw [List.take_succ_eq_append_getElem (by rw [entNums_len]; exact h)]
  simp [entNums]
theorem nums_len {L : Lay} (hok : L.Ok) {s : ByteArray} : ∀ q, (∀ j, j < q → 0 < lenAt L.m L.tx s (pos L.m L.tx s j)) → (nums L s q).length ≤ 4 * q
  | 0, _ => by simp [nums]
  | q + 1, h => by
    have h1 := nums_len hok q (fun j hj => h j (by omega))
    have h2 := (hok.k _ (pidx_spec h (Nat.lt_succ_self q)).1).2
    rw [nums_succ, List.length_append, entNums_len]
    omega
theorem nums_lt {L : Lay} (hok : L.Ok) {s : ByteArray} : ∀ q, (∀ j, j < q → 0 < lenAt L.m L.tx s (pos L.m L.tx s j)) → ∀ c ∈ nums L s q, c < L.n
  | 0, _, c, hc => by simp [nums] at hc
  | q + 1, h, c, hc => by
    rw [nums_succ, List.mem_append] at hc
    rcases hc with hc | hc
    · exact nums_lt hok q (fun j hj => h j (by omega)) c hc
    · simp only [entNums, List.mem_map, List.mem_range] at hc
      obtain ⟨i, hi, rfl⟩ := hc
      have := hok.z _ (pidx_spec h (Nat.lt_succ_self q)).1 i hi
      omega

def wt (L : Lay) (lv : Nat) (c : Nat) : Int := if lv = 1 then L.p c else if lv = 2 then L.s c else L.t c
theorem wt_bd {L : Lay} (hok : L.Ok) (lv c : Nat) (h : c < L.n) : 0 ≤ wt L lv c ∧ wt L lv c ≤ 250 := by
  have := hok.node c h
  simp only [nodeB, decide_eq_true_eq] at this
  unfold wt
  split
  · omega
  · split <;> omega
def wts (L : Lay) (lv : Nat) (l : List Nat) : List Int := (l.map (wt L lv)).filter (· ≠ 0)

open Classical in
noncomputable def cutN (L : Lay) (s : ByteArray) : Nat := if h : ∃ q, Cut L.m L.tx s q then h.choose else 0
theorem cutN_eq {L : Lay} {s : ByteArray} {q : Nat} (h : Cut L.m L.tx s q) : cutN L s = q := by
  have hx : ∃ q, Cut L.m L.tx s q := ⟨q, h⟩
  unfold cutN
  rw [dif_pos hx]
  exact hx.choose_spec.uniq h
def hasP (L : Lay) (s : ByteArray) : Prop := pos L.m L.tx s (cutN L s) = s.size
noncomputable def nodesN (L : Lay) (s : ByteArray) : List Nat := nums L s (cutN L s)
noncomputable def wl (L : Lay) (s : ByteArray) (lv : Nat) : List Int := wts L lv (nodesN L s)
/-- the first level from lv on, up to top, that tells -/
noncomputable def cmpFrom (L : Lay) (a b : ByteArray) : Nat → Nat → Int
  | 0, _ => 0
  | f + 1, lv => if cmpL (wl L a lv) (wl L b lv) ≠ 0 then cmpL (wl L a lv) (wl L b lv) else cmpFrom L a b f (lv + 1)
open Classical in
noncomputable def cmpE (L : Lay) (a b : ByteArray) (lev : Int) : Int :=
  if L.err ≠ 0 then L.err else if 24 < a.size ∨ 24 < b.size then 4 else if lev < 1 ∨ 3 < lev then 5 else if ¬ hasP L a ∨ ¬ hasP L b then 6 else 0
noncomputable def cmpV (L : Lay) (a b : ByteArray) (lev : Int) : Int := if cmpE L a b lev ≠ 0 then 0 else cmpFrom L a b lev.toNat 1

/-- a list of numbers in memory -/
abbrev IntsL (B : Nat) (w : World) (ao : Option Addr) (l : List Int) (b off : Nat) : Prop := IntsIn B w ao l.length b off (fun i => l.getD i 0)

/-- the cells of a list of nodes -/
def nodesC (L : Lay) (l : List Nat) : List Value := l.flatMap fun c => [.int .i64 (L.p c), .int .i64 (L.s c), .int .i64 (L.t c)]
theorem nodesC_len (L : Lay) : ∀ l : List Nat, (nodesC L l).length = l.length * 3
  | [] => rfl
  | c :: r => by
    have := nodesC_len L r
    simp only [nodesC, List.flatMap_cons, List.length_append, List.length_cons, List.length_nil] at this ⊢
    omega
theorem nodesC_snoc (L : Lay) (l : List Nat) (c : Nat) : nodesC L (l ++ [c]) = nodesC L l ++ [.int .i64 (L.p c), .int .i64 (L.s c), .int .i64 (L.t c)] := by simp [nodesC]
theorem nodesC_at (L : Lay) : ∀ (l : List Nat) (i : Nat), i < l.length → (nodesC L l)[i * 3]? = some (.int .i64 (L.p (l.getD i 0))) ∧ (nodesC L l)[i * 3 + 1]? = some (.int .i64 (L.s (l.getD i 0))) ∧ (nodesC L l)[i * 3 + 2]? = some (.int .i64 (L.t (l.getD i 0)))
  | [], i, h => by simp at h
  | c :: r, 0, _ => by simp [nodesC]
  | c :: r, i + 1, h => by
    have := nodesC_at L r i (by simpa using h)
    have e : nodesC L (c :: r) = .int .i64 (L.p c) :: .int .i64 (L.s c) :: .int .i64 (L.t c) :: nodesC L r := rfl
    rw [e, show (i + 1) * 3 = i * 3 + 1 + 1 + 1 by omega, show i * 3 + 1 + 1 + 1 + 1 = (i * 3 + 1) + 1 + 1 + 1 by omega, show i * 3 + 1 + 1 + 1 + 2 = (i * 3 + 2) + 1 + 1 + 1 by omega]
    simpa [List.getElem?_cons_succ] using this
/-- nodes that the call has made, as nodes in memory -/
theorem nodes_of_own {w : World} {base : Nat} {v : Value} {L : Lay} {l : List Nat} (hl : l.length ≤ 1000) (ho : w.ownsRow base 60 3 v l.length (nodesC L l)) :
    ∃ ao cap b, v = .slice ao l.length cap ∧ NodesIn w.heap.size w ao l.length b 0 (fun i => L.p (l.getD i 0)) (fun i => L.s (l.getD i 0)) (fun i => L.t (l.getD i 0)) := by
  obtain ⟨vo, vc, gv, rfl, ha, hc⟩ := own_cells ho
  refine ⟨vo, vc, gv, rfl, ⟨fun h0 => (ha h0).1, fun h0 => (ha h0).2.1, fun i hi => ?_, fun i hi => ?_, fun i hi => ?_, by omega⟩⟩
  · have := hc (i * 3) _ (by omega) (nodesC_at L l i hi).1
    simpa using this
  · have := hc (i * 3 + 1) _ (by omega) (nodesC_at L l i hi).2.1
    simpa using this
  · have := hc (i * 3 + 2) _ (by omega) (nodesC_at L l i hi).2.2
    simpa using this
theorem ints_of_own {w : World} {base : Nat} {v : Value} {l : List Int} {n : Nat} (hn : n = l.length) (hl : n ≤ 1000) (ho : w.ownsRow base 3 1 v n (l.map (Value.int .i64))) : ∃ ao cap b, v = .slice ao l.length cap ∧ IntsL w.heap.size w ao l b 0 := by
  subst hn
  obtain ⟨vo, vc, gv, rfl, ha, hc⟩ := own_cells ho
  refine ⟨vo, vc, gv, rfl, ⟨fun h0 => (ha h0).1, fun h0 => (ha h0).2.1, fun i hi => ?_, by omega⟩⟩
  have := hc i (.int .i64 (l.getD i 0)) (by omega) (by simp [List.getD, List.getElem?_eq_getElem hi])
  simpa using this

end Go.Proofs.Ytpclldccjpncdaa
