import Derived.Test.YtpclldccjpncdabGreatM09
import Derived.Deep.RegionLaw
import Derived.Deep.QuietTactic
import Derived.BigQuiet
import Derived.Maps.AppendAt
import Derived.OwnWalk
import Derived.Laws.Rows
namespace Go.Proofs.YtpclldccjpncdabGreat
open Go.RowKit

/-! ### Weights, comparison -/
def cmpL : List Int → List Int → Int
  | [], [] => 0
  | [], _ :: _ => -1
  | _ :: _, [] => 1
  | a :: l, b :: r => if a < b then -1 else if b < a then 1 else cmpL l r
theorem cmpL_lt {a b : List Int} {j : Nat} (ha : j < a.length) (hb : j < b.length) (h : a.getD j 0 < b.getD j 0) : cmpL (a.drop j) (b.drop j) = -1 := by
  rw [List.drop_eq_getElem_cons ha, List.drop_eq_getElem_cons hb]
  simp only [List.getD, List.getElem?_eq_getElem ha, List.getElem?_eq_getElem hb, Option.getD_some] at h
  simp [cmpL, h]
theorem cmpL_gt {a b : List Int} {j : Nat} (ha : j < a.length) (hb : j < b.length) (h : b.getD j 0 < a.getD j 0) : cmpL (a.drop j) (b.drop j) = 1 := by
  rw [List.drop_eq_getElem_cons ha, List.drop_eq_getElem_cons hb]
  simp only [List.getD, List.getElem?_eq_getElem ha, List.getElem?_eq_getElem hb, Option.getD_some] at h
  have h1 : ¬ a[j] < b[j] := by omega
  simp [cmpL, h, h1]
theorem cmpL_eq {a b : List Int} {j : Nat} (ha : j < a.length) (hb : j < b.length) (h : a.getD j 0 = b.getD j 0) : cmpL (a.drop j) (b.drop j) = cmpL (a.drop (j + 1)) (b.drop (j + 1)) := by
  rw [List.drop_eq_getElem_cons ha, List.drop_eq_getElem_cons hb]
  simp only [List.getD, List.getElem?_eq_getElem ha, List.getElem?_eq_getElem hb, Option.getD_some] at h
  have h1 : ¬ a[j] < b[j] := by omega
  have h2 : ¬ b[j] < a[j] := by omega
  simp [cmpL, h]
theorem cmpL_end {a b : List Int} {j : Nat} (h : j = a.length ∨ j = b.length) (ha : j ≤ a.length) (hb : j ≤ b.length) : cmpL (a.drop j) (b.drop j) = if a.length < b.length then -1 else if b.length < a.length then 1 else 0 := by
  rcases h with h | h
  · rw [List.drop_of_length_le (l := a) (by omega)]
    by_cases e : j < b.length
    · rw [List.drop_eq_getElem_cons e]
      have : a.length < b.length := by omega
      simp [cmpL, this]
    · rw [List.drop_of_length_le (l := b) (by omega)]
      have h1 : ¬ a.length < b.length := by omega
      have h2 : ¬ b.length < a.length := by omega
      simp [cmpL, h1, h2]
  · rw [List.drop_of_length_le (l := b) (by omega)]
    by_cases e : j < a.length
    · rw [List.drop_eq_getElem_cons e]
      have h1 : ¬ a.length < b.length := by omega
      have h2 : b.length < a.length := by omega
      simp [cmpL, h1, h2]
    · rw [List.drop_of_length_le (l := a) (by omega)]
      have h1 : ¬ a.length < b.length := by omega
      have h2 : ¬ b.length < a.length := by omega
      simp [cmpL, h1, h2]
theorem cmpL_vals : ∀ a b : List Int, cmpL a b = -1 ∨ cmpL a b = 0 ∨ cmpL a b = 1
  | [], [] => by simp [cmpL]
  | [], _ :: _ => by simp [cmpL]
  | _ :: _, [] => by simp [cmpL]
  | a :: l, b :: r => by
    unfold cmpL
    split
    · simp
    · split
      · simp
      · exact cmpL_vals l r

def entNums (z : Nat → Nat → Int) (k : Nat → Nat) (j : Nat) : List Nat := (List.range (k j)).map fun i => (z j i).toNat
noncomputable def nums (L : Lay) (s : ByteArray) (q : Nat) : List Nat := (List.range q).flatMap fun j => entNums L.z L.k (pidx L.m L.tx s j)
theorem nums_succ (L : Lay) (s : ByteArray) (q : Nat) : nums L s (q + 1) = nums L s q ++ entNums L.z L.k (pidx L.m L.tx s q) := by simp [nums, List.range_succ]
theorem entNums_len (z : Nat → Nat → Int) (k : Nat → Nat) (j : Nat) : (entNums z k j).length = k j := by simp [entNums]
theorem entNums_take (z : Nat → Nat → Int) (k : Nat → Nat) (j i : Nat) (h : i < k j) : (entNums z k j).take (i + 1) = (entNums z k j).take i ++ [(z j i).toNat] := by
  rw [List.take_succ_eq_append_getElem (by rw [entNums_len]; exact h)]
  simp [entNums]
theorem nums_len {L : Lay} (hok : L.Ok) {s : ByteArray} : ∀ q, (∀ j, j < q → 0 < lenAt L.m L.tx s (pos L.m L.tx s j)) → (nums L s q).length ≤ 4 * q
  | 0, _ => by simp [nums]
  | q + 1, h => by
    have h1 := nums_len hok q (fun j hj => h j (by omega))
    have h2 := (hok.k _ (pidx_spec h (Nat.lt_succ_self q)).1).2
    rw [nums_succ, List.length_append, entNums_len]
    omega
theorem nums_lt {L : Lay} (hok : L.Ok) {s : ByteArray} : ∀ q, (∀ j, j < q → 0 < lenAt L.m L.tx s (pos L.m L.tx s j)) → ∀ c ∈ nums L s q, c < L.n
  | 0, _, c, hc => by simp [nums] at hc
  | q + 1, h, c, hc => by
    rw [nums_succ, List.mem_append] at hc
    rcases hc with hc | hc
    · exact nums_lt hok q (fun j hj => h j (by omega)) c hc
    · simp only [entNums, List.mem_map, List.mem_range] at hc
      obtain ⟨i, hi, rfl⟩ := hc
      have := hok.z _ (pidx_spec h (Nat.lt_succ_self q)).1 i hi
      omega

def wt (L : Lay) (lv : Nat) (c : Nat) : Int := if lv = 1 then L.p c else if lv = 2 then L.s c else L.t c
theorem wt_bd {L : Lay} (hok : L.Ok) (lv c : Nat) (h : c < L.n) : 0 ≤ wt L lv c ∧ wt L lv c ≤ 250 := by
  have := hok.node c h
  simp only [nodeB, decide_eq_true_eq] at this
  unfold wt
  split
  · omega
  · split <;> omega
def wts (L : Lay) (lv : Nat) (l : List Nat) : List Int := (l.map (wt L lv)).filter (· ≠ 0)

open Classical in
noncomputable def cutN (L : Lay) (s : ByteArray) : Nat := if h : ∃ q, Cut L.m L.tx s q then h.choose else 0
theorem cutN_eq {L : Lay} {s : ByteArray} {q : Nat} (h : Cut L.m L.tx s q) : cutN L s = q := by
  have hx : ∃ q, Cut L.m L.tx s q := ⟨q, h⟩
  unfold cutN
  rw [dif_pos hx]
  exact hx.choose_spec.uniq h
def hasP (L : Lay) (s : ByteArray) : Prop := pos L.m L.tx s (cutN L s) = s.size
noncomputable def nodesN (L : Lay) (s : ByteArray) : List Nat := nums L s (cutN L s)
noncomputable def wl (L : Lay) (s : ByteArray) (lv : Nat) : List Int := wts L lv (nodesN L s)
/-- the first level from lv on, up to top, that tells -/
noncomputable def cmpFrom (L : Lay) (a b : ByteArray) : Nat → Nat → Int
  | 0, _ => 0
  | f + 1, lv => if cmpL (wl L a lv) (wl L b lv) ≠ 0 then cmpL (wl L a lv) (wl L b lv) else cmpFrom L a b f (lv + 1)
open Classical in
noncomputable def cmpE (L : Lay) (a b : ByteArray) (lev : Int) : Int :=
  if L.err ≠ 0 then L.err else if 24 < a.size ∨ 24 < b.size then 4 else if lev < 1 ∨ 3 < lev then 5 else if ¬ hasP L a ∨ ¬ hasP L b then 6 else 0
noncomputable def cmpV (L : Lay) (a b : ByteArray) (lev : Int) : Int := if cmpE L a b lev ≠ 0 then 0 else cmpFrom L a b lev.toNat 1

/-- a list of numbers in memory -/
abbrev IntsL (B : Nat) (w : World) (ao : Option Addr) (l : List Int) (b off : Nat) : Prop := IntsIn B w ao l.length b off (fun i => l.getD i 0)

/-- the cells of a list of nodes -/
def nodesC (L : Lay) (l : List Nat) : List Value := l.flatMap fun c => [.int .i64 (L.p c), .int .i64 (L.s c), .int .i64 (L.t c)]
theorem nodesC_len (L : Lay) : ∀ l : List Nat, (nodesC L l).length = l.length * 3
  | [] => rfl
  | c :: r => by
    have := nodesC_len L r
    simp only [nodesC, List.flatMap_cons, List.length_append, List.length_cons, List.length_nil] at this ⊢
    omega
theorem nodesC_snoc (L : Lay) (l : List Nat) (c : Nat) : nodesC L (l ++ [c]) = nodesC L l ++ [.int .i64 (L.p c), .int .i64 (L.s c), .int .i64 (L.t c)] := by simp [nodesC]
theorem nodesC_at (L : Lay) : ∀ (l : List Nat) (i : Nat), i < l.length → (nodesC L l)[i * 3]? = some (.int .i64 (L.p (l.getD i 0))) ∧ (nodesC L l)[i * 3 + 1]? = some (.int .i64 (L.s (l.getD i 0))) ∧ (nodesC L l)[i * 3 + 2]? = some (.int .i64 (L.t (l.getD i 0)))
  | [], i, h => by simp at h
  | c :: r, 0, _ => by simp [nodesC]
  | c :: r, i + 1, h => by
    have := nodesC_at L r i (by simpa using h)
    have e : nodesC L (c :: r) = .int .i64 (L.p c) :: .int .i64 (L.s c) :: .int .i64 (L.t c) :: nodesC L r := rfl
    rw [e, show (i + 1) * 3 = i * 3 + 1 + 1 + 1 by omega, show i * 3 + 1 + 1 + 1 + 1 = (i * 3 + 1) + 1 + 1 + 1 by omega, show i * 3 + 1 + 1 + 1 + 2 = (i * 3 + 2) + 1 + 1 + 1 by omega]
    simpa [List.getElem?_cons_succ] using this
/-- nodes that the call has made, as nodes in memory -/
theorem nodes_of_own {w : World} {base : Nat} {v : Value} {L : Lay} {l : List Nat} (hl : l.length ≤ 1000) (ho : w.ownsRow base 65 3 v l.length (nodesC L l)) :
    ∃ ao cap b, v = .slice ao l.length cap ∧ NodesIn w.heap.size w ao l.length b 0 (fun i => L.p (l.getD i 0)) (fun i => L.s (l.getD i 0)) (fun i => L.t (l.getD i 0)) := by
  obtain ⟨vo, vc, gv, rfl, ha, hc⟩ := own_cells ho
  refine ⟨vo, vc, gv, rfl, ⟨fun h0 => (ha h0).1, fun h0 => (ha h0).2.1, fun i hi => ?_, fun i hi => ?_, fun i hi => ?_, by omega⟩⟩
  · have := hc (i * 3) _ (by omega) (nodesC_at L l i hi).1
    simpa using this
  · have := hc (i * 3 + 1) _ (by omega) (nodesC_at L l i hi).2.1
    simpa using this
  · have := hc (i * 3 + 2) _ (by omega) (nodesC_at L l i hi).2.2
    simpa using this
theorem ints_of_own {w : World} {base : Nat} {v : Value} {l : List Int} {n : Nat} (hn : n = l.length) (hl : n ≤ 1000) (ho : w.ownsRow base 3 1 v n (l.map (Value.int .i64))) : ∃ ao cap b, v = .slice ao l.length cap ∧ IntsL w.heap.size w ao l b 0 := by
  subst hn
  obtain ⟨vo, vc, gv, rfl, ha, hc⟩ := own_cells ho
  refine ⟨vo, vc, gv, rfl, ⟨fun h0 => (ha h0).1, fun h0 => (ha h0).2.1, fun i hi => ?_, by omega⟩⟩
  have := hc i (.int .i64 (l.getD i 0)) (by omega) (by simp [List.getD, List.getElem?_eq_getElem hi])
  simpa using this

end Go.Proofs.YtpclldccjpncdabGreat

namespace Go.Proofs.YtpclldccjpncdabGreat
open Go.RowKit

theorem infoNode : (Tryz.prog.info? 65).map (fun i => (i.zero, i.size, i.bytes)) = some (some (.agg #[.int .i64 0, .int .i64 0, .int .i64 0]), 3, 24) := by kernel_rfl
theorem infoInt : (Tryz.prog.info? 3).map (fun i => (i.zero, i.size, i.bytes)) = some (some (.int .i64 0), 1, 8) := by kernel_rfl
theorem new_three (w : World) (a b c : Value) (t : TypeId) : ∀ (j : Nat) (u : Value), [a, b, c][j]? = some u → (w.alloc (.cells #[a, b, c] t)).cell? ((⟨w.heap.size, 0, none⟩ : Addr).add j) = some u := by
  intro j u hj
  have hr : (w.alloc (.cells #[a, b, c] t)).rowIs w.heap.size t 3 (fun i => #[a, b, c].getD i undef) := row_new w _ t 3 rfl
  match j, hj with
  | 0, hj => simp at hj; subst hj; exact hr.cell (i := 0) (by omega)
  | 1, hj => simp at hj; subst hj; exact hr.cell (i := 1) (by omega)
  | 2, hj => simp at hj; subst hj; exact hr.cell (i := 2) (by omega)

set_option maxHeartbeats 400000 in
theorem weight_any (p s t : Int) (lv : Nat) (w : World) (h1 : 1 ≤ lv) (h3 : lv ≤ 3) :
    Calls Tryz.prog 100 #[.agg #[.int .i64 p, .int .i64 s, .int .i64 t], .int .i64 lv] w fun e w' => e = .returned (.int .i64 (if lv = 1 then p else if lv = 2 then s else t)) ∧ Below w.heap.size w w' := by
  have : lv = 1 ∨ lv = 2 ∨ lv = 3 := by omega
  rcases this with rfl | rfl | rfl
  all_goals
    go_enter Tryz.func100, Tryz.ntmps100
    go_wp2
    go_ret
    exact ⟨rfl, below_one _⟩

set_option maxHeartbeats 400000 in
theorem isLevel_any (lev : Int) (w : World) :
    Calls Tryz.prog 71 #[.int .i64 lev] w fun e w' => e = .returned (.bool (decide (1 ≤ lev ∧ lev ≤ 3))) ∧ w = w' := by
  by_cases h1 : 1 ≤ lev
  · by_cases h2 : lev ≤ 3
    all_goals
      go_enter Tryz.func71, Tryz.ntmps71
      go_wp2
      go_ret
      exact ⟨ret_bool (by simp [h1, h2]), rfl⟩
  · go_enter Tryz.func71, Tryz.ntmps71
    go_wp2
    go_ret
    exact ⟨ret_bool (by simp; intro _; omega), rfl⟩

set_option maxHeartbeats 1000000 in
theorem compareWeights_any (a b : List Int) (ao bo : Option Addr) (ab aoff bb boff acap bcap : Nat) (w : World) (h : IntsL w.heap.size w ao a ab aoff) (h' : IntsL w.heap.size w bo b bb boff) :
    Calls Tryz.prog 74 #[.slice ao a.length acap, .slice bo b.length bcap] w fun e w' => e = .returned (.int .i64 (cmpL a b)) ∧ Below w.heap.size w w' := by
  have la := h.le
  have lb := h'.le
  have HA : Hid (IntsL w.heap.size w ao a ab aoff) := h
  have HB : Hid (IntsL w.heap.size w bo b bb boff) := h'
  clear h h'
  obtain ⟨n, hn⟩ : ∃ n, n = a.length := ⟨_, rfl⟩
  obtain ⟨m, hm⟩ : ∃ m, m = b.length := ⟨_, rfl⟩
  rw [← hn] at la ⊢
  rw [← hm] at lb ⊢
  have HN : Hid (n = a.length) := hn
  have HM : Hid (m = b.length) := hm
  clear hn hm
  go_enter Tryz.func74, Tryz.ntmps74
  go_wp2
  go_loopw [5] (fun iv wr => ∃ j : Nat, j ≤ n ∧ j ≤ m ∧ iv = .int .i64 j ∧ Below w.heap.size w wr ∧ cmpL (a.drop j) (b.drop j) = cmpL a b) (fun iv _ => n - (intOf iv).toNat)
  case atStart => exact ⟨0, Nat.zero_le _, Nat.zero_le _, rfl, Below.refl _ _, by simp⟩
  case round =>
    obtain ⟨j, hj1, hj2, rfl, hbel, hcmp⟩ := hrel
    have HC : Hid (cmpL (a.drop j) (b.drop j) = cmpL a b) := hcmp
    clear hcmp
    by_cases hja : j < n
    · by_cases hjb : j < m
      · have pa : j < a.length := by have := HN.out; omega
        have pb : j < b.length := by have := HM.out; omega
        have e1 := HA.out.addr (by omega)
        have e2 := HB.out.addr (by omega)
        subst e1
        subst e2
        have c0 := cellTo hbel (HA.out.cell j pa) (HA.out.lt (by omega))
        have c1 := cellTo hbel (HB.out.cell j pb) (HB.out.lt (by omega))
        obtain ⟨x, hx⟩ : ∃ x, x = a.getD j 0 := ⟨_, rfl⟩
        obtain ⟨y, hy⟩ : ∃ y, y = b.getD j 0 := ⟨_, rfl⟩
        have HX : Hid (x = a.getD j 0) := hx
        have HY : Hid (y = b.getD j 0) := hy
        rw [← hx] at c0
        rw [← hy] at c1
        clear hx hy pa pb
        by_cases hlt : x < y
        · go_wp2
          go_quiet (fail)
          go_wp2
          go_ret
          exact ⟨ret_int (by rw [← HC.out]; exact (cmpL_lt (by have := HN.out; omega) (by have := HM.out; omega) (by rw [← HX.out, ← HY.out]; exact hlt)).symm), below_drewN hbel _⟩
        · by_cases hgt : y < x
          · go_wp2
            go_quiet (fail)
            go_wp2
            go_quiet (fail)
            go_wp2
            go_ret
            exact ⟨ret_int (by rw [← HC.out]; exact (cmpL_gt (by have := HN.out; omega) (by have := HM.out; omega) (by rw [← HX.out, ← HY.out]; exact hgt)).symm), (by first | exact below_drewN hbel _ | exact below_drewN (below_drewN hbel _) _)⟩
          · go_wp2
            go_quiet (fail)
            go_wp2
            go_quiet (fail)
            go_wp2
            go_roundw
            case rel => exact ⟨j + 1, by omega, by omega, by go_num, (by first | exact below_drewN hbel _ | exact below_drewN (below_drewN hbel _) _), by rw [← HC.out]; exact (cmpL_eq (by have := HN.out; omega) (by have := HM.out; omega) (by rw [← HX.out, ← HY.out]; omega)).symm⟩
            case measure => simp [intOf]; omega
      · have hje : j = m := by omega
        subst hje
        go_wp2
        go_ret
        refine ⟨ret_int ?_, hbel⟩
        rw [← HC.out, cmpL_end (.inr HM.out) (by have := HN.out; omega) (by have := HM.out; omega), ← HN.out, ← HM.out]
        have h1 : ¬ n < j := by omega
        simp [h1, hja]
    · have hje : j = n := by omega
      subst hje
      by_cases hnm : j < m
      · go_wp2
        go_ret
        refine ⟨ret_int ?_, hbel⟩
        rw [← HC.out, cmpL_end (.inl HN.out) (by have := HN.out; omega) (by have := HM.out; omega), ← HN.out, ← HM.out]
        simp [hnm]
      · go_wp2
        go_ret
        refine ⟨ret_int ?_, hbel⟩
        rw [← HC.out, cmpL_end (.inl HN.out) (by have := HN.out; omega) (by have := HM.out; omega), ← HN.out, ← HM.out]
        have : j = m := by omega
        simp [this]

end Go.Proofs.YtpclldccjpncdabGreat

namespace Go.Proofs.YtpclldccjpncdabGreat
open Go.RowKit

/-- nothing is appended -/
theorem run_append_void {P : Program} (w : World) (base : Nat) (t ty e : TypeId) (i : TypeInfo) (size : Nat) (ht : P.underlying t = some (.slice e)) (hi : P.info? e = some i) (v : Value) (n : Nat) (xs : List Value) (hown : w.ownsRow base e size v n xs) (c : Nat) :
    (Builtin.append_ #[t, t] ty #[v, .slice none 0 c]).run P w = .ok v w := by
  rcases hown.2 with ⟨rfl, rfl⟩ | ⟨g, cap, cur, rfl, hbg, hg, hnc, hcm, hcs, htake⟩
  · simp [Builtin.append_, run_underlying ht, sizeOf, typeInfo, hi, Builtin.lenOf, Builtin.firstCells]
  · simp [Builtin.append_, run_underlying ht, sizeOf, typeInfo, hi, Builtin.lenOf, Builtin.firstCells, storeCells, hnc]
/-- append, of nothing too -/
theorem wpList_append_all {P : Program} (w : World) {ops : Array Oper} {rest : List Oper} {o : Oper} {a : Act} {Q : Exit → Act → World → Prop} (hgd : o.guard = none) (s x : Operand) (t : TypeId)
    (ho : o.op = .call { callee := .builtin .append, args := #[s, x], argTypes := #[t, t] })
    (base : Nat) (e : TypeId) (i : TypeInfo) (z : Value) (size bytes : Nat) (ht : P.underlying t = some (.slice e)) (hi : P.info? e = some i) (hz : i.zero = some z)
    (hsize : i.size = size) (hby : i.bytes = bytes) (hzs : z.cells.size = size) (hsz : 0 < size)
    (v : Value) (n : Nat) (xs : List Value) (hs : a.eval s = v) (hown : w.ownsRow base e size v n xs)
    (xo : Option Addr) (ad : Addr) (m c : Nat) (news : List Value) (hx : a.eval x = .slice xo m c) (hxo : 0 < m → xo = some ad) (hl : news.length = m * size) (hnews : ∀ j u, news[j]? = some u → w.cell? (ad.add j) = some u) (h1 : ∀ u ∈ news, u.oneCell' = true)
    (h63 : n + m ≤ maxLen) (hbytes : (n + m) * bytes ≤ 140737488355328) (hbase : base ≤ w.heap.size)
    (h : ∀ v' w', w'.ownsRow base e size v' (n + m) (xs ++ news) → w.grownBy w' v.ownBlock → wpList P ops Q rest (a.put o.dst v') w') : wpList P ops Q (o :: rest) a w := by
  by_cases hm : 0 < m
  · have hxo' := hxo hm
    subst hxo'
    obtain ⟨v', w', hr, h2, h3, _, _⟩ := run_append_own_at (P := P) w base t o.type e i z size bytes ht hi hz hsize hby hzs hsz v n xs hown ad m c news hl hnews h1 h63 hbytes hbase
    refine wpList_plain hgd fun _ hK => ?_
    unfold Oper.wp execOp
    simp only [ho, resolve, invoke, builtin, Sem.run_bind, Sem.run_pure, Result.andThen_ok, List.map_toArray, List.map_cons, List.map_nil, hs, hx, hr]
    exact hK _ _ (h v' w' h2 h3)
  · have hm0 : m = 0 := by omega
    subst hm0
    have hn0 : news = [] := List.eq_nil_of_length_eq_zero (by simpa using hl)
    subst hn0
    cases xo with
    | none =>
      have hr := run_append_void (P := P) w base t o.type e i size ht hi v n xs hown c
      refine wpList_plain hgd fun _ hK => ?_
      unfold Oper.wp execOp
      simp only [ho, resolve, invoke, builtin, Sem.run_bind, Sem.run_pure, Result.andThen_ok, List.map_toArray, List.map_cons, List.map_nil, hs, hx, hr]
      exact hK _ _ (h v w (by simpa using hown) ⟨rfl, rfl, rfl, Nat.le_refl _, fun _ _ _ => rfl⟩)
    | some ad' =>
      obtain ⟨v', w', hr, h2, h3, _, _⟩ := run_append_own_at (P := P) w base t o.type e i z size bytes ht hi hz hsize hby hzs hsz v n xs hown ad' 0 c [] hl (fun j u hu => by simp at hu) (fun u hu => by simp at hu) h63 hbytes hbase
      refine wpList_plain hgd fun _ hK => ?_
      unfold Oper.wp execOp
      simp only [ho, resolve, invoke, builtin, Sem.run_bind, Sem.run_pure, Result.andThen_ok, List.map_toArray, List.map_cons, List.map_nil, hs, hx, hr]
      exact hK _ _ (h v' w' h2 h3)

theorem own_lt' {w : World} {base : Nat} {e : TypeId} {size : Nat} {v : Value} {k : Nat} {xs : List Value} (ho : w.ownsRow base e size v k xs) {b : Nat} (hb : v.ownBlock = some b) : b < w.heap.size := by
  obtain ⟨_, h2⟩ := ho
  rcases h2 with ⟨rfl, _⟩ | ⟨g, cap, cur, rfl, _, hh, _⟩
  · simp [Value.ownBlock] at hb
  · simp only [Value.ownBlock, Option.some.injEq] at hb
    subst hb
    exact (Array.getElem?_eq_some_iff.1 hh).1
/-- behind an append to a row of one's own: all below is as it was -/
theorem grown_below {B : Nat} {w wr w2 : World} {base : Nat} {e : TypeId} {size : Nat} {v : Value} {n : Nat} {xs : List Value} (hb : Below B w wr) (hB : B ≤ wr.heap.size) (hown : wr.ownsRow base e size v n xs) (hbase : B ≤ base) (hg : wr.grownBy w2 v.ownBlock) : Below B w w2 :=
  hb.grown hg hB (fun r hr => by
    obtain ⟨_, ho⟩ := hown
    rcases ho with ⟨hv, _⟩ | ⟨b', _, _, hv, hb', _⟩
    · rw [hv] at hr; simp [Value.ownBlock] at hr
    · rw [hv] at hr; simp [Value.ownBlock] at hr; omega)

theorem wts_snoc (L : Lay) (lv : Nat) (l : List Nat) (c : Nat) : wts L lv (l ++ [c]) = if wt L lv c ≠ 0 then wts L lv l ++ [wt L lv c] else wts L lv l := by
  by_cases h : wt L lv c = 0
  · simp [wts, h]
  · simp [wts, h]
theorem wts_len (L : Lay) (lv : Nat) (l : List Nat) : (wts L lv l).length ≤ l.length := by
  unfold wts
  exact Nat.le_trans (List.length_filter_le _ _) (by simp)
theorem take_snoc_n (l : List Nat) (i : Nat) (h : i < l.length) : l.take (i + 1) = l.take i ++ [l.getD i 0] := by
  rw [List.take_succ_eq_append_getElem h]
  simp [List.getD, List.getElem?_eq_getElem h]

set_option maxRecDepth 100000 in
set_option maxHeartbeats 1000000 in
theorem weights_any (L : Lay) (l : List Nat) (lv : Nat) (ao : Option Addr) (b off cap : Nat) (w : World) (hl : l.length ≤ 1000) (h1 : 1 ≤ lv) (h3 : lv ≤ 3)
    (h : NodesIn w.heap.size w ao l.length b off (fun i => L.p (l.getD i 0)) (fun i => L.s (l.getD i 0)) (fun i => L.t (l.getD i 0))) :
    Calls Tryz.prog 73 #[.slice ao l.length cap, .int .i64 lv] w fun e w' => ∃ ao' cap' b', e = .returned (.slice ao' (wts L lv l).length cap') ∧ IntsL w'.heap.size w' ao' (wts L lv l) b' 0 ∧ Below w.heap.size w w' := by
  have HN : Hid (NodesIn w.heap.size w ao l.length b off (fun i => L.p (l.getD i 0)) (fun i => L.s (l.getD i 0)) (fun i => L.t (l.getD i 0))) := h
  clear h
  obtain ⟨N, hN⟩ : ∃ N, N = l.length := ⟨_, rfl⟩
  have HL : Hid (N = l.length) := hN
  rw [← hN] at hl ⊢
  clear hN
  obtain ⟨i0, hi0, hq0, hq1, hq2⟩ := info_parts infoInt
  go_enter Tryz.func73, Tryz.ntmps73
  go_wp2
  go_loopw [5, 6] (fun v iv wr => ∃ i : Nat, i ≤ N ∧ iv = .int .i64 i ∧ Below w.heap.size w wr ∧ wr.ownsRow w.heap.size 3 1 v (wts L lv (l.take i)).length ((wts L lv (l.take i)).map (Value.int .i64))) (fun _ iv _ => N - (intOf iv).toNat)
  case atStart => exact ⟨0, Nat.zero_le _, rfl, Below.refl _ _, World.ownsRow_nil _ _ _ _⟩
  case round =>
    obtain ⟨i, hi, rfl, hbel, hown⟩ := hrel
    have HOWN : Hid (wr.ownsRow w.heap.size 3 1 _ (wts L lv (l.take i)).length ((wts L lv (l.take i)).map (Value.int .i64))) := hown
    clear hown
    have hsz := hbel.size
    by_cases hlt : i < N
    · have hll : i < l.length := by have := HL.out; omega
      have ha := HN.out.addr (by omega)
      subst ha
      have hbb := HN.out.lt (by omega)
      have c0 := cellTo hbel (HN.out.p i hll) hbb
      have c1 := cellTo hbel (HN.out.s i hll) hbb
      have c2 := cellTo hbel (HN.out.t i hll) hbb
      obtain ⟨c, hc⟩ : ∃ c, c = l.getD i 0 := ⟨_, rfl⟩
      rw [← hc] at c0 c1 c2
      have HSN : Hid (wts L lv (l.take (i + 1)) = if wt L lv c ≠ 0 then wts L lv (l.take i) ++ [wt L lv c] else wts L lv (l.take i)) := by
        show _ = _
        rw [take_snoc_n l i hll, ← hc]
        exact wts_snoc L lv (l.take i) c
      have hwl : (wts L lv (l.take i)).length ≤ i := Nat.le_trans (wts_len L lv _) (List.length_take_le _ _)
      have HWT : Hid ((if lv = 1 then L.p c else if lv = 2 then L.s c else L.t c) = wt L lv c) := rfl
      obtain ⟨x, hx⟩ : ∃ x, x = wt L lv c := ⟨_, rfl⟩
      have HX : Hid (x = wt L lv c) := hx
      clear hx hc hll
      by_cases hx0 : x = 0
      · go_wp2_with (first
          | (go_at_call 100; refine (weight_any _ _ _ _ _ h1 h3).mono ?_; rintro e w1 ⟨rfl, hb1⟩; rw [HWT.out, ← HX.out]))
        go_roundw
        case rel => exact ⟨i + 1, by omega, by go_num, below_then hbel hb1, by
            have hs := HSN.out
            rw [if_neg (by rw [← HX.out]; simpa using hx0)] at hs
            rw [hs]
            exact own_of_block HOWN.out (fun b h => hb1.block b (own_lt' HOWN.out h))⟩
        case measure => simp [intOf]; omega
      · go_wp2_with (first
          | (go_at_call 100; refine (weight_any _ _ _ _ _ h1 h3).mono ?_; rintro e w1 ⟨rfl, hb1⟩; rw [HWT.out, ← HX.out])
          | (at_builtin; refine wpList_append_lies _ (by rfl) (.tmp 22) (.tmp 24) 61 (by rfl) w.heap.size 3 i0 (.int .i64 0) 1 8 Tryz.underlying61 hi0 hq0 hq1 hq2 rfl (by omega) _ _ _ (by rfl) (own_of_block HOWN.out (fun b h => (below_then hb1 (below_one _)).block b (own_lt' HOWN.out h))) ⟨w1.heap.size, 0, none⟩ 1 1 [.int .i64 x] (by rfl) (by rfl) ?c1 ?c2 (by omega) ?c3 ?c5 ?c4 (w1.heap.size + 1) (by simp) ?_))
        case c1 => exact cell_one_new _ _ _
        case c2 => intro u hu; simp at hu; subst hu; rfl
        case c3 => unfold maxLen; omega
        case c5 => omega
        case c4 => have := hb1.size; simp; omega
        · intro gv cap2 w2 hown2 hgrow _ _
          have hz1 := hb1.size
          have HBN : Hid (Below w.heap.size w w2) := grown_below (below_then (below_then hbel hb1) (below_one _)) (by simp; omega) (own_of_block HOWN.out (fun b h => (below_then hb1 (below_one _)).block b (own_lt' HOWN.out h))) (Nat.le_refl _) hgrow
          have HO2 : Hid (w2.ownsRow w.heap.size 3 1 (.slice (some ⟨gv, 0, none⟩) ((wts L lv (l.take i)).length + 1) cap2) (wts L lv (l.take (i + 1))).length ((wts L lv (l.take (i + 1))).map (Value.int .i64))) := by
            show _
            have hs := HSN.out
            rw [if_pos (by rw [← HX.out]; exact hx0), ← HX.out] at hs
            rw [hs, List.length_append, List.map_append]
            exact hown2
          clear hown2 hgrow
          go_wp2
          go_roundw
          case rel => exact ⟨i + 1, by omega, by go_num, HBN.out, HO2.out⟩
          case measure => simp [intOf]; omega
    · have hie : i = N := by omega
      subst hie
      have htk : l.take i = l := List.take_of_length_le (by have := HL.out; omega)
      have ho := HOWN.out
      rw [htk] at ho
      obtain ⟨ao', cap', b', hv, hint⟩ := ints_of_own rfl (by have := wts_len L lv l; have := HL.out; omega) ho
      have HI : Hid (IntsL wr.heap.size wr ao' (wts L lv l) b' 0) := hint
      clear hint ho htk
      subst hv
      go_wp2
      go_ret
      exact ⟨_, _, _, rfl, HI.out, hbel⟩

end Go.Proofs.YtpclldccjpncdabGreat
