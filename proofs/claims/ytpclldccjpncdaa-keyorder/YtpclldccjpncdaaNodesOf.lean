import Derived.Test.YtpclldccjpncdaaWeighW
import Derived.Maps.AppendAt
import Derived.OwnWalk
import Derived.Laws.Rows
namespace Go.Proofs.Ytpclldccjpncdaa
open Go.RowKit

/-- nothing is appended -/
theorem run_append_void {P : Program} (w : World) (base : Nat) (t ty e : TypeId) (i : TypeInfo) (size : Nat) (ht : P.underlying t = some (.slice e)) (hi : P.info? e = some i) (v : Value) (n : Nat) (xs : List Value) (hown : w.ownsRow base e size v n xs) (c : Nat) :
    (Builtin.append_ #[t, t] ty #[v, .slice none 0 c]).run P w = .ok v w := by
  rcases hown.2 with ⟨rfl, rfl⟩ | ⟨g, cap, cur, rfl, hbg, hg, hnc, hcm, hcs, htake⟩
  · simp [Builtin.append_, run_underlying ht, sizeOf, typeInfo, hi, Builtin.lenOf, Builtin.firstCells]
  · simp [Builtin.append_, run_underlying ht, sizeOf, typeInfo, hi, Builtin.lenOf, Builtin.firstCells, storeCells, hnc]
/-- append, of nothing too -/
theorem wpList_append_all {P : Program} (w : World) {ops : Array Oper} {rest : List Oper} {o : Oper} {a : Act} {Q : Exit → Act → World → Prop} (hgd : o.guard = none) (s x : Operand) (t : TypeId)
    (ho : o.op = .call { callee := .builtin .append, args := #[s, x], argTypes := #[t, t] })
    (base : Nat) (e : TypeId) (i : TypeInfo) (z : Value) (size bytes : Nat) (ht : P.underlying t = some (.slice e)) (hi : P.info? e = some i) (hz : i.zero = some z)
    (hsize : i.size = size) (hby : i.bytes = bytes) (hzs : z.cells.size = size) (hsz : 0 < size)
    (v : Value) (n : Nat) (xs : List Value) (hs : a.eval s = v) (hown : w.ownsRow base e size v n xs)
    (xo : Option Addr) (ad : Addr) (m c : Nat) (news : List Value) (hx : a.eval x = .slice xo m c) (hxo : 0 < m → xo = some ad) (hl : news.length = m * size) (hnews : ∀ j u, news[j]? = some u → w.cell? (ad.add j) = some u) (h1 : ∀ u ∈ news, u.oneCell' = true)
    (h63 : n + m ≤ maxLen) (hbytes : (n + m) * bytes ≤ 140737488355328) (hbase : base ≤ w.heap.size)
    (h : ∀ v' w', w'.ownsRow base e size v' (n + m) (xs ++ news) → w.grownBy w' v.ownBlock → wpList P ops Q rest (a.put o.dst v') w') : wpList P ops Q (o :: rest) a w := by
  by_cases hm : 0 < m
  · have hxo' := hxo hm
    subst hxo'
    obtain ⟨v', w', hr, h2, h3, _, _⟩ := run_append_own_at (P := P) w base t o.type e i z size bytes ht hi hz hsize hby hzs hsz v n xs hown ad m c news hl hnews h1 h63 hbytes hbase
    refine wpList_plain hgd fun _ hK => ?_
    unfold Oper.wp execOp
    simp only [ho, resolve, invoke, builtin, Sem.run_bind, Sem.run_pure, Result.andThen_ok, List.map_toArray, List.map_cons, List.map_nil, hs, hx, hr]
    exact hK _ _ (h v' w' h2 h3)
  · have hm0 : m = 0 := by omega
    subst hm0
    have hn0 : news = [] := List.eq_nil_of_length_eq_zero (by simpa using hl)
    subst hn0
    cases xo with
    | none =>
      have hr := run_append_void (P := P) w base t o.type e i size ht hi v n xs hown c
      refine wpList_plain hgd fun _ hK => ?_
      unfold Oper.wp execOp
      simp only [ho, resolve, invoke, builtin, Sem.run_bind, Sem.run_pure, Result.andThen_ok, List.map_toArray, List.map_cons, List.map_nil, hs, hx, hr]
      exact hK _ _ (h v w (by simpa using hown) ⟨rfl, rfl, rfl, Nat.le_refl _, fun _ _ _ => rfl⟩)
    | some ad' =>
      obtain ⟨v', w', hr, h2, h3, _, _⟩ := run_append_own_at (P := P) w base t o.type e i z size bytes ht hi hz hsize hby hzs hsz v n xs hown ad' 0 c [] hl (fun j u hu => by simp at hu) (fun u hu => by simp at hu) h63 hbytes hbase
      refine wpList_plain hgd fun _ hK => ?_
      unfold Oper.wp execOp
      simp only [ho, resolve, invoke, builtin, Sem.run_bind, Sem.run_pure, Result.andThen_ok, List.map_toArray, List.map_cons, List.map_nil, hs, hx, hr]
      exact hK _ _ (h v' w' h2 h3)

theorem own_lt' {w : World} {base : Nat} {e : TypeId} {size : Nat} {v : Value} {k : Nat} {xs : List Value} (ho : w.ownsRow base e size v k xs) {b : Nat} (hb : v.ownBlock = some b) : b < w.heap.size := by
  obtain ⟨_, h2⟩ := ho
  rcases h2 with ⟨rfl, _⟩ | ⟨g, cap, cur, rfl, _, hh, _⟩
  · simp [Value.ownBlock] at hb
  · simp only [Value.ownBlock, Option.some.injEq] at hb
    subst hb
    exact (Array.getElem?_eq_some_iff.1 hh).1
/-- behind an append to a row of one's own: all below is as it was -/
theorem grown_below {B : Nat} {w wr w2 : World} {base : Nat} {e : TypeId} {size : Nat} {v : Value} {n : Nat} {xs : List Value} (hb : Below B w wr) (hB : B ≤ wr.heap.size) (hown : wr.ownsRow base e size v n xs) (hbase : B ≤ base) (hg : wr.grownBy w2 v.ownBlock) : Below B w w2 :=
  hb.grown hg hB (fun r hr => by
    obtain ⟨_, ho⟩ := hown
    rcases ho with ⟨hv, _⟩ | ⟨b', _, _, hv, hb', _⟩
    · rw [hv] at hr; simp [Value.ownBlock] at hr
    · rw [hv] at hr; simp [Value.ownBlock] at hr; omega)

theorem wts_snoc (L : Lay) (lv : Nat) (l : List Nat) (c : Nat) : wts L lv (l ++ [c]) = if wt L lv c ≠ 0 then wts L lv l ++ [wt L lv c] else wts L lv l := by
  by_cases h : wt L lv c = 0
  · simp [wts, h]
  · simp [wts, h]
theorem wts_len (L : Lay) (lv : Nat) (l : List Nat) : (wts L lv l).length ≤ l.length := by
  unfold wts
  exact Nat.le_trans (List.length_filter_le _ _) (by simp)
theorem take_snoc_n (l : List Nat) (i : Nat) (h : i < l.length) : l.take (i + 1) = l.take i ++ [l.getD i 0] := by
  rw [List.take_succ_eq_append_getElem h]
  simp [List.getD, List.getElem?_eq_getElem h]

set_option maxRecDepth 100000 in
set_option maxHeartbeats 1000000 in
theorem weights_any (L : Lay) (l : List Nat) (lv : Nat) (ao : Option Addr) (b off cap : Nat) (w : World) (hl : l.length ≤ 1000) (h1 : 1 ≤ lv) (h3 : lv ≤ 3)
    (h : NodesIn w.heap.size w ao l.length b off (fun i => L.p (l.getD i 0)) (fun i => L.s (l.getD i 0)) (fun i => L.t (l.getD i 0))) :
    Calls Try.prog 44 #[.slice ao l.length cap, .int .i64 lv] w fun e w' => ∃ ao' cap' b', e = .returned (.slice ao' (wts L lv l).length cap') ∧ IntsL w'.heap.size w' ao' (wts L lv l) b' 0 ∧ Below w.heap.size w w' := by
  have HN : Hid (NodesIn w.heap.size w ao l.length b off (fun i => L.p (l.getD i 0)) (fun i => L.s (l.getD i 0)) (fun i => L.t (l.getD i 0))) := h
  clear h
  obtain ⟨N, hN⟩ : ∃ N, N = l.length := ⟨_, rfl⟩
  have HL : Hid (N = l.length) := hN
  rw [← hN] at hl ⊢
  clear hN
  obtain ⟨i0, hi0, hq0, hq1, hq2⟩ := info_parts infoInt
  go_enter Try.func44, Try.ntmps44
  go_wp2
  go_loopw [5, 6] (fun v iv wr => ∃ i : Nat, i ≤ N ∧ iv = .int .i64 i ∧ Below w.heap.size w wr ∧ wr.ownsRow w.heap.size 3 1 v (wts L lv (l.take i)).length ((wts L lv (l.take i)).map (Value.int .i64))) (fun _ iv _ => N - (intOf iv).toNat)
  case atStart => exact ⟨0, Nat.zero_le _, rfl, Below.refl _ _, World.ownsRow_nil _ _ _ _⟩
  case round =>
    obtain ⟨i, hi, rfl, hbel, hown⟩ := hrel
    have HOWN : Hid (wr.ownsRow w.heap.size 3 1 _ (wts L lv (l.take i)).length ((wts L lv (l.take i)).map (Value.int .i64))) := hown
    clear hown
    have hsz := hbel.size
    by_cases hlt : i < N
    · have hll : i < l.length := by have := HL.out; omega
      have ha := HN.out.addr (by omega)
      subst ha
      have hbb := HN.out.lt (by omega)
      have c0 := cellTo hbel (HN.out.p i hll) hbb
      have c1 := cellTo hbel (HN.out.s i hll) hbb
      have c2 := cellTo hbel (HN.out.t i hll) hbb
      obtain ⟨c, hc⟩ : ∃ c, c = l.getD i 0 := ⟨_, rfl⟩
      rw [← hc] at c0 c1 c2
      have HSN : Hid (wts L lv (l.take (i + 1)) = if wt L lv c ≠ 0 then wts L lv (l.take i) ++ [wt L lv c] else wts L lv (l.take i)) := by
        show _ = _
        rw [take_snoc_n l i hll, ← hc]
        exact wts_snoc L lv (l.take i) c
      have hwl : (wts L lv (l.take i)).length ≤ i := Nat.le_trans (wts_len L lv _) (List.length_take_le _ _)
      have HWT : Hid ((if lv = 1 then L.p c else if lv = 2 then L.s c else L.t c) = wt L lv c) := rfl
      obtain ⟨x, hx⟩ : ∃ x, x = wt L lv c := ⟨_, rfl⟩
      have HX : Hid (x = wt L lv c) := hx
      clear hx hc hll
      by_cases hx0 : x = 0
      · go_wp2_with (first
          | (go_at_call 56; refine (weight_any _ _ _ _ _ h1 h3).mono ?_; rintro e w1 ⟨rfl, hb1⟩; rw [HWT.out, ← HX.out]))
        go_roundw
        case rel => exact ⟨i + 1, by omega, by go_num, below_then hbel hb1, by
            have hs := HSN.out
            rw [if_neg (by rw [← HX.out]; simpa using hx0)] at hs
            rw [hs]
            exact own_of_block HOWN.out (fun b h => hb1.block b (own_lt' HOWN.out h))⟩
        case measure => simp [intOf]; omega
      · go_wp2_with (first
          | (go_at_call 56; refine (weight_any _ _ _ _ _ h1 h3).mono ?_; rintro e w1 ⟨rfl, hb1⟩; rw [HWT.out, ← HX.out])
          | (at_builtin; refine wpList_append_lies _ (by rfl) (.tmp 22) (.tmp 24) 22 (by rfl) w.heap.size 3 i0 (.int .i64 0) 1 8 Try.underlying22 hi0 hq0 hq1 hq2 rfl (by omega) _ _ _ (by rfl) (own_of_block HOWN.out (fun b h => (below_then hb1 (below_one _)).block b (own_lt' HOWN.out h))) ⟨w1.heap.size, 0, none⟩ 1 1 [.int .i64 x] (by rfl) (by rfl) ?c1 ?c2 (by omega) ?c3 ?c5 ?c4 (w1.heap.size + 1) (by simp) ?_))
        case c1 => exact cell_one_new _ _ _
        case c2 => intro u hu; simp at hu; subst hu; rfl
        case c3 => unfold maxLen; omega
        case c5 => omega
        case c4 => have := hb1.size; simp; omega
        · intro gv cap2 w2 hown2 hgrow _ _
          have hz1 := hb1.size
          have HBN : Hid (Below w.heap.size w w2) := grown_below (below_then (below_then hbel hb1) (below_one _)) (by simp; omega) (own_of_block HOWN.out (fun b h => (below_then hb1 (below_one _)).block b (own_lt' HOWN.out h))) (Nat.le_refl _) hgrow
          have HO2 : Hid (w2.ownsRow w.heap.size 3 1 (.slice (some ⟨gv, 0, none⟩) ((wts L lv (l.take i)).length + 1) cap2) (wts L lv (l.take (i + 1))).length ((wts L lv (l.take (i + 1))).map (Value.int .i64))) := by
            show _
            have hs := HSN.out
            rw [if_pos (by rw [← HX.out]; exact hx0), ← HX.out] at hs
            rw [hs, List.length_append, List.map_append]
            exact hown2
          clear hown2 hgrow
          go_wp2
          go_roundw
          case rel => exact ⟨i + 1, by omega, by go_num, HBN.out, HO2.out⟩
          case measure => simp [intOf]; omega
    · have hie : i = N := by omega
      subst hie
      have htk : l.take i = l := List.take_of_length_le (by have := HL.out; omega)
      have ho := HOWN.out
      rw [htk] at ho
      obtain ⟨ao', cap', b', hv, hint⟩ := ints_of_own rfl (by have := wts_len L lv l; have := HL.out; omega) ho
      have HI : Hid (IntsL wr.heap.size wr ao' (wts L lv l) b' 0) := hint
      clear hint ho htk
      subst hv
      go_wp2
      go_ret
      exact ⟨_, _, _, rfl, HI.out, hbel⟩

end Go.Proofs.Ytpclldccjpncdaa
