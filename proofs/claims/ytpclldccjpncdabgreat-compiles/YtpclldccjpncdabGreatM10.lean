import Derived.Test.YtpclldccjpncdabGreatM09
import Derived.Maps.AppendAt
import Derived.OwnWalk
import Derived.Laws.Rows
namespace Go.Proofs.YtpclldccjpncdabGreat
open Go.RowKit

/-- nothing is appended -/
theorem run_append_void {P : Program} (w : World) (base : Nat) (t ty e : TypeId) (i : TypeInfo) (size : Nat) (ht : P.underlying t = some (.slice e)) (hi : P.info? e = some i) (v : Value) (n : Nat) (xs : List Value) (hown : w.ownsRow base e size v n xs) (c : Nat) :
    (Builtin.append_ #[t, t] ty #[v, .slice none 0 c]).run P w = .ok v w := by
  rcases hown.2 with ⟨rfl, rfl⟩ | ⟨g, cap, cur, rfl, hbg, hg, hnc, hcm, hcs, htake⟩
  · simp [Builtin.append_, run_underlying ht, sizeOf, typeInfo, hi, Builtin.lenOf, Builtin.firstCells]
  · simp [Builtin.append_, run_underlying ht, sizeOf, typeInfo, hi, Builtin.lenOf, Builtin.firstCells, storeCells, hnc]
/-- append, of nothing too -/
theorem wpList_append_all {P : Program} (w : World) {ops : Array Oper} {rest : List Oper} {o : Oper} {a : Act} {Q : Exit → Act → World → Prop} (hgd : o.guard = none) (s x : Operand) (t : TypeId)
    (ho : o.op = .call { callee := .builtin .append, args := #[s, x], argTypes := #[t, t] })
    (base : Nat) (e : TypeId) (i : TypeInfo) (z : Value) (size bytes : Nat) (ht : P.underlying t = some (.slice e)) (hi : P.info? e = some i) (hz : i.zero = some z)
    (hsize : i.size = size) (hby : i.bytes = bytes) (hzs : z.cells.size = size) (hsz : 0 < size)
    (v : Value) (n : Nat) (xs : List Value) (hs : a.eval s = v) (hown : w.ownsRow base e size v n xs)
    (xo : Option Addr) (ad : Addr) (m c : Nat) (news : List Value) (hx : a.eval x = .slice xo m c) (hxo : 0 < m → xo = some ad) (hl : news.length = m * size) (hnews : ∀ j u, news[j]? = some u → w.cell? (ad.add j) = some u) (h1 : ∀ u ∈ news, u.oneCell' = true)
    (h63 : n + m ≤ maxLen) (hbytes : (n + m) * bytes ≤ 140737488355328) (hbase : base ≤ w.heap.size)
    (h : ∀ v' w', w'.ownsRow base e size v' (n + m) (xs ++ news) → w.grownBy w' v.ownBlock → wpList P ops Q rest (a.put o.dst v') w') : wpList P ops Q (o :: rest) a w := by
  by_cases hm : 0 < m
  · have hxo' := hxo hm
    subst hxo'
    obtain ⟨v', w', hr, h2, h3, _, _⟩ := run_append_own_at (P := P) w base t o.type e i z size bytes ht hi hz hsize hby hzs hsz v n xs hown ad m c news hl hnews h1 h63 hbytes hbase
    refine wpList_plain hgd fun _ hK => ?_
    unfold Oper.wp execOp
    simp only [ho, resolve, invoke, builtin, Sem.run_bind, Sem.run_pure, Result.andThen_ok, List.map_toArray, List.map_cons, List.map_nil, hs, hx, hr]
    exact hK _ _ (h v' w' h2 h3)
  · have hm0 : m = 0 := by omega
    subst hm0
    have hn0 : news = [] := List.eq_nil_of_length_eq_zero (by simpa using hl)
    subst hn0
    cases xo with
    | none =>
      have hr := run_append_void (P := P) w base t o.type e i size ht hi v n xs hown c
      refine wpList_plain hgd fun _ hK => ?_
      unfold Oper.wp execOp
      simp only [ho, resolve, invoke, builtin, Sem.run_bind, Sem.run_pure, Result.andThen_ok, List.map_toArray, List.map_cons, List.map_nil, hs, hx, hr]
      exact hK _ _ (h v w (by simpa using hown) ⟨rfl, rfl, rfl, Nat.le_refl _, fun _ _ _ => rfl⟩)
    | some ad' =>
      obtain ⟨v', w', hr, h2, h3, _, _⟩ := run_append_own_at (P := P) w base t o.type e i z size bytes ht hi hz hsize hby hzs hsz v n xs hown ad' 0 c [] hl (fun j u hu => by simp at hu) (fun u hu => by simp at hu) h63 hbytes hbase
      refine wpList_plain hgd fun _ hK => ?_
      unfold Oper.wp execOp
      simp only [ho, resolve, invoke, builtin, Sem.run_bind, Sem.run_pure, Result.andThen_ok, List.map_toArray, List.map_cons, List.map_nil, hs, hx, hr]
      exact hK _ _ (h v' w' h2 h3)

theorem own_lt' {w : World} {base : Nat} {e : TypeId} {size : Nat} {v : Value} {k : Nat} {xs : List Value} (ho : w.ownsRow base e size v k xs) {b : Nat} (hb : v.ownBlock = some b) : b < w.heap.size := by
  obtain ⟨_, h2⟩ := ho
  rcases h2 with ⟨rfl, _⟩ | ⟨g, cap, cur, rfl, _, hh, _⟩
  · simp [Value.ownBlock] at hb
  · simp only [Value.ownBlock, Option.some.injEq] at hb
    subst hb
    exact (Array.getElem?_eq_some_iff.1 hh).1
/-- behind an append to a row of one's own: all below is as it was -/
theorem grown_below {B : Nat} {w wr w2 : World} {base : Nat} {e : TypeId} {size : Nat} {v : Value} {n : Nat} {xs : List Value} (hb : Below B w wr) (hB : B ≤ wr.heap.size) (hown : wr.ownsRow base e size v n xs) (hbase : B ≤ base) (hg : wr.grownBy w2 v.ownBlock) : Below B w w2 :=
  hb.grown hg hB (fun r hr => by
    obtain ⟨_, ho⟩ := hown
    rcases ho with ⟨hv, _⟩ | ⟨b', _, _, hv, hb', _⟩
    · rw [hv] at hr; simp [Value.ownBlock] at hr
    · rw [hv] at hr; simp [Value.ownBlock] at hr; omega)

theorem wts_snoc (L : Lay) (lv : Nat) (l : List Nat) (c : Nat) : wts L lv (l ++ [c]) = if wt L lv c ≠ 0 then wts L lv l ++ [wt L lv c] else wts L lv l := by
  by_cases h : wt L lv c = 0
  · simp [wts, h]
  · simp [wts, h]
theorem wts_len (L : Lay) (lv : Nat) (l : List Nat) : (wts L lv l).length ≤ l.length := by
  unfold wts
  exact Nat.le_trans (List.length_filter_le _ _) (by simp)
theorem take_snoc_n (l : List Nat) (i : Nat) (h : i < l.length) : l.take (i + 1) = l.take i ++ [l.getD i 0] := by
  rw [List.take_succ_eq_append_getElem h]
  simp [List.getD, List.getElem?_eq_getElem h]

set_option maxRecDepth 100000 in
set_option maxHeartbeats 1000000 in
theorem weights_any (L : Lay) (l : List Nat) (lv : Nat) (ao : Option Addr) (b off cap : Nat) (w : World) (hl : l.length ≤ 1000) (h1 : 1 ≤ lv) (h3 : lv ≤ 3)
    (h : NodesIn w.heap.size w ao l.length b off (fun i => L.p (l.getD i 0)) (fun i => L.s (l.getD i 0)) (fun i => L.t (l.getD i 0))) :
    Calls Tryz.prog 73 #[.slice ao l.length cap, .int .i64 lv] w fun e w' => ∃ ao' cap' b', e = .returned (.slice ao' (wts L lv l).length cap') ∧ IntsL w'.heap.size w' ao' (wts L lv l) b' 0 ∧ Below w.heap.size w w' := by
  have HN : Hid (NodesIn w.heap.size w ao l.length b off (fun i => L.p (l.getD i 0)) (fun i => L.s (l.getD i 0)) (fun i => L.t (l.getD i 0))) := h
  clear h
  obtain ⟨N, hN⟩ : ∃ N, N = l.length := ⟨_, rfl⟩
  have HL : Hid (N = l.length) := hN
  rw [← hN] at hl ⊢
  clear hN
  obtain ⟨i0, hi0, hq0, hq1, hq2⟩ := info_parts infoInt
  go_enter Tryz.func73, Tryz.ntmps73
  go_wp2
  go_loopw [5, 6] (fun v iv wr => ∃ i : Nat, i ≤ N ∧ iv = .int .i64 i ∧ Below w.heap.size w wr ∧ wr.ownsRow w.heap.size 3 1 v (wts L lv (l.take i)).length ((wts L lv (l.take i)).map (Value.int .i64))) (fun _ iv _ => N - (intOf iv).toNat)
  case atStart => exact ⟨0, Nat.zero_le _, rfl, Below.refl _ _, World.ownsRow_nil _ _ _ _⟩
  case round =>
    obtain ⟨i, hi, rfl, hbel, hown⟩ := hrel
    have HOWN : Hid (wr.ownsRow w.heap.size 3 1 _ (wts L lv (l.take i)).length ((wts L lv (l.take i)).map (Value.int .i64))) := hown
    clear hown
    have hsz := hbel.size
    by_cases hlt : i < N
    · have hll : i < l.length := by have := HL.out; omega
      have ha := HN.out.addr (by omega)
      subst ha
      have hbb := HN.out.lt (by omega)
      have c0 := cellTo hbel (HN.out.p i hll) hbb
      have c1 := cellTo hbel (HN.out.s i hll) hbb
      have c2 := cellTo hbel (HN.out.t i hll) hbb
      obtain ⟨c, hc⟩ : ∃ c, c = l.getD i 0 := ⟨_, rfl⟩
      rw [← hc] at c0 c1 c2
      have HSN : Hid (wts L lv (l.take (i + 1)) = if wt L lv c ≠ 0 then wts L lv (l.take i) ++ [wt L lv c] else wts L lv (l.take i)) := by
        show _ = _
        rw [take_snoc_n l i hll, ← hc]
        exact wts_snoc L lv (l.take i) c
      have hwl : (wts L lv (l.take i)).length ≤ i := Nat.le_trans (wts_len L lv _) (List.length_take_le _ _)
      have HWT : Hid ((if lv = 1 then L.p c else if lv = 2 then L.s c else L.t c) = wt L lv c) := rfl
      obtain ⟨x, hx⟩ : ∃ x, x = wt L lv c := ⟨_, rfl⟩
      have HX : Hid (x = wt L lv c) := hx
      clear hx hc hll
      by_cases hx0 : x = 0
      · go_wp2_with (first
          | (go_at_call 100; refine (weight_any _ _ _ _ _ h1 h3).mono ?_; rintro e w1 ⟨rfl, hb1⟩; rw [HWT.out, ← HX.out]))
        go_roundw
        case rel => exact ⟨i + 1, by omega, by go_num, below_then hbel hb1, by
            have hs := HSN.out
            rw [if_neg (by rw [← HX.out]; simpa using hx0)] at hs
            rw [hs]
            exact own_of_block HOWN.out (fun b h => hb1.block b (own_lt' HOWN.out h))⟩
        case measure => simp [intOf]; omega
      · go_wp2_with (first
          | (go_at_call 100; refine (weight_any _ _ _ _ _ h1 h3).mono ?_; rintro e w1 ⟨rfl, hb1⟩; rw [HWT.out, ← HX.out])
          | (at_builtin; refine wpList_append_lies _ (by rfl) (.tmp 22) (.tmp 24) 61 (by rfl) w.heap.size 3 i0 (.int .i64 0) 1 8 Tryz.underlying61 hi0 hq0 hq1 hq2 rfl (by omega) _ _ _ (by rfl) (own_of_block HOWN.out (fun b h => (below_then hb1 (below_one _)).block b (own_lt' HOWN.out h))) ⟨w1.heap.size, 0, none⟩ 1 1 [.int .i64 x] (by rfl) (by rfl) ?c1 ?c2 (by omega) ?c3 ?c5 ?c4 (w1.heap.size + 1) (by simp) ?_))
        case c1 => exact cell_one_new _ _ _
        case c2 => intro u hu; simp at hu; subst hu; rfl
        case c3 => unfold maxLen; omega
        case c5 => omega
        case c4 => have := hb1.size; simp; omega
        · intro gv cap2 w2 hown2 hgrow _ _
          have hz1 := hb1.size
          have HBN : Hid (Below w.heap.size w w2) := grown_below (below_then (below_then hbel hb1) (below_one _)) (by simp; omega) (own_of_block HOWN.out (fun b h => (below_then hb1 (below_one _)).block b (own_lt' HOWN.out h))) (Nat.le_refl _) hgrow
          have HO2 : Hid (w2.ownsRow w.heap.size 3 1 (.slice (some ⟨gv, 0, none⟩) ((wts L lv (l.take i)).length + 1) cap2) (wts L lv (l.take (i + 1))).length ((wts L lv (l.take (i + 1))).map (Value.int .i64))) := by
            show _
            have hs := HSN.out
            rw [if_pos (by rw [← HX.out]; exact hx0), ← HX.out] at hs
            rw [hs, List.length_append, List.map_append]
            exact hown2
          clear hown2 hgrow
          go_wp2
          go_roundw
          case rel => exact ⟨i + 1, by omega, by go_num, HBN.out, HO2.out⟩
          case measure => simp [intOf]; omega
    · have hie : i = N := by omega
      subst hie
      have htk : l.take i = l := List.take_of_length_le (by have := HL.out; omega)
      have ho := HOWN.out
      rw [htk] at ho
      obtain ⟨ao', cap', b', hv, hint⟩ := ints_of_own rfl (by have := wts_len L lv l; have := HL.out; omega) ho
      have HI : Hid (IntsL wr.heap.size wr ao' (wts L lv l) b' 0) := hint
      clear hint ho htk
      subst hv
      go_wp2
      go_ret
      exact ⟨_, _, _, rfl, HI.out, hbel⟩

end Go.Proofs.YtpclldccjpncdabGreat

namespace Go.Proofs.YtpclldccjpncdabGreat
open Go.RowKit

theorem infoSpC : (Tryz.prog.info? 129).map (fun i => (i.zero, i.size, i.bytes)) = some (some (.agg #[.int .i64 0, .int .i64 0, .bool false, .int .i64 0, .int .i64 0, .int .i64 0]), 6, 48) := by kernel_rfl

set_option maxRecDepth 100000 in
set_option maxHeartbeats 1000000 in
theorem again_any (ao : Option Addr) (k cap b off : Nat) (z : Nat → Int) (w : World) (hk : k ≤ 1000) (h : IntsIn w.heap.size w ao k b off z) :
    Calls Tryz.prog 90 #[.slice ao k cap] w fun e w' => ∃ v, e = .returned v ∧ Hid (w'.ownsRow w.heap.size 3 1 v k ((List.range k).map fun q => Value.int .i64 (z q))) ∧ Below w.heap.size w w' := by
  obtain ⟨i0, hi0, hq0, hq1, hq2⟩ := info_parts infoIntC
  have HI : Hid (IntsIn w.heap.size w ao k b off z) := h
  clear h
  go_enter Tryz.func90, Tryz.ntmps90
  go_wp2
  go_loopw [3, 4] (fun v iv wr => ∃ i : Nat, i ≤ k ∧ iv = .int .i64 (i : Nat) ∧ Below w.heap.size w wr ∧ wr.ownsRow w.heap.size 3 1 v i ((List.range i).map fun q => Value.int .i64 (z q))) (fun _ iv _ => k - (intOf iv).toNat)
  case atStart => exact ⟨0, Nat.zero_le _, rfl, Below.refl _ _, World.ownsRow_nil _ _ _ _⟩
  case round =>
    obtain ⟨i, hi, rfl, hbel, hown⟩ := hrel
    have HOW : Hid (wr.ownsRow w.heap.size 3 1 _ i ((List.range i).map fun q => Value.int .i64 (z q))) := hown
    clear hown
    have hsz := hbel.size
    by_cases hlt : i < k
    · have hbb := HI.out.lt (by omega)
      have c0 := cellTo hbel (HI.out.cell i hlt) hbb
      have ha := HI.out.addr (by omega)
      subst ha
      obtain ⟨x, hx⟩ : ∃ x, x = z i := ⟨_, rfl⟩
      have HX : Hid (x = z i) := hx
      rw [← hx] at c0
      clear hx
      go_wp2_with (first
        | (at_builtin; refine wpList_append_lies _ (by rfl) (.tmp 11) (.tmp 16) 61 (by rfl) w.heap.size 3 i0 (.int .i64 0) 1 8 Tryz.underlying61 hi0 hq0 hq1 hq2 rfl (by omega) _ i _ (by rfl) (HOW.out.alloc _) ⟨wr.heap.size, 0, none⟩ 1 1 [.int .i64 x] (by rfl) (by rfl) ?d1 ?d2 (by omega) ?d3 ?d5 ?d4 (wr.heap.size + 1) (by simp) ?_))
      case d1 => exact cell_one_new _ _ _
      case d2 => intro u hu; simp at hu; subst hu; rfl
      case d3 => unfold maxLen; omega
      case d5 => omega
      case d4 => simp; omega
      · intro g3 cap3 w3 hown3 hgrow3 _ _
        have HB3 : Hid (Below w.heap.size w w3) := ownC_grown_below (hbel.alloc hsz _) (by simp; omega) (HOW.out.alloc _) (Nat.le_refl _) hgrow3
        have HO3 : Hid (w3.ownsRow w.heap.size 3 1 (.slice (some ⟨g3, 0, none⟩) (i + 1) cap3) (i + 1) ((List.range (i + 1)).map fun q => Value.int .i64 (z q))) := by
          show World.ownsRow _ _ _ _ _ _ _
          rw [List.range_succ, List.map_append]
          show World.ownsRow _ _ _ _ _ _ (_ ++ [Value.int .i64 (z i)])
          rw [← HX.out]
          exact hown3
        clear hown3 hgrow3
        go_wp2
        go_roundw
        case rel => exact ⟨i + 1, by omega, by go_num, HB3.out, HO3.out⟩
        case measure => simp [intOf]; omega
    · have hie : i = k := by omega
      subst hie
      go_wp2
      go_ret
      exact ⟨_, rfl, HOW, hbel⟩

end Go.Proofs.YtpclldccjpncdabGreat

namespace Go.Proofs.YtpclldccjpncdabGreat
open Go.RowKit

/-- the byte at a place, 0 behind the end -/
def bt (s : ByteArray) (p : Nat) : Nat := if h : p < s.size then (s[p]'h).toNat else 0
theorem bt_in {s : ByteArray} {p : Nat} (h : p < s.size) : bt s p = (s[p]'h).toNat := by simp [bt, h]
theorem bt_out {s : ByteArray} {p : Nat} (h : s.size ≤ p) : bt s p = 0 := by simp [bt, Nat.not_lt.2 h]
theorem bt_le (s : ByteArray) (p : Nat) : bt s p ≤ 255 := by
  unfold bt
  split
  · have := UInt8.toNat_lt (s[p]); omega
  · omega

/-! what a text tells, at all texts -/
def dn (s : ByteArray) : Nat := bt s 0
def q0 (s : ByteArray) : Nat := 1 + dn s * 3
def dm (s : ByteArray) : Nat := bt s (q0 s)
def nxt (s : ByteArray) (p : Nat) : Nat := p + 1 + bt s p + 1 + bt s (p + 1 + bt s p)
def epos (s : ByteArray) : Nat → Nat
  | 0 => q0 s + 1
  | i + 1 => nxt s (epos s i)
def tak (s : ByteArray) (p k : Nat) : ByteArray := if p + k ≤ s.size then sub s p k else ByteArray.empty
def dtx (s : ByteArray) (i : Nat) : ByteArray := tak s (epos s i + 1) (bt s (epos s i))
def dkp (s : ByteArray) (i : Nat) : Nat := epos s i + 1 + bt s (epos s i)
def dk (s : ByteArray) (i : Nat) : Nat := bt s (dkp s i)
def dz (s : ByteArray) (i j : Nat) : Int := (bt s (dkp s i + 1 + j) : Nat)
def dp (s : ByteArray) (i : Nat) : Int := (bt s (1 + i * 3) : Nat)
def ds (s : ByteArray) (i : Nat) : Int := (bt s (1 + i * 3 + 1) : Nat)
def dt (s : ByteArray) (i : Nat) : Int := (bt s (1 + i * 3 + 2) : Nat)
/-- of the form -/
def good (s : ByteArray) : Prop := epos s (dm s) = s.size
/-- the table that is told, wherever its lists lie -/
def dL (s : ByteArray) : Lay := { n := dn s, m := dm s, na := none, ea := none, nc := 0, ec := 0, nb := 0, no := 0, eb := 0, eo := 0, p := dp s, s := ds s, t := dt s, tx := dtx s, la := fun _ => none, k := dk s, lc := fun _ => 0, lb := fun _ => 0, lo := fun _ => 0, z := dz s }
open Classical in
noncomputable def decE (s : ByteArray) : Int := if good s then (dL s).err else 7
theorem decE_bad {s : ByteArray} (h : ¬ good s) : decE s = 7 := by simp [decE, h]
theorem decE_good {s : ByteArray} (h : good s) : decE s = (dL s).err := by simp [decE, h]

theorem nxt_le (s : ByteArray) (p : Nat) : p + 2 ≤ nxt s p := by unfold nxt; omega
theorem epos_step (s : ByteArray) (i : Nat) : epos s (i + 1) = dkp s i + 1 + dk s i := rfl
theorem epos_up (s : ByteArray) (i : Nat) : ∀ j, i ≤ j → epos s i ≤ epos s j
  | 0, h => by have : i = 0 := by omega
               rw [this]; exact Nat.le_refl _
  | j + 1, h => by
    by_cases e : i = j + 1
    · rw [e]; exact Nat.le_refl _
    · have h1 := epos_up s i j (by omega)
      have h2 := nxt_le s (epos s j)
      show epos s i ≤ nxt s (epos s j)
      omega
theorem bad_nodes {s : ByteArray} (h : s.size < q0 s + 1) : ¬ good s := fun g => by
  have := epos_up s 0 (dm s) (Nat.zero_le _)
  unfold good at g
  rw [g] at this
  have e : epos s 0 = q0 s + 1 := rfl
  omega
theorem bad_entry {s : ByteArray} {i : Nat} (hi : i < dm s) (h : s.size < epos s (i + 1)) : ¬ good s := fun g => by
  have := epos_up s (i + 1) (dm s) (by omega)
  unfold good at g
  omega

set_option maxHeartbeats 1000000 in
theorem counted_any (s : ByteArray) (p z : Nat) (w : World) (hs : s.size ≤ 140737488351232) (hz : z = 1 ∨ z = 3) (hp : p ≤ 140737488351232) :
    Calls Tryz.prog 101 #[.string s, .int .i64 p, .int .i64 z] w fun e w' => w' = w ∧
      ((p < s.size ∧ p + 1 + bt s p * z ≤ s.size ∧ e = .returned (.tuple #[.string (sub s (p + 1) (bt s p * z)), .int .i64 ((p + 1 + bt s p * z : Nat) : Int), .bool true])) ∨
       ((s.size ≤ p ∨ s.size < p + 1 + bt s p * z) ∧ e = .returned (.tuple #[.string ByteArray.empty, .int .i64 0, .bool false]))) := by
  by_cases hlt : p < s.size
  · have hb := bt_le s p
    have hbi := bt_in hlt
    obtain ⟨x, hx⟩ : ∃ x, x = bt s p := ⟨_, rfl⟩
    have hxs : ((s[p]'hlt).toNat : Int) = x := by rw [hx, hbi]
    rw [← hx] at hb ⊢
    clear hbi hx
    by_cases hf : p + 1 + x * z ≤ s.size
    · rcases hz with rfl | rfl
      all_goals
        go_enter Tryz.func101, Tryz.ntmps101
        go_wp2
        go_ret3
        refine ⟨rfl, .inl ⟨hlt, hf, ?_⟩⟩
        unfold sub
        simp only [Nat.mul_one]
        congr 4
    · rcases hz with rfl | rfl
      all_goals
        go_enter Tryz.func101, Tryz.ntmps101
        go_wp2
        go_ret3
        exact ⟨rfl, .inr ⟨.inr (by omega), rfl⟩⟩
  · go_enter Tryz.func101, Tryz.ntmps101
    go_wp2
    go_ret3
    exact ⟨rfl, .inr ⟨.inl (by omega), rfl⟩⟩

/-- the bytes of a text as numbers -/
def nums' (s : ByteArray) (k : Nat) : List Int := (List.range k).map fun j => ((bt s j : Nat) : Int)
theorem nums'_len (s : ByteArray) (k : Nat) : (nums' s k).length = k := by simp [nums']
theorem nums'_snoc (s : ByteArray) (k : Nat) : nums' s (k + 1) = nums' s k ++ [((bt s k : Nat) : Int)] := by simp [nums', List.range_succ]

set_option maxRecDepth 100000 in
set_option maxHeartbeats 1000000 in
theorem numbersFrom_any (s : ByteArray) (w : World) (hs : s.size ≤ 255) :
    Calls Tryz.prog 127 #[.string s] w fun e w' => ∃ v, e = .returned v ∧ w'.ownsRow w.heap.size 3 1 v s.size ((nums' s s.size).map (Value.int .i64)) ∧ Below w.heap.size w w' := by
  obtain ⟨i0, hi0, hq0, hq1, hq2⟩ := info_parts infoIntC
  go_enter Tryz.func127, Tryz.ntmps127
  go_wp2
  go_loopw [3, 4] (fun v iv wr => ∃ i : Nat, i ≤ s.size ∧ iv = .int .i64 i ∧ Below w.heap.size w wr ∧ wr.ownsRow w.heap.size 3 1 v i ((nums' s i).map (Value.int .i64))) (fun _ iv _ => s.size - (intOf iv).toNat)
  case atStart => exact ⟨0, Nat.zero_le _, rfl, Below.refl _ _, World.ownsRow_nil _ _ _ _⟩
  case round =>
    obtain ⟨i, hi, rfl, hbel, hown⟩ := hrel
    have HOWN : Hid (wr.ownsRow w.heap.size 3 1 _ i ((nums' s i).map (Value.int .i64))) := hown
    clear hown
    have hsz := hbel.size
    by_cases hlt : i < s.size
    · have hxb := bt_le s i
      have hbi := bt_in hlt
      obtain ⟨x, hx⟩ : ∃ x, x = bt s i := ⟨_, rfl⟩
      have hxs : ((s[i]'hlt).toNat : Int) = x := by rw [hx, hbi]
      have HX : Hid (x = bt s i) := hx
      rw [← hx] at hxb
      clear hbi hx
      go_wp2_with (first
        | (at_builtin; refine wpList_append_lies _ (by rfl) (.tmp 11) (.tmp 16) 61 (by rfl) w.heap.size 3 i0 (.int .i64 0) 1 8 Tryz.underlying61 hi0 hq0 hq1 hq2 rfl (by omega) _ i _ (by rfl) (HOWN.out.alloc _) ⟨wr.heap.size, 0, none⟩ 1 1 [.int .i64 x] (by rfl) (by rfl) ?c1 ?c2 (by omega) ?c3 ?c5 ?c4 (wr.heap.size + 1) (by simp) ?_))
      case c1 => exact cell_one_new _ _ _
      case c2 => intro u hu; simp at hu; subst hu; rfl
      case c3 => unfold maxLen; omega
      case c5 => omega
      case c4 => simp; omega
      · intro gv cap2 w2 hown2 hgrow _ _
        have HBN : Hid (Below w.heap.size w w2) := ownC_grown_below (hbel.alloc hsz _) (by simp; omega) (HOWN.out.alloc _) (Nat.le_refl _) hgrow
        have HO2 : Hid (w2.ownsRow w.heap.size 3 1 (.slice (some ⟨gv, 0, none⟩) (i + 1) cap2) (i + 1) ((nums' s (i + 1)).map (Value.int .i64))) := by
          show _
          rw [nums'_snoc, List.map_append, ← HX.out]
          exact hown2
        clear hown2 hgrow
        go_wp2
        go_roundw
        case rel => exact ⟨i + 1, by omega, by go_num, HBN.out, HO2.out⟩
        case measure => simp [intOf]; omega
    · have hie : i = s.size := by omega
      subst hie
      go_wp2
      go_ret
      exact ⟨_, rfl, HOWN.out, hbel⟩

/-- nodes by threes -/
def nodes3 (s : ByteArray) (k : Nat) : List Value := (List.range k).flatMap fun i => [.int .i64 ((bt s (i * 3) : Nat) : Int), .int .i64 ((bt s (i * 3 + 1) : Nat) : Int), .int .i64 ((bt s (i * 3 + 2) : Nat) : Int)]
theorem nodes3_snoc (s : ByteArray) (k : Nat) : nodes3 s (k + 1) = nodes3 s k ++ [.int .i64 ((bt s (k * 3) : Nat) : Int), .int .i64 ((bt s (k * 3 + 1) : Nat) : Int), .int .i64 ((bt s (k * 3 + 2) : Nat) : Int)] := by simp [nodes3, List.range_succ]

set_option maxRecDepth 100000 in
set_option maxHeartbeats 1000000 in
theorem nodesFrom_any (s : ByteArray) (n : Nat) (w : World) (hs : s.size = n * 3) (hn : n ≤ 255) :
    Calls Tryz.prog 103 #[.string s] w fun e w' => ∃ v, e = .returned v ∧ w'.ownsRow w.heap.size 65 3 v n (nodes3 s n) ∧ Below w.heap.size w w' := by
  obtain ⟨i0, hi0, hq0, hq1, hq2⟩ := info_parts infoNodeC
  have HS : Hid (s.size = n * 3) := hs
  have hsz0 : s.size ≤ 765 := by omega
  clear hs
  go_enter Tryz.func103, Tryz.ntmps103
  go_wp2
  go_loopw [3, 4] (fun v iv wr => ∃ i c : Nat, Hid (c = i * 3) ∧ i ≤ n ∧ iv = .int .i64 (c : Nat) ∧ Below w.heap.size w wr ∧ wr.ownsRow w.heap.size 65 3 v i (nodes3 s i)) (fun _ iv _ => s.size - (intOf iv).toNat)
  case atStart => exact ⟨0, 0, rfl, Nat.zero_le _, rfl, Below.refl _ _, World.ownsRow_nil _ _ _ _⟩
  case round =>
    obtain ⟨i, c, HC, hi, rfl, hbel, hown⟩ := hrel
    have HOWN : Hid (wr.ownsRow w.heap.size 65 3 _ i (nodes3 s i)) := hown
    clear hown
    have hsz := hbel.size
    by_cases hlt : i < n
    · have l0 : c < s.size := by have := HS.out; have := HC.out; omega
      have l1 : c + 1 < s.size := by have := HS.out; have := HC.out; omega
      have l2 : c + 2 < s.size := by have := HS.out; have := HC.out; omega
      have xb0 := bt_le s c
      have xb1 := bt_le s (c + 1)
      have xb2 := bt_le s (c + 2)
      have b0 := bt_in l0
      have b1 := bt_in l1
      have b2 := bt_in l2
      obtain ⟨x0, hx0⟩ : ∃ x, x = bt s c := ⟨_, rfl⟩
      obtain ⟨x1, hx1⟩ : ∃ x, x = bt s (c + 1) := ⟨_, rfl⟩
      obtain ⟨x2, hx2⟩ : ∃ x, x = bt s (c + 2) := ⟨_, rfl⟩
      have e0 : ((s[c]'l0).toNat : Int) = x0 := by rw [hx0, b0]
      have e1 : ((s[c + 1]'l1).toNat : Int) = x1 := by rw [hx1, b1]
      have e2 : ((s[c + 2]'l2).toNat : Int) = x2 := by rw [hx2, b2]
      have HX : Hid (x0 = bt s (i * 3) ∧ x1 = bt s (i * 3 + 1) ∧ x2 = bt s (i * 3 + 2)) := by
        have := HC.out
        show _ ∧ _
        rw [← this]
        exact ⟨hx0, hx1, hx2⟩
      rw [← hx0] at xb0
      rw [← hx1] at xb1
      rw [← hx2] at xb2
      clear b0 b1 b2 hx0 hx1 hx2
      have t1 : ((c : Int) + 1).toNat = c + 1 := by omega
      have t2 : ((c : Int) + 2).toNat = c + 2 := by omega
      have r1 : (c : Int) + 1 < (s.size : Int) := by omega
      have r2 : (c : Int) + 2 < (s.size : Int) := by omega
      have r3 : (0 : Int) ≤ (c : Int) + 1 := by omega
      have r4 : (0 : Int) ≤ (c : Int) + 2 := by omega
      go_wp2
      go_region
      go_wp2_with (first
        | (at_builtin; refine wpList_append_lies _ (by rfl) (.tmp 28) (.tmp 30) 25 (by rfl) w.heap.size 65 i0 (.agg #[.int .i64 0, .int .i64 0, .int .i64 0]) 3 24 Tryz.underlying25 hi0 hq0 hq1 hq2 rfl (by omega) _ i _ (by rfl) ((HOWN.out.alloc _).drew.alloc _) ⟨wr.heap.size + 1, 0, none⟩ 1 1 [.int .i64 x0, .int .i64 x1, .int .i64 x2] (by rfl) (by rfl) ?c1 ?c2 (by omega) ?c3 ?c5 ?c4 (wr.heap.size + 2) (by simp) ?_))
      case c1 => exact newC3 _ (by simp) _ _ _ _
      case c2 => intro u hu; simp at hu; rcases hu with rfl | rfl | rfl <;> rfl
      case c3 => unfold maxLen; omega
      case c5 => omega
      case c4 => simp; omega
      · intro gv cap2 w2 hown2 hgrow _ _
        have HBN : Hid (Below w.heap.size w w2) := ownC_grown_below ((hbel.alloc hsz _).drew.alloc (by simp; omega) _) (by simp; omega) ((HOWN.out.alloc _).drew.alloc _) (Nat.le_refl _) hgrow
        have HO2 : Hid (w2.ownsRow w.heap.size 65 3 (.slice (some ⟨gv, 0, none⟩) (i + 1) cap2) (i + 1) (nodes3 s (i + 1))) := by
          show _
          rw [nodes3_snoc, ← HX.out.1, ← HX.out.2.1, ← HX.out.2.2]
          exact hown2
        clear hown2 hgrow
        go_wp2
        go_roundw
        case rel => exact ⟨i + 1, c + 3, (by have := HC.out; show _ = _; omega), by omega, by go_num, HBN.out, HO2.out⟩
        case measure => simp [intOf]; omega
    · have hie : i = n := by omega
      subst hie
      have c0 : c ≤ 765 := by have := HC.out; omega
      have l0 : (s.size : Int) ≤ (c : Int) + 2 := by have := HS.out; have := HC.out; omega
      go_wp2
      go_ret
      exact ⟨_, rfl, HOWN.out, hbel⟩

end Go.Proofs.YtpclldccjpncdabGreat
