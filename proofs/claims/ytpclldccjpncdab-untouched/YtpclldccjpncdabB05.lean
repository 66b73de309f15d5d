import Derived.Test.YtpclldccjpncdabB04
import Derived.Maps.AppendAt
import Derived.OwnWalk
import Derived.Laws.Rows
import Derived.Laws.BytesArg
import Derived.Lib.AppendStr
namespace Go.Proofs.Ytpclldccjpncdab
open Go.RowKit

/-- nothing is appended -/
theorem run_append_void {P : Program} (w : World) (base : Nat) (t ty e : TypeId) (i : TypeInfo) (size : Nat) (ht : P.underlying t = some (.slice e)) (hi : P.info? e = some i) (v : Value) (n : Nat) (xs : List Value) (hown : w.ownsRow base e size v n xs) (c : Nat) :
    (Builtin.append_ #[t, t] ty #[v, .slice none 0 c]).run P w = .ok v w := by
  rcases hown.2 with ⟨rfl, rfl⟩ | ⟨g, cap, cur, rfl, hbg, hg, hnc, hcm, hcs, htake⟩
  · simp [Builtin.append_, run_underlying ht, sizeOf, typeInfo, hi, Builtin.lenOf, Builtin.firstCells]
  · simp [Builtin.append_, run_underlying ht, sizeOf, typeInfo, hi, Builtin.lenOf, Builtin.firstCells, storeCells, hnc]
/-- append, of nothing too -/
theorem wpList_append_all {P : Program} (w : World) {ops : Array Oper} {rest : List Oper} {o : Oper} {a : Act} {Q : Exit → Act → World → Prop} (hgd : o.guard = none) (s x : Operand) (t : TypeId)
    (ho : o.op = .call { callee := .builtin .append, args := #[s, x], argTypes := #[t, t] })
    (base : Nat) (e : TypeId) (i : TypeInfo) (z : Value) (size bytes : Nat) (ht : P.underlying t = some (.slice e)) (hi : P.info? e = some i) (hz : i.zero = some z)
    (hsize : i.size = size) (hby : i.bytes = bytes) (hzs : z.cells.size = size) (hsz : 0 < size)
    (v : Value) (n : Nat) (xs : List Value) (hs : a.eval s = v) (hown : w.ownsRow base e size v n xs)
    (xo : Option Addr) (ad : Addr) (m c : Nat) (news : List Value) (hx : a.eval x = .slice xo m c) (hxo : 0 < m → xo = some ad) (hl : news.length = m * size) (hnews : ∀ j u, news[j]? = some u → w.cell? (ad.add j) = some u) (h1 : ∀ u ∈ news, u.oneCell' = true)
    (h63 : n + m ≤ maxLen) (hbytes : (n + m) * bytes ≤ 140737488355328) (hbase : base ≤ w.heap.size)
    (h : ∀ v' w', w'.ownsRow base e size v' (n + m) (xs ++ news) → w.grownBy w' v.ownBlock → wpList P ops Q rest (a.put o.dst v') w') : wpList P ops Q (o :: rest) a w := by
  by_cases hm : 0 < m
  · have hxo' := hxo hm
    subst hxo'
    obtain ⟨v', w', hr, h2, h3, _, _⟩ := run_append_own_at (P := P) w base t o.type e i z size bytes ht hi hz hsize hby hzs hsz v n xs hown ad m c news hl hnews h1 h63 hbytes hbase
    refine wpList_plain hgd fun _ hK => ?_
    unfold Oper.wp execOp
    simp only [ho, resolve, invoke, builtin, Sem.run_bind, Sem.run_pure, Result.andThen_ok, List.map_toArray, List.map_cons, List.map_nil, hs, hx, hr]
    exact hK _ _ (h v' w' h2 h3)
  · have hm0 : m = 0 := by omega
    subst hm0
    have hn0 : news = [] := List.eq_nil_of_length_eq_zero (by simpa using hl)
    subst hn0
    cases xo with
    | none =>
      have hr := run_append_void (P := P) w base t o.type e i size ht hi v n xs hown c
      refine wpList_plain hgd fun _ hK => ?_
      unfold Oper.wp execOp
      simp only [ho, resolve, invoke, builtin, Sem.run_bind, Sem.run_pure, Result.andThen_ok, List.map_toArray, List.map_cons, List.map_nil, hs, hx, hr]
      exact hK _ _ (h v w (by simpa using hown) ⟨rfl, rfl, rfl, Nat.le_refl _, fun _ _ _ => rfl⟩)
    | some ad' =>
      obtain ⟨v', w', hr, h2, h3, _, _⟩ := run_append_own_at (P := P) w base t o.type e i z size bytes ht hi hz hsize hby hzs hsz v n xs hown ad' 0 c [] hl (fun j u hu => by simp at hu) (fun u hu => by simp at hu) h63 hbytes hbase
      refine wpList_plain hgd fun _ hK => ?_
      unfold Oper.wp execOp
      simp only [ho, resolve, invoke, builtin, Sem.run_bind, Sem.run_pure, Result.andThen_ok, List.map_toArray, List.map_cons, List.map_nil, hs, hx, hr]
      exact hK _ _ (h v' w' h2 h3)

theorem own_lt' {w : World} {base : Nat} {e : TypeId} {size : Nat} {v : Value} {k : Nat} {xs : List Value} (ho : w.ownsRow base e size v k xs) {b : Nat} (hb : v.ownBlock = some b) : b < w.heap.size := by
  obtain ⟨_, h2⟩ := ho
  rcases h2 with ⟨rfl, _⟩ | ⟨g, cap, cur, rfl, _, hh, _⟩
  · simp [Value.ownBlock] at hb
  · simp only [Value.ownBlock, Option.some.injEq] at hb
    subst hb
    exact (Array.getElem?_eq_some_iff.1 hh).1
/-- behind an append to a row of one's own: all below is as it was -/
theorem grown_below {B : Nat} {w wr w2 : World} {base : Nat} {e : TypeId} {size : Nat} {v : Value} {n : Nat} {xs : List Value} (hb : Below B w wr) (hB : B ≤ wr.heap.size) (hown : wr.ownsRow base e size v n xs) (hbase : B ≤ base) (hg : wr.grownBy w2 v.ownBlock) : Below B w w2 :=
  hb.grown hg hB (fun r hr => by
    obtain ⟨_, ho⟩ := hown
    rcases ho with ⟨hv, _⟩ | ⟨b', _, _, hv, hb', _⟩
    · rw [hv] at hr; simp [Value.ownBlock] at hr
    · rw [hv] at hr; simp [Value.ownBlock] at hr; omega)

theorem wts_snoc (L : Lay) (lv : Nat) (l : List Nat) (c : Nat) : wts L lv (l ++ [c]) = if wt L lv c ≠ 0 then wts L lv l ++ [wt L lv c] else wts L lv l := by
  by_cases h : wt L lv c = 0
  · simp [wts, h]
  · simp [wts, h]
theorem wts_len (L : Lay) (lv : Nat) (l : List Nat) : (wts L lv l).length ≤ l.length := by
  unfold wts
  exact Nat.le_trans (List.length_filter_le _ _) (by simp)
theorem take_snoc_n (l : List Nat) (i : Nat) (h : i < l.length) : l.take (i + 1) = l.take i ++ [l.getD i 0] := by
  rw [List.take_succ_eq_append_getElem h]
  simp [List.getD, List.getElem?_eq_getElem h]

set_option maxRecDepth 100000 in
set_option maxHeartbeats 1000000 in
theorem weights_any (L : Lay) (l : List Nat) (lv : Nat) (ao : Option Addr) (b off cap : Nat) (w : World) (hl : l.length ≤ 1000) (h1 : 1 ≤ lv) (h3 : lv ≤ 3)
    (h : NodesIn w.heap.size w ao l.length b off (fun i => L.p (l.getD i 0)) (fun i => L.s (l.getD i 0)) (fun i => L.t (l.getD i 0))) :
    Calls Try.prog 49 #[.slice ao l.length cap, .int .i64 lv] w fun e w' => ∃ ao' cap' b', e = .returned (.slice ao' (wts L lv l).length cap') ∧ IntsL w'.heap.size w' ao' (wts L lv l) b' 0 ∧ Below w.heap.size w w' := by
  have HN : Hid (NodesIn w.heap.size w ao l.length b off (fun i => L.p (l.getD i 0)) (fun i => L.s (l.getD i 0)) (fun i => L.t (l.getD i 0))) := h
  clear h
  obtain ⟨N, hN⟩ : ∃ N, N = l.length := ⟨_, rfl⟩
  have HL : Hid (N = l.length) := hN
  rw [← hN] at hl ⊢
  clear hN
  obtain ⟨i0, hi0, hq0, hq1, hq2⟩ := info_parts infoInt
  go_enter Try.func49, Try.ntmps49
  go_wp2
  go_loopw [5, 6] (fun v iv wr => ∃ i : Nat, i ≤ N ∧ iv = .int .i64 i ∧ Below w.heap.size w wr ∧ wr.ownsRow w.heap.size 3 1 v (wts L lv (l.take i)).length ((wts L lv (l.take i)).map (Value.int .i64))) (fun _ iv _ => N - (intOf iv).toNat)
  case atStart => exact ⟨0, Nat.zero_le _, rfl, Below.refl _ _, World.ownsRow_nil _ _ _ _⟩
  case round =>
    obtain ⟨i, hi, rfl, hbel, hown⟩ := hrel
    have HOWN : Hid (wr.ownsRow w.heap.size 3 1 _ (wts L lv (l.take i)).length ((wts L lv (l.take i)).map (Value.int .i64))) := hown
    clear hown
    have hsz := hbel.size
    by_cases hlt : i < N
    · have hll : i < l.length := by have := HL.out; omega
      have ha := HN.out.addr (by omega)
      subst ha
      have hbb := HN.out.lt (by omega)
      have c0 := cellTo hbel (HN.out.p i hll) hbb
      have c1 := cellTo hbel (HN.out.s i hll) hbb
      have c2 := cellTo hbel (HN.out.t i hll) hbb
      obtain ⟨c, hc⟩ : ∃ c, c = l.getD i 0 := ⟨_, rfl⟩
      rw [← hc] at c0 c1 c2
      have HSN : Hid (wts L lv (l.take (i + 1)) = if wt L lv c ≠ 0 then wts L lv (l.take i) ++ [wt L lv c] else wts L lv (l.take i)) := by
        show _ = _
        rw [take_snoc_n l i hll, ← hc]
        exact wts_snoc L lv (l.take i) c
      have hwl : (wts L lv (l.take i)).length ≤ i := Nat.le_trans (wts_len L lv _) (List.length_take_le _ _)
      have HWT : Hid ((if lv = 1 then L.p c else if lv = 2 then L.s c else L.t c) = wt L lv c) := rfl
      obtain ⟨x, hx⟩ : ∃ x, x = wt L lv c := ⟨_, rfl⟩
      have HX : Hid (x = wt L lv c) := hx
      clear hx hc hll
      by_cases hx0 : x = 0
      · go_wp2_with (first
          | (go_at_call 71; refine (weight_any _ _ _ _ _ h1 h3).mono ?_; rintro e w1 ⟨rfl, hb1⟩; rw [HWT.out, ← HX.out]))
        go_roundw
        case rel => exact ⟨i + 1, by omega, by go_num, below_then hbel hb1, by
            have hs := HSN.out
            rw [if_neg (by rw [← HX.out]; simpa using hx0)] at hs
            rw [hs]
            exact own_of_block HOWN.out (fun b h => hb1.block b (own_lt' HOWN.out h))⟩
        case measure => simp [intOf]; omega
      · go_wp2_with (first
          | (go_at_call 71; refine (weight_any _ _ _ _ _ h1 h3).mono ?_; rintro e w1 ⟨rfl, hb1⟩; rw [HWT.out, ← HX.out])
          | (at_builtin; refine wpList_append_lies _ (by rfl) (.tmp 22) (.tmp 24) 22 (by rfl) w.heap.size 3 i0 (.int .i64 0) 1 8 Try.underlying22 hi0 hq0 hq1 hq2 rfl (by omega) _ _ _ (by rfl) (own_of_block HOWN.out (fun b h => (below_then hb1 (below_one _)).block b (own_lt' HOWN.out h))) ⟨w1.heap.size, 0, none⟩ 1 1 [.int .i64 x] (by rfl) (by rfl) ?c1 ?c2 (by omega) ?c3 ?c5 ?c4 (w1.heap.size + 1) (by simp) ?_))
        case c1 => exact cell_one_new _ _ _
        case c2 => intro u hu; simp at hu; subst hu; rfl
        case c3 => unfold maxLen; omega
        case c5 => omega
        case c4 => have := hb1.size; simp; omega
        · intro gv cap2 w2 hown2 hgrow _ _
          have hz1 := hb1.size
          have HBN : Hid (Below w.heap.size w w2) := grown_below (below_then (below_then hbel hb1) (below_one _)) (by simp; omega) (own_of_block HOWN.out (fun b h => (below_then hb1 (below_one _)).block b (own_lt' HOWN.out h))) (Nat.le_refl _) hgrow
          have HO2 : Hid (w2.ownsRow w.heap.size 3 1 (.slice (some ⟨gv, 0, none⟩) ((wts L lv (l.take i)).length + 1) cap2) (wts L lv (l.take (i + 1))).length ((wts L lv (l.take (i + 1))).map (Value.int .i64))) := by
            show _
            have hs := HSN.out
            rw [if_pos (by rw [← HX.out]; exact hx0), ← HX.out] at hs
            rw [hs, List.length_append, List.map_append]
            exact hown2
          clear hown2 hgrow
          go_wp2
          go_roundw
          case rel => exact ⟨i + 1, by omega, by go_num, HBN.out, HO2.out⟩
          case measure => simp [intOf]; omega
    · have hie : i = N := by omega
      subst hie
      have htk : l.take i = l := List.take_of_length_le (by have := HL.out; omega)
      have ho := HOWN.out
      rw [htk] at ho
      obtain ⟨ao', cap', b', hv, hint⟩ := ints_of_own rfl (by have := wts_len L lv l; have := HL.out; omega) ho
      have HI : Hid (IntsL wr.heap.size wr ao' (wts L lv l) b' 0) := hint
      clear hint ho htk
      subst hv
      go_wp2
      go_ret
      exact ⟨_, _, _, rfl, HI.out, hbel⟩

end Go.Proofs.Ytpclldccjpncdab

namespace Go.Proofs.Ytpclldccjpncdab
open Go.RowKit

/-- the byte at a place, 0 behind the end -/
def bt (s : ByteArray) (p : Nat) : Nat := if h : p < s.size then (s[p]'h).toNat else 0
theorem bt_in {s : ByteArray} {p : Nat} (h : p < s.size) : bt s p = (s[p]'h).toNat := by simp [bt, h]
theorem bt_out {s : ByteArray} {p : Nat} (h : s.size ≤ p) : bt s p = 0 := by simp [bt, Nat.not_lt.2 h]
theorem bt_le (s : ByteArray) (p : Nat) : bt s p ≤ 255 := by
  unfold bt
  split
  · have := UInt8.toNat_lt (s[p]); omega
  · omega

/-! what a text tells, at all texts -/
def dn (s : ByteArray) : Nat := bt s 0
def q0 (s : ByteArray) : Nat := 1 + dn s * 3
def dm (s : ByteArray) : Nat := bt s (q0 s)
def nxt (s : ByteArray) (p : Nat) : Nat := p + 1 + bt s p + 1 + bt s (p + 1 + bt s p)
def epos (s : ByteArray) : Nat → Nat
  | 0 => q0 s + 1
  | i + 1 => nxt s (epos s i)
def tak (s : ByteArray) (p k : Nat) : ByteArray := if p + k ≤ s.size then sub s p k else ByteArray.empty
def dtx (s : ByteArray) (i : Nat) : ByteArray := tak s (epos s i + 1) (bt s (epos s i))
def dkp (s : ByteArray) (i : Nat) : Nat := epos s i + 1 + bt s (epos s i)
def dk (s : ByteArray) (i : Nat) : Nat := bt s (dkp s i)
def dz (s : ByteArray) (i j : Nat) : Int := (bt s (dkp s i + 1 + j) : Nat)
def dp (s : ByteArray) (i : Nat) : Int := (bt s (1 + i * 3) : Nat)
def ds (s : ByteArray) (i : Nat) : Int := (bt s (1 + i * 3 + 1) : Nat)
def dt (s : ByteArray) (i : Nat) : Int := (bt s (1 + i * 3 + 2) : Nat)
/-- of the form -/
def good (s : ByteArray) : Prop := epos s (dm s) = s.size
/-- the table that is told, wherever its lists lie -/
def dL (s : ByteArray) : Lay := { n := dn s, m := dm s, na := none, ea := none, nc := 0, ec := 0, nb := 0, no := 0, eb := 0, eo := 0, p := dp s, s := ds s, t := dt s, tx := dtx s, la := fun _ => none, k := dk s, lc := fun _ => 0, lb := fun _ => 0, lo := fun _ => 0, z := dz s }
open Classical in
noncomputable def decE (s : ByteArray) : Int := if good s then (dL s).err else 7
theorem decE_bad {s : ByteArray} (h : ¬ good s) : decE s = 7 := by simp [decE, h]
theorem decE_good {s : ByteArray} (h : good s) : decE s = (dL s).err := by simp [decE, h]

theorem nxt_le (s : ByteArray) (p : Nat) : p + 2 ≤ nxt s p := by unfold nxt; omega
theorem epos_step (s : ByteArray) (i : Nat) : epos s (i + 1) = dkp s i + 1 + dk s i := rfl
theorem epos_up (s : ByteArray) (i : Nat) : ∀ j, i ≤ j → epos s i ≤ epos s j
  | 0, h => by have : i = 0 := by omega
               rw [this]; exact Nat.le_refl _
  | j + 1, h => by
    by_cases e : i = j + 1
    · rw [e]; exact Nat.le_refl _
    · have h1 := epos_up s i j (by omega)
      have h2 := nxt_le s (epos s j)
      show epos s i ≤ nxt s (epos s j)
      omega
theorem bad_nodes {s : ByteArray} (h : s.size < q0 s + 1) : ¬ good s := fun g => by
  have := epos_up s 0 (dm s) (Nat.zero_le _)
  unfold good at g
  rw [g] at this
  have e : epos s 0 = q0 s + 1 := rfl
  omega
theorem bad_entry {s : ByteArray} {i : Nat} (hi : i < dm s) (h : s.size < epos s (i + 1)) : ¬ good s := fun g => by
  have := epos_up s (i + 1) (dm s) (by omega)
  unfold good at g
  omega

/-- the bytes of a text as numbers -/
def nums' (s : ByteArray) (k : Nat) : List Int := (List.range k).map fun j => ((bt s j : Nat) : Int)
theorem nums'_len (s : ByteArray) (k : Nat) : (nums' s k).length = k := by simp [nums']
theorem nums'_snoc (s : ByteArray) (k : Nat) : nums' s (k + 1) = nums' s k ++ [((bt s k : Nat) : Int)] := by simp [nums', List.range_succ]

/-- nodes by threes -/
def nodes3 (s : ByteArray) (k : Nat) : List Value := (List.range k).flatMap fun i => [.int .i64 ((bt s (i * 3) : Nat) : Int), .int .i64 ((bt s (i * 3 + 1) : Nat) : Int), .int .i64 ((bt s (i * 3 + 2) : Nat) : Int)]
theorem nodes3_snoc (s : ByteArray) (k : Nat) : nodes3 s (k + 1) = nodes3 s k ++ [.int .i64 ((bt s (k * 3) : Nat) : Int), .int .i64 ((bt s (k * 3 + 1) : Nat) : Int), .int .i64 ((bt s (k * 3 + 2) : Nat) : Int)] := by simp [nodes3, List.range_succ]

end Go.Proofs.Ytpclldccjpncdab

namespace Go.Proofs.Ytpclldccjpncdab
open Go.RowKit

/-- lists of numbers that are one's own, each in a block of its own -/
structure EntsO (B : Nat) (k : Nat → Nat) (z : Nat → Nat → Int) (i : Nat) (vs : Nat → Option Addr) (cs : Nat → Nat) (w : World) : Prop where
  own : ∀ j, j < i → w.ownsRow B 3 1 (.slice (vs j) (k j) (cs j)) (k j) ((List.range (k j)).map fun q => Value.int .i64 (z j q))
  apart : ∀ a b x, a < b → b < i → (vs a).map (·.block) = some x → (vs b).map (·.block) ≠ some x
def entC (tx : Nat → ByteArray) (k : Nat → Nat) (vs : Nat → Option Addr) (cs : Nat → Nat) (i : Nat) : List Value := (List.range i).flatMap fun j => [.string (tx j), .slice (vs j) (k j) (cs j)]
theorem entC_snoc (tx : Nat → ByteArray) (k : Nat → Nat) (vs : Nat → Option Addr) (cs : Nat → Nat) (i : Nat) : entC tx k vs cs (i + 1) = entC tx k vs cs i ++ [.string (tx i), .slice (vs i) (k i) (cs i)] := by simp [entC, List.range_succ]
theorem entC_congr (tx : Nat → ByteArray) (k : Nat → Nat) (vs vs' : Nat → Option Addr) (cs cs' : Nat → Nat) (i : Nat) (h : ∀ j, j < i → vs j = vs' j ∧ cs j = cs' j) : entC tx k vs cs i = entC tx k vs' cs' i := by
  induction i with
  | zero => rfl
  | succ i ih => rw [entC_snoc, entC_snoc, ih fun j hj => h j (by omega), (h i (by omega)).1, (h i (by omega)).2]
def upd {α : Type} (f : Nat → α) (i : Nat) (x : α) : Nat → α := fun j => if j = i then x else f j
theorem upd_at {α : Type} (f : Nat → α) (i : Nat) (x : α) : upd f i x i = x := by simp [upd]
theorem upd_ne {α : Type} (f : Nat → α) (i : Nat) (x : α) {j : Nat} (h : j ≠ i) : upd f i x j = f j := by simp [upd, h]
theorem slice_own (vo : Option Addr) (n c : Nat) : (Value.slice vo n c).ownBlock = vo.map (·.block) := by cases vo <;> rfl

theorem EntsO.nil (B : Nat) (k : Nat → Nat) (z : Nat → Nat → Int) (vs : Nat → Option Addr) (cs : Nat → Nat) (w : World) : EntsO B k z 0 vs cs w := ⟨fun j h => by omega, fun a b x _ h => by omega⟩
theorem EntsO.below {B : Nat} {k : Nat → Nat} {z : Nat → Nat → Int} {i : Nat} {vs : Nat → Option Addr} {cs : Nat → Nat} {w w' : World} (h : EntsO B k z i vs cs w) (hb : Below w.heap.size w w') : EntsO B k z i vs cs w' :=
  ⟨fun j hj => ownC_below (h.own j hj) hb, h.apart⟩
theorem EntsO.base {B B' : Nat} {k : Nat → Nat} {z : Nat → Nat → Int} {i : Nat} {vs : Nat → Option Addr} {cs : Nat → Nat} {w : World} (h : EntsO B k z i vs cs w) (hB : B' ≤ B) : EntsO B' k z i vs cs w :=
  ⟨fun j hj => ownC_base (h.own j hj) hB, h.apart⟩
/-- behind an append to a row of another type -/
theorem EntsO.grown {B : Nat} {k : Nat → Nat} {z : Nat → Nat → Int} {i : Nat} {vs : Nat → Option Addr} {cs : Nat → Nat} {w w' : World} (h : EntsO B k z i vs cs w) {base : Nat} {e : TypeId} {size : Nat} {v : Value} {n : Nat} {xs : List Value} (ho : w.ownsRow base e size v n xs) (ht : 3 ≠ e) (hg : w.grownBy w' v.ownBlock) : EntsO B k z i vs cs w' :=
  ⟨fun j hj => ownC_grown (h.own j hj) ho ht hg, h.apart⟩
/-- one more list, which is younger than the others -/
theorem EntsO.add {B : Nat} {k : Nat → Nat} {z : Nat → Nat → Int} {i : Nat} {vs : Nat → Option Addr} {cs : Nat → Nat} {w w' : World} (h : EntsO B k z i vs cs w) (hb : Below w.heap.size w w') {vo : Option Addr} {vc : Nat} (hB : B ≤ w.heap.size)
    (ho : w'.ownsRow w.heap.size 3 1 (.slice vo (k i) vc) (k i) ((List.range (k i)).map fun q => Value.int .i64 (z i q))) : EntsO B k z (i + 1) (upd vs i vo) (upd cs i vc) w' := by
  refine ⟨fun j hj => ?_, fun a b x hab hbi => ?_⟩
  · by_cases e : j = i
    · subst e
      rw [upd_at, upd_at]
      exact ownC_base ho hB
    · rw [upd_ne _ _ _ e, upd_ne _ _ _ e]
      exact ownC_below (h.own j (by omega)) hb
  · by_cases e : b = i
    · subst e
      rw [upd_at, upd_ne _ _ _ (by omega)]
      intro h1 h2
      have l1 := (ownC_lt (h.own a (by omega)) (b := x) (by rw [slice_own]; exact h1)).1
      have l2 := (ownC_lt ho (b := x) (by rw [slice_own]; exact h2)).2
      omega
    · rw [upd_ne _ _ _ e, upd_ne _ _ _ (by omega)]
      exact h.apart a b x hab (by omega)

/-- the numbers of an entry that is read -/
theorem nums_entry (s : ByteArray) (p h : Nat) (hp : p + h ≤ s.size) : (nums' (sub s p h) (sub s p h).size).map (Value.int .i64) = (List.range h).map fun q => Value.int .i64 ((bt s (p + q) : Nat) : Int) := by
  have hsz : (sub s p h).size = h := by simp [sub, ByteArray.size_extract]; omega
  rw [hsz, nums', List.map_map]
  refine List.map_congr_left fun q hq => ?_
  have hq := List.mem_range.1 hq
  have : bt (sub s p h) q = bt s (p + q) := by
    rw [bt_in (by rw [hsz]; exact hq), bt_in (by omega)]
    simp [sub, ByteArray.getElem_extract]
  simp [this]
theorem sub_size (s : ByteArray) (p h : Nat) (hp : p + h ≤ s.size) : (sub s p h).size = h := by simp [sub, ByteArray.size_extract]; omega

def entZ (k : Nat → Nat) (z : Nat → Nat → Int) (j : Nat) : List Value := (List.range (k j)).map fun q => Value.int .i64 (z j q)

theorem tak_in {s : ByteArray} {p k : Nat} (h : p + k ≤ s.size) : tak s p k = sub s p k := by simp [tak, h]
end Go.Proofs.Ytpclldccjpncdab

namespace Go.Proofs.Ytpclldccjpncdab
open Go.RowKit

/-- the bytes of a text, as numbers -/
def blC (s : ByteArray) : List Int := s.data.toList.map fun u => (u.toNat : Int)
theorem blC_len (s : ByteArray) : (blC s).length = s.size := by rw [blC, List.length_map, Array.length_toList]; rfl
theorem blC_cells (s : ByteArray) : Go.Lib.strCells s = (blC s).map (Value.int .u8) := by simp [Go.Lib.strCells, blC]
theorem blC_str (s : ByteArray) : strOfNums (blC s) = s := by
  apply ByteArray.ext
  apply Array.ext'
  rw [strOfNums_data, blC, List.map_map]
  refine (List.map_congr_left (g := id) fun u _ => ?_).trans (List.map_id _)
  simp
theorem str_app (a b : List Int) : strOfNums (a ++ b) = strOfNums a ++ strOfNums b := by
  apply ByteArray.ext
  apply Array.ext'
  rw [ByteArray.data_append, Array.toList_append, strOfNums_data, strOfNums_data, strOfNums_data, List.map_append]
/-- bytes of one's own become a text -/
theorem convC {w : World} {base : Nat} {v : Value} {l : List Int} (ho : w.ownsRow base 5 1 v l.length (l.map (Value.int .u8))) : ∃ vo vc, v = .slice vo l.length vc ∧ (convert 69 9 (.slice vo l.length vc)).run Try.prog w = .ok (.string (strOfNums l)) w := by
  obtain ⟨vo, vc, gv, rfl, ha, hc⟩ := ownC_cells ho
  refine ⟨vo, vc, rfl, ?_⟩
  by_cases h0 : 0 < l.length
  · rw [(ha h0).1]
    refine run_convert_bytes_arg w 69 5 Try.underlying69 Try.underlying5 gv 0 l.length vc l rfl (fun i hi => ?_) 9 Try.underlying9
    have := hc i (.int .u8 (l.getD i 0)) (by omega) (by simp [List.getD, List.getElem?_eq_getElem hi])
    simpa using this
  · have hl : l = [] := List.eq_nil_of_length_eq_zero (by omega)
    subst hl
    obtain ⟨_, h2⟩ := ho
    rcases h2 with ⟨hv, _⟩ | ⟨g, cap, cur, hv, _⟩
    · cases hv
      exact run_convert_bytes_nil w 69 5 Try.underlying69 Try.underlying5 0 0 9 Try.underlying9
    · cases hv
      exact run_convert_bytes_arg w 69 5 Try.underlying69 Try.underlying5 g 0 0 vc [] rfl (fun i hi => by omega) 9 Try.underlying9

def zl (k : Nat) (z : Nat → Int) : List Int := (List.range k).map z
theorem zl_len (k : Nat) (z : Nat → Int) : (zl k z).length = k := by simp [zl]
theorem zl_snoc (k : Nat) (z : Nat → Int) : zl (k + 1) z = zl k z ++ [z k] := by simp [zl, List.range_succ]
/-- the numbers of an entry -/
def enC (tx : ByteArray) (k : Nat) (z : Nat → Int) : List Int := [(tx.size : Int)] ++ blC tx ++ [(k : Int)] ++ zl k z

end Go.Proofs.Ytpclldccjpncdab
