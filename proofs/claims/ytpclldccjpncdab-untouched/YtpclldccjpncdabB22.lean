import Derived.Test.YtpclldccjpncdabB21
import Derived.Deep.Cut
import Derived.Deep.CutRange
import Derived.Deep.DeepCutAuto
import Derived.Deep.RegionLaw
namespace Go.Proofs.Ytpclldccjpncdab
open Go.RowKit

/-! ### the comparison is an order -/
theorem cmpL_self : ∀ a : List Int, cmpL a a = 0
  | [] => rfl
  | a :: l => by simp [cmpL, cmpL_self l]
theorem cmpL_turn : ∀ a b : List Int, cmpL b a = - cmpL a b
  | [], [] => rfl
  | [], _ :: _ => rfl
  | _ :: _, [] => rfl
  | a :: l, b :: r => by
    have ih := cmpL_turn l r
    unfold cmpL
    by_cases h1 : a < b
    · have h2 : ¬ b < a := by omega
      simp [h1, h2]
    · by_cases h2 : b < a
      · simp [h1, h2]
      · simp [h1, h2, ih]
/-- of three: never a ring -/
def Trans3 (x y z : Int) : Prop := x ≤ 0 → y ≤ 0 → z = -1 ∨ (z = 0 ∧ x = 0 ∧ y = 0)
theorem cmpL_trans : ∀ a b c : List Int, Trans3 (cmpL a b) (cmpL b c) (cmpL a c)
  | [], [], [] => by simp [Trans3, cmpL]
  | [], [], _ :: _ => by simp [Trans3, cmpL]
  | [], _ :: _, [] => by simp [Trans3, cmpL]
  | [], _ :: _, _ :: _ => by simp [Trans3, cmpL]
  | _ :: _, [], _ => by simp [Trans3, cmpL]
  | _ :: _, _ :: _, [] => by simp [Trans3, cmpL]
  | a :: l, b :: r, c :: s => by
    have ih := cmpL_trans l r s
    unfold Trans3 at ih ⊢
    simp only [cmpL]
    intro hx hy
    by_cases h1 : a < b
    · by_cases h2 : b < c
      · exact .inl (by rw [if_pos (by omega)])
      · rw [if_neg h2] at hy
        by_cases h3 : c < b
        · rw [if_pos h3] at hy; omega
        · exact .inl (by rw [if_pos (by omega)])
    · rw [if_neg h1] at hx ⊢
      by_cases h2 : b < a
      · rw [if_pos h2] at hx; omega
      · rw [if_neg h2] at hx ⊢
        have e : a = b := by omega
        subst e
        by_cases h3 : a < c
        · exact .inl (by rw [if_pos h3])
        · rw [if_neg h3] at hy ⊢
          by_cases h4 : c < a
          · rw [if_pos h4] at hy; omega
          · rw [if_neg h4] at hy ⊢
            rw [if_neg h3, if_neg h4]
            exact ih hx hy
theorem cmpF_self (L : Lay) (a : ByteArray) : ∀ f lv, cmpFrom L a a f lv = 0
  | 0, _ => rfl
  | f + 1, lv => by simp [cmpFrom, cmpL_self, cmpF_self L a f]
theorem cmpF_turn (L : Lay) (a b : ByteArray) : ∀ f lv, cmpFrom L b a f lv = - cmpFrom L a b f lv
  | 0, _ => rfl
  | f + 1, lv => by
    have ih := cmpF_turn L a b f (lv + 1)
    have h := cmpL_turn (wl L a lv) (wl L b lv)
    unfold cmpFrom
    by_cases e : cmpL (wl L a lv) (wl L b lv) = 0
    · rw [if_neg (by rw [h, e]; simp), if_neg (by simp [e]), ih]
    · rw [if_pos (by rw [h]; omega), if_pos e, h]
theorem cmpF_vals (L : Lay) (a b : ByteArray) : ∀ f lv, cmpFrom L a b f lv = -1 ∨ cmpFrom L a b f lv = 0 ∨ cmpFrom L a b f lv = 1
  | 0, _ => .inr (.inl rfl)
  | f + 1, lv => by
    unfold cmpFrom
    split
    · exact cmpL_vals _ _
    · exact cmpF_vals L a b f (lv + 1)
theorem cmpF_trans (L : Lay) (a b c : ByteArray) : ∀ f lv, Trans3 (cmpFrom L a b f lv) (cmpFrom L b c f lv) (cmpFrom L a c f lv)
  | 0, _ => fun _ _ => .inr ⟨rfl, rfl, rfl⟩
  | f + 1, lv => by
    have ih := cmpF_trans L a b c f (lv + 1)
    have ht := cmpL_trans (wl L a lv) (wl L b lv) (wl L c lv)
    have hx := cmpL_vals (wl L a lv) (wl L b lv)
    have hy := cmpL_vals (wl L b lv) (wl L c lv)
    have hr := cmpL_trans (wl L c lv) (wl L b lv) (wl L a lv)
    rw [cmpL_turn (wl L b lv) (wl L c lv), cmpL_turn (wl L a lv) (wl L b lv), cmpL_turn (wl L a lv) (wl L c lv)] at hr
    unfold cmpFrom
    generalize cmpL (wl L a lv) (wl L b lv) = x at *
    generalize cmpL (wl L b lv) (wl L c lv) = y at *
    generalize cmpL (wl L a lv) (wl L c lv) = z at *
    unfold Trans3 at *
    by_cases e1 : x = 0
    · by_cases e2 : y = 0
      · have e3 : z = 0 := by
          have h1 := ht (by omega) (by omega)
          have h2 := hr (by omega) (by omega)
          omega
        simp only [e1, e2, e3, ne_eq, not_true_eq_false, if_false]
        exact ih
      · intro h1 h2
        rw [if_neg (by simp [e1])] at h1
        rw [if_pos e2] at h2
        have := ht (by omega) h2
        have e3 : z = -1 := by omega
        rw [e3]
        exact .inl (by simp)
    · intro h1 h2
      rw [if_pos e1] at h1
      by_cases e2 : y = 0
      · have := ht h1 (by omega)
        have e3 : z = -1 := by omega
        rw [e3]
        exact .inl (by simp)
      · rw [if_pos e2] at h2
        have := ht h1 h2
        have e3 : z = -1 := by omega
        rw [e3]
        exact .inl (by simp)
theorem cmpF_more (L : Lay) (a b : ByteArray) : ∀ f lv, cmpFrom L a b f lv ≠ 0 → cmpFrom L a b (f + 1) lv = cmpFrom L a b f lv
  | 0, _, h => absurd rfl h
  | f + 1, lv, h => by
    unfold cmpFrom at h ⊢
    by_cases e : cmpL (wl L a lv) (wl L b lv) = 0
    · rw [if_neg (by simp [e])] at h ⊢
      rw [if_neg (by simp [e])]
      exact cmpF_more L a b f (lv + 1) h
    · rw [if_pos e, if_pos e]

/-! ### a text of letters has pieces -/
theorem cut_exists (m : Nat) (tx : Nat → ByteArray) (s : ByteArray) : ∃ q, Cut m tx s q := by
  have key : ∀ d q, (∀ j, j < q → 0 < lenAt m tx s (pos m tx s j)) → s.size - pos m tx s q ≤ d → ∃ q', Cut m tx s q' := by
    intro d
    induction d with
    | zero =>
      intro q hg hd
      refine ⟨q, hg, ?_⟩
      have h1 := pos_le m tx s q
      have h2 : pos m tx s q = s.size := by omega
      rw [h2]
      exact lenAt_end m tx s
    | succ d ih =>
      intro q hg hd
      by_cases h0 : lenAt m tx s (pos m tx s q) = 0
      · exact ⟨q, hg, h0⟩
      · refine ih (q + 1) (fun j hj => ?_) ?_
        · by_cases e : j = q
          · rw [e]; omega
          · exact hg j (by omega)
        · show s.size - (pos m tx s q + lenAt m tx s (pos m tx s q)) ≤ d
          have := pos_le m tx s (q + 1)
          have h4 : pos m tx s q + lenAt m tx s (pos m tx s q) ≤ s.size := this
          omega
  exact key _ 0 (fun j hj => by omega) (Nat.le_refl _)
theorem spelt_has {L : Lay} {s : ByteArray} (h : Spelt L s) : hasP L s := by
  obtain ⟨q, hq⟩ := cut_exists L.m L.tx s
  unfold hasP
  rw [cutN_eq hq]
  have h1 := pos_le L.m L.tx s q
  by_cases e : pos L.m L.tx s q < s.size
  · have := lenAt_max (n := 1) (by omega) (by omega) (by omega) (h _ e)
    have := hq.stop
    omega
  · omega
theorem spelt_cmpE {L : Lay} {a b : ByteArray} (he : L.err = 0) (ha : Spelt L a) (hb : Spelt L b) (sa : a.size ≤ 24) (sb : b.size ≤ 24) {n : Nat} (h1 : 1 ≤ n) (h3 : n ≤ 3) : cmpE L a b (n : Int) = 0 ∧ cmpV L a b (n : Int) = cmpFrom L a b n 1 := by
  have hE : cmpE L a b (n : Int) = 0 := by
    unfold cmpE
    rw [if_neg (by simp [he]), if_neg (by omega), if_neg (by omega), if_neg (by simp [spelt_has ha, spelt_has hb])]
  refine ⟨hE, ?_⟩
  unfold cmpV
  rw [if_neg (by simp [hE])]
  rfl

end Go.Proofs.Ytpclldccjpncdab

namespace Go.Proofs.Ytpclldccjpncdab
open Go.RowKit

set_option maxRecDepth 100000 in
set_option maxHeartbeats 1000000 in
theorem weights_own (L : Lay) (l : List Nat) (lv : Nat) (ao : Option Addr) (b off cap : Nat) (w : World) (hl : l.length ≤ 1000) (h1 : 1 ≤ lv) (h3 : lv ≤ 3)
    (h : NodesIn w.heap.size w ao l.length b off (fun i => L.p (l.getD i 0)) (fun i => L.s (l.getD i 0)) (fun i => L.t (l.getD i 0))) :
    Calls Try.prog 49 #[.slice ao l.length cap, .int .i64 lv] w fun e w' => ∃ v, e = .returned v ∧ w'.ownsRow w.heap.size 3 1 v (wts L lv l).length ((wts L lv l).map (Value.int .i64)) ∧ Below w.heap.size w w' := by
  have HN : Hid (NodesIn w.heap.size w ao l.length b off (fun i => L.p (l.getD i 0)) (fun i => L.s (l.getD i 0)) (fun i => L.t (l.getD i 0))) := h
  clear h
  obtain ⟨N, hN⟩ : ∃ N, N = l.length := ⟨_, rfl⟩
  have HL : Hid (N = l.length) := hN
  rw [← hN] at hl ⊢
  clear hN
  obtain ⟨i0, hi0, hq0, hq1, hq2⟩ := info_parts infoInt
  go_enter Try.func49, Try.ntmps49
  go_wp2
  go_loopw [5, 6] (fun v iv wr => ∃ i : Nat, i ≤ N ∧ iv = .int .i64 i ∧ Below w.heap.size w wr ∧ wr.ownsRow w.heap.size 3 1 v (wts L lv (l.take i)).length ((wts L lv (l.take i)).map (Value.int .i64))) (fun _ iv _ => N - (intOf iv).toNat)
  case atStart => exact ⟨0, Nat.zero_le _, rfl, Below.refl _ _, World.ownsRow_nil _ _ _ _⟩
  case round =>
    obtain ⟨i, hi, rfl, hbel, hown⟩ := hrel
    have HOWN : Hid (wr.ownsRow w.heap.size 3 1 _ (wts L lv (l.take i)).length ((wts L lv (l.take i)).map (Value.int .i64))) := hown
    clear hown
    have hsz := hbel.size
    by_cases hlt : i < N
    · have hll : i < l.length := by have := HL.out; omega
      have ha := HN.out.addr (by omega)
      subst ha
      have hbb := HN.out.lt (by omega)
      have c0 := cellTo hbel (HN.out.p i hll) hbb
      have c1 := cellTo hbel (HN.out.s i hll) hbb
      have c2 := cellTo hbel (HN.out.t i hll) hbb
      obtain ⟨c, hc⟩ : ∃ c, c = l.getD i 0 := ⟨_, rfl⟩
      rw [← hc] at c0 c1 c2
      have HSN : Hid (wts L lv (l.take (i + 1)) = if wt L lv c ≠ 0 then wts L lv (l.take i) ++ [wt L lv c] else wts L lv (l.take i)) := by
        show _ = _
        rw [take_snoc_n l i hll, ← hc]
        exact wts_snoc L lv (l.take i) c
      have hwl : (wts L lv (l.take i)).length ≤ i := Nat.le_trans (wts_len L lv _) (List.length_take_le _ _)
      have HWT : Hid ((if lv = 1 then L.p c else if lv = 2 then L.s c else L.t c) = wt L lv c) := rfl
      obtain ⟨x, hx⟩ : ∃ x, x = wt L lv c := ⟨_, rfl⟩
      have HX : Hid (x = wt L lv c) := hx
      clear hx hc hll
      by_cases hx0 : x = 0
      · go_wp2_with (first
          | (go_at_call 71; refine (weight_any _ _ _ _ _ h1 h3).mono ?_; rintro e w1 ⟨rfl, hb1⟩; rw [HWT.out, ← HX.out]))
        go_roundw
        case rel => exact ⟨i + 1, by omega, by go_num, below_then hbel hb1, by
            have hs := HSN.out
            rw [if_neg (by rw [← HX.out]; simpa using hx0)] at hs
            rw [hs]
            exact own_of_block HOWN.out (fun b h => hb1.block b (own_lt' HOWN.out h))⟩
        case measure => simp [intOf]; omega
      · go_wp2_with (first
          | (go_at_call 71; refine (weight_any _ _ _ _ _ h1 h3).mono ?_; rintro e w1 ⟨rfl, hb1⟩; rw [HWT.out, ← HX.out])
          | (at_builtin; refine wpList_append_lies _ (by rfl) (.tmp 22) (.tmp 24) 22 (by rfl) w.heap.size 3 i0 (.int .i64 0) 1 8 Try.underlying22 hi0 hq0 hq1 hq2 rfl (by omega) _ _ _ (by rfl) (own_of_block HOWN.out (fun b h => (below_then hb1 (below_one _)).block b (own_lt' HOWN.out h))) ⟨w1.heap.size, 0, none⟩ 1 1 [.int .i64 x] (by rfl) (by rfl) ?c1 ?c2 (by omega) ?c3 ?c5 ?c4 (w1.heap.size + 1) (by simp) ?_))
        case c1 => exact cell_one_new _ _ _
        case c2 => intro u hu; simp at hu; subst hu; rfl
        case c3 => unfold maxLen; omega
        case c5 => omega
        case c4 => have := hb1.size; simp; omega
        · intro gv cap2 w2 hown2 hgrow _ _
          have hz1 := hb1.size
          have HBN : Hid (Below w.heap.size w w2) := grown_below (below_then (below_then hbel hb1) (below_one _)) (by simp; omega) (own_of_block HOWN.out (fun b h => (below_then hb1 (below_one _)).block b (own_lt' HOWN.out h))) (Nat.le_refl _) hgrow
          have HO2 : Hid (w2.ownsRow w.heap.size 3 1 (.slice (some ⟨gv, 0, none⟩) ((wts L lv (l.take i)).length + 1) cap2) (wts L lv (l.take (i + 1))).length ((wts L lv (l.take (i + 1))).map (Value.int .i64))) := by
            show _
            have hs := HSN.out
            rw [if_pos (by rw [← HX.out]; exact hx0), ← HX.out] at hs
            rw [hs, List.length_append, List.map_append]
            exact hown2
          clear hown2 hgrow
          go_wp2
          go_roundw
          case rel => exact ⟨i + 1, by omega, by go_num, HBN.out, HO2.out⟩
          case measure => simp [intOf]; omega
    · have hie : i = N := by omega
      subst hie
      have htk : l.take i = l := List.take_of_length_le (by have := HL.out; omega)
      have ho := HOWN.out
      rw [htk] at ho
      have HI : Hid _ := ho
      clear ho htk
      go_wp2
      go_ret
      exact ⟨_, rfl, HI.out, hbel⟩

/-- two rows of one's own, of two types, lie in two blocks -/
theorem own_two {w : World} {base base' : Nat} {e e' : TypeId} {size size' : Nat} {v v' : Value} {k k' : Nat} {xs xs' : List Value} (ho : w.ownsRow base e size v k xs) (ho' : w.ownsRow base' e' size' v' k' xs') (ht : e ≠ e') {b : Nat} (hb : v.ownBlock = some b) : some b ≠ v'.ownBlock := by
  intro hb'
  obtain ⟨_, h2⟩ := ho
  obtain ⟨_, h2'⟩ := ho'
  rcases h2 with ⟨rfl, _⟩ | ⟨g, cap, cur, rfl, _, hh, _⟩
  · simp [Value.ownBlock] at hb
  · rcases h2' with ⟨rfl, _⟩ | ⟨g', cap', cur', rfl, _, hh', _⟩
    · simp [Value.ownBlock] at hb'
    · simp only [Value.ownBlock, Option.some.injEq] at hb hb'
      subst hb
      subst hb'
      rw [hh] at hh'
      cases hh'
      exact ht rfl
/-- a row of another type behind an append -/
theorem own_grown {w w' : World} {base base' : Nat} {e e' : TypeId} {size size' : Nat} {v v' : Value} {k k' : Nat} {xs xs' : List Value} (ho : w.ownsRow base e size v k xs) (ho' : w.ownsRow base' e' size' v' k' xs') (ht : e ≠ e') (hg : w.grownBy w' v'.ownBlock) : w'.ownsRow base e size v k xs :=
  own_of_block ho fun b hb => hg.block b (own_lt' ho hb) (own_two ho ho' ht hb)
theorem own_shape {w : World} {base : Nat} {e : TypeId} {size : Nat} {v : Value} {n : Nat} {xs : List Value} (ho : w.ownsRow base e size v n xs) : ∃ vo vc, v = .slice vo n vc := by
  obtain ⟨vo, vc, _, h, _⟩ := own_cells ho
  exact ⟨vo, vc, h⟩

end Go.Proofs.Ytpclldccjpncdab

namespace Go.Proofs.Ytpclldccjpncdab
open Go.RowKit

theorem Try.info3 : (Try.prog.info? 3).map (fun i => (i.zero, i.size, i.bytes)) = some (some (.int .i64 0), 1, 8) := by kernel_rfl
theorem Try.info53 : (Try.prog.info? 60).map (fun i => (i.zero, i.size, i.bytes)) = some (some (.agg #[.int .i64 0, .int .i64 0, .int .i64 0]), 3, 24) := by kernel_rfl
theorem Try.info57 : (Try.prog.info? 41).map (fun i => (i.zero, i.size, i.bytes)) = some (some (.agg #[.string ByteArray.empty, .slice none 0 0]), 2, 40) := by kernel_rfl
theorem Try.info25 : (Try.prog.info? 22).map (fun i => (i.zero, i.size, i.bytes)) = some (some (.slice none 0 0), 1, 24) := by kernel_rfl
theorem Try.size53 : (Try.prog.info? 60).map (·.size) = some 3 := by kernel_rfl
theorem Try.size3 : (Try.prog.info? 3).map (·.size) = some 1 := by kernel_rfl

/-- 'make' of n elements, for every world -/
theorem run_made {P : Program} (t e : TypeId) (z : Value) (size bytes : Nat) (ht : P.underlying t = some (.slice e))
    (hinfo : (P.info? e).map (fun i => (i.zero, i.size, i.bytes)) = some (some z, size, bytes)) (n : Nat) (hb : bytes * n ≤ 281474976710656) (h63 : n ≤ 9223372036854775807) (w : World) :
    (Instr.makeSlice t (.int .i64 n) (.int .i64 n)).run P w = .ok (.slice (some ⟨w.heap.size, 0, none⟩) n n) (w.alloc (.cells (madeCells z.cells (n * size)) e)) := by
  obtain ⟨i, hi, h⟩ := Option.map_eq_some_iff.1 hinfo
  simp only [Prod.mk.injEq] at h
  obtain ⟨h1, h2, h3⟩ := h
  have hb' : (i.bytes : Int) * (n : Int) ≤ 281474976710656 := by rw [h3, ← Int.natCast_mul]; exact Int.ofNat_le.2 hb
  have := run_make (P := P) w t e i z ht hi h1 .i64 .i64 n n (by omega) (by omega) hb' (by omega)
  rw [h2] at this
  exact this

end Go.Proofs.Ytpclldccjpncdab

namespace Go.Proofs.Ytpclldccjpncdab
open Go.RowKit

/-- two tables of one content -/
structure Lay.Twin (L M : Lay) : Prop where
  n : M.n = L.n
  m : M.m = L.m
  p : M.p = L.p
  s : M.s = L.s
  t : M.t = L.t
  tx : M.tx = L.tx
  k : M.k = L.k
  z : M.z = L.z

end Go.Proofs.Ytpclldccjpncdab
