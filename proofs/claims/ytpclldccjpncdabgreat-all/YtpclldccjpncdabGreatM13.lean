import Derived.Test.YtpclldccjpncdabGreatM12
import Derived.Laws.BytesArg
namespace Go.Proofs.YtpclldccjpncdabGreat
open Go.RowKit

theorem wl_lent (L : Lay) (gn ge : Nat) (gl : Nat → Nat) (s : ByteArray) (lv : Nat) : wl (L.lent gn ge gl) s lv = wl L s lv := rfl
theorem cmpFrom_lent (L : Lay) (gn ge : Nat) (gl : Nat → Nat) (a b : ByteArray) : ∀ f lv, cmpFrom (L.lent gn ge gl) a b f lv = cmpFrom L a b f lv
  | 0, _ => rfl
  | f + 1, lv => by
    unfold cmpFrom
    rw [cmpFrom_lent L gn ge gl a b f (lv + 1), wl_lent, wl_lent]
theorem cmpE_lent (L : Lay) (gn ge : Nat) (gl : Nat → Nat) (a b : ByteArray) (lev : Int) : cmpE (L.lent gn ge gl) a b lev = cmpE L a b lev := rfl
theorem cmpV_lent (L : Lay) (gn ge : Nat) (gl : Nat → Nat) (a b : ByteArray) (lev : Int) : cmpV (L.lent gn ge gl) a b lev = cmpV L a b lev := by
  unfold cmpV
  rw [cmpFrom_lent, cmpE_lent]
theorem compare_lent (L : Lay) (gn ge : Nat) (gl : Nat → Nat) (a b : ByteArray) (lev : Int) (w : World) (h : (L.lent gn ge gl).In w.heap.size w) :
    Calls Tryz.prog 18 #[.agg #[.slice (some ⟨gn, 0, none⟩) L.n (L.n + 8), .slice (some ⟨ge, 0, none⟩) L.m (L.m + 8)], .string a, .string b, .int .i64 lev] w fun e w' => e = .returned (.tuple #[.int .i64 (cmpV L a b lev), .int .i64 (cmpE L a b lev)]) ∧ Below w.heap.size w w' := by
  have := compare_any (L.lent gn ge gl) a b lev w h
  rw [cmpV_lent, cmpE_lent] at this
  exact this

set_option maxRecDepth 100000 in
set_option maxHeartbeats 1000000 in
theorem asks_compare (L : Lay) (a b : ByteArray) (lev : Int) (ra : Option Addr) (rn rc : Nat) (w : World) (h : L.In w.heap.size w) :
    Calls Tryz.prog 7 #[.agg #[.int .i64 3, .slice L.na L.n L.nc, .slice L.ea L.m L.ec, .string a, .string b, .int .i64 lev, .slice ra rn rc]] w fun e w' => e = .returned (.bool true) ∧ Below w.heap.size w w' := by
  have HL : Hid (∀ w', Below w.heap.size w w' → L.In w'.heap.size w') := fun w' hb => h.later hb
  clear h
  go_enter Tryz.func7, Tryz.ntmps7
  go_wp2_with (first
    | (go_at_call 12; refine (lent_any L _ (HL.out _ (below_one _))).mono ?_; rintro e w1 ⟨g, gn, ge, gl, vo, vc, rfl, hlent⟩; obtain ⟨hc, hf⟩ := bcell hlent.below; obtain ⟨x0, x1, xg⟩ := hlent.t01; have hz : w.heap.size < w1.heap.size := by have := hlent.below.size; simp at this; omega))
  have b1 : w1.cell? ⟨w.heap.size, 3, none⟩ = some (.string a) := by rw [hc w.heap.size 3 (by simp)]; go_simp
  have b2 : w1.cell? ⟨w.heap.size, 4, none⟩ = some (.string b) := by rw [hc w.heap.size 4 (by simp)]; go_simp
  have b3 : w1.cell? ⟨w.heap.size, 5, none⟩ = some (.int .i64 lev) := by rw [hc w.heap.size 5 (by simp)]; go_simp
  have y0 := Wb.cell (w := w1) (B := w1.heap.size) (by show g < _; omega) x0
  have y1 := Wb.cell (w := w1) (B := w1.heap.size) (by show g < _; omega) x1
  have y2 := Wb.cell (w := w1) (B := w1.heap.size) (by show w.heap.size < _; omega) b1
  have y3 := Wb.cell (w := w1) (B := w1.heap.size) (by show w.heap.size < _; omega) b2
  have y4 := Wb.cell (w := w1) (B := w1.heap.size) (by show w.heap.size < _; omega) b3
  have HI : Hid (∀ x : Wb w1.heap.size w1, (L.lent gn ge gl).In x.val.heap.size x.val) := fun x => ((hlent.lay (HL.out _ (below_one _))).below x.below).mono x.below.size
  refine wp_region_below w1.heap.size (by kernel_rfl) (by kernel_rfl) ?_
  repeat (go_big_quiet_step ((go_at_call 18; exact Wb.ofCall _ (Nat.le_refl _) (compare_lent L gn ge gl _ _ _ _ (HI.out _)))))
  refine wpQuiet_nil ?_
  rintro _ ⟨x, rfl⟩
  have hb2 := x.below
  generalize x.val = w2 at hb2
  have hz2 : w.heap.size < w2.heap.size := by have := hb2.size; omega
  obtain ⟨hc2, hf2⟩ := bcell hb2
  clear y0 y1 y2 y3 y4 HI
  go_wp2_with (first
    | (go_at_call 19; refine (refCompare_any L _ _ _ _ (HL.out _ (below_then (below_then (below_one _) hlent.below) hb2))).mono ?_; rintro e w3 ⟨rfl, hb3⟩; obtain ⟨hc3, hf3⟩ := bcell hb3; have hz3 : w.heap.size < w3.heap.size := by have := hb3.size; omega)
    | (go_at_call 24; refine (still_any L _ (HL.out _ (below_one _)) g gn ge gl vo vc _ ((hlent.later hb2).later hb3)).mono ?_; rintro e w4 ⟨rfl, hb4⟩))
  go_ret
  exact ⟨rfl, below_then (below_one _) hb4⟩

set_option maxRecDepth 100000 in
set_option maxHeartbeats 1000000 in
theorem plays_compare (L : Lay) (a b : ByteArray) (lev : Int) (ra : Option Addr) (rn rc : Nat) (w : World) (h : L.In w.heap.size w) :
    Calls Tryz.prog 6 #[.agg #[.int .i64 3, .slice L.na L.n L.nc, .slice L.ea L.m L.ec, .string a, .string b, .int .i64 lev, .slice ra rn rc]] w fun e w' => e = .returned (.bool true) ∧ Below w.heap.size w w' := by
  have HL : Hid (∀ w', Below w.heap.size w w' → L.In w'.heap.size w') := fun w' hb => h.later hb
  clear h
  go_enter Tryz.func6, Tryz.ntmps6
  go_wp2_with (go_at_call 7; refine (asks_compare L _ _ _ _ _ _ _ (HL.out _ (below_one _))).mono ?_; rintro e w1 ⟨rfl, hb1⟩)
  go_ret
  exact ⟨rfl, below_then (below_one _) hb1⟩

end Go.Proofs.YtpclldccjpncdabGreat

namespace Go.Proofs.YtpclldccjpncdabGreat
open Go.RowKit

theorem infoByte : (Tryz.prog.info? 5).map (fun i => (i.zero, i.size, i.bytes)) = some (some (.int .u8 0), 1, 1) := by kernel_rfl

/-- the numbers of a key, up to a level -/
noncomputable def keyL (L : Lay) (s : ByteArray) : Nat → List Int
  | 0 => []
  | k + 1 => keyL L s k ++ (if 1 ≤ k then [0] else []) ++ wl L s (k + 1)
theorem wl_bd {L : Lay} (hok : L.Ok) {s : ByteArray} (h : (nodesN L s).length ≤ 96) (hn : ∀ c ∈ nodesN L s, c < L.n) (lv : Nat) : (wl L s lv).length ≤ 96 ∧ ∀ x ∈ wl L s lv, 1 ≤ x ∧ x ≤ 250 := by
  refine ⟨Nat.le_trans (wts_len L lv _) h, fun x hx => ?_⟩
  simp only [wl, wts, List.mem_filter, List.mem_map, decide_eq_true_eq] at hx
  obtain ⟨⟨c, hc, rfl⟩, h0⟩ := hx
  have := wt_bd hok lv c (hn c hc)
  omega
theorem keyL_len {L : Lay} {s : ByteArray} (h : ∀ lv, (wl L s lv).length ≤ 96) : ∀ k, (keyL L s k).length ≤ 97 * k
  | 0 => by simp [keyL]
  | k + 1 => by
    have h1 := keyL_len h k
    have h2 := h (k + 1)
    unfold keyL
    rw [List.length_append, List.length_append]
    split <;> simp <;> omega
noncomputable def keyE (L : Lay) (s : ByteArray) (lev : Int) : Int := mayE L 1 (fun _ => s) lev
noncomputable def keyV (L : Lay) (s : ByteArray) (lev : Int) : ByteArray := if keyE L s lev ≠ 0 then { data := #[] } else strOfNums (keyL L s lev.toNat)
theorem keyV_no {L : Lay} {s : ByteArray} {lev : Int} (h : keyE L s lev ≠ 0) : keyV L s lev = { data := #[] } := by simp [keyV, h]
theorem keyV_ok {L : Lay} {s : ByteArray} {lev : Int} (h : keyE L s lev = 0) : keyV L s lev = strOfNums (keyL L s lev.toNat) := by simp [keyV, h]
theorem keyE_err {L : Lay} {s : ByteArray} {lev : Int} (h : L.err ≠ 0) : keyE L s lev = L.err := (mayE_err h).symm
theorem keyE_long {L : Lay} {s : ByteArray} {lev : Int} (h : L.err = 0) (h2 : 24 < s.size) : keyE L s lev = 4 := (mayE_long h ⟨0, by omega, h2⟩).symm
theorem keyE_level {L : Lay} {s : ByteArray} {lev : Int} (h : L.err = 0) (h2 : s.size ≤ 24) (h3 : lev < 1 ∨ 3 < lev) : keyE L s lev = 5 := (mayE_level h (fun _ _ => h2) h3).symm
theorem keyE_text {L : Lay} {s : ByteArray} {lev : Int} (h : L.err = 0) (h2 : s.size ≤ 24) (h3 : 1 ≤ lev) (h4 : lev ≤ 3) (h5 : ¬ hasP L s) : keyE L s lev = 6 := (mayE_text h (fun _ _ => h2) h3 h4 ⟨0, by omega, h5⟩).symm
theorem keyE_ok {L : Lay} {s : ByteArray} {lev : Int} (h : L.err = 0) (h2 : s.size ≤ 24) (h3 : 1 ≤ lev) (h4 : lev ≤ 3) (h5 : hasP L s) : keyE L s lev = 0 := (mayE_ok h (fun _ _ => h2) h3 h4 (fun _ _ => h5)).symm
theorem keyE_zero {L : Lay} {s : ByteArray} {lev : Int} (h : keyE L s lev = 0) : L.err = 0 ∧ s.size ≤ 24 ∧ 1 ≤ lev ∧ lev ≤ 3 ∧ hasP L s := by
  by_cases he : L.err = 0
  · by_cases hs : s.size ≤ 24
    · by_cases hl : lev < 1 ∨ 3 < lev
      · rw [keyE_level he hs hl] at h; omega
      · by_cases hp : hasP L s
        · exact ⟨he, hs, by omega, by omega, hp⟩
        · rw [keyE_text he hs (by omega) (by omega) hp] at h; omega
    · rw [keyE_long he (by omega)] at h; omega
  · rw [keyE_err he] at h; exact absurd h he
theorem ret_str {x x' : ByteArray} {y y' : Int} (h1 : x = x') (h2 : y = y') : Ending.returned (.tuple #[.string x, .int .i64 y]) = .returned (.tuple #[.string x', .int .i64 y']) := by rw [h1, h2]

/-- bytes of one's own become a text -/
theorem conv_own {w : World} {base : Nat} {v : Value} {l : List Int} (ho : w.ownsRow base 5 1 v l.length (l.map (Value.int .u8))) : ∃ vo vc, v = .slice vo l.length vc ∧ (convert 73 9 (.slice vo l.length vc)).run Tryz.prog w = .ok (.string (strOfNums l)) w := by
  obtain ⟨vo, vc, gv, rfl, ha, hc⟩ := own_cells ho
  refine ⟨vo, vc, rfl, ?_⟩
  by_cases h0 : 0 < l.length
  · rw [(ha h0).1]
    refine run_convert_bytes_arg w 73 5 Tryz.underlying73 Tryz.underlying5 gv 0 l.length vc l rfl (fun i hi => ?_) 9 Tryz.underlying9
    have := hc i (.int .u8 (l.getD i 0)) (by omega) (by simp [List.getD, List.getElem?_eq_getElem hi])
    simpa using this
  · have hl : l = [] := List.eq_nil_of_length_eq_zero (by omega)
    subst hl
    obtain ⟨_, h2⟩ := ho
    rcases h2 with ⟨hv, _⟩ | ⟨g, cap, cur, hv, _⟩
    · cases hv
      exact run_convert_bytes_nil w 73 5 Tryz.underlying73 Tryz.underlying5 0 0 9 Tryz.underlying9
    · cases hv
      exact run_convert_bytes_arg w 73 5 Tryz.underlying73 Tryz.underlying5 g 0 0 vc [] rfl (fun i hi => by omega) 9 Tryz.underlying9
theorem take_snoc_i (l : List Int) (i : Nat) (h : i < l.length) : l.take (i + 1) = l.take i ++ [l.getD i 0] := by
  rw [List.take_succ_eq_append_getElem h]
  simp [List.getD, List.getElem?_eq_getElem h]

end Go.Proofs.YtpclldccjpncdabGreat

namespace Go.Proofs.YtpclldccjpncdabGreat
open Go.RowKit

set_option maxRecDepth 100000 in
set_option maxHeartbeats 1000000 in
theorem weights_own (L : Lay) (l : List Nat) (lv : Nat) (ao : Option Addr) (b off cap : Nat) (w : World) (hl : l.length ≤ 1000) (h1 : 1 ≤ lv) (h3 : lv ≤ 3)
    (h : NodesIn w.heap.size w ao l.length b off (fun i => L.p (l.getD i 0)) (fun i => L.s (l.getD i 0)) (fun i => L.t (l.getD i 0))) :
    Calls Tryz.prog 73 #[.slice ao l.length cap, .int .i64 lv] w fun e w' => ∃ v, e = .returned v ∧ w'.ownsRow w.heap.size 3 1 v (wts L lv l).length ((wts L lv l).map (Value.int .i64)) ∧ Below w.heap.size w w' := by
  have HN : Hid (NodesIn w.heap.size w ao l.length b off (fun i => L.p (l.getD i 0)) (fun i => L.s (l.getD i 0)) (fun i => L.t (l.getD i 0))) := h
  clear h
  obtain ⟨N, hN⟩ : ∃ N, N = l.length := ⟨_, rfl⟩
  have HL : Hid (N = l.length) := hN
  rw [← hN] at hl ⊢
  clear hN
  obtain ⟨i0, hi0, hq0, hq1, hq2⟩ := info_parts infoInt
  go_enter Tryz.func73, Tryz.ntmps73
  go_wp2
  go_loopw [5, 6] (fun v iv wr => ∃ i : Nat, i ≤ N ∧ iv = .int .i64 i ∧ Below w.heap.size w wr ∧ wr.ownsRow w.heap.size 3 1 v (wts L lv (l.take i)).length ((wts L lv (l.take i)).map (Value.int .i64))) (fun _ iv _ => N - (intOf iv).toNat)
  case atStart => exact ⟨0, Nat.zero_le _, rfl, Below.refl _ _, World.ownsRow_nil _ _ _ _⟩
  case round =>
    obtain ⟨i, hi, rfl, hbel, hown⟩ := hrel
    have HOWN : Hid (wr.ownsRow w.heap.size 3 1 _ (wts L lv (l.take i)).length ((wts L lv (l.take i)).map (Value.int .i64))) := hown
    clear hown
    have hsz := hbel.size
    by_cases hlt : i < N
    · have hll : i < l.length := by have := HL.out; omega
      have ha := HN.out.addr (by omega)
      subst ha
      have hbb := HN.out.lt (by omega)
      have c0 := cellTo hbel (HN.out.p i hll) hbb
      have c1 := cellTo hbel (HN.out.s i hll) hbb
      have c2 := cellTo hbel (HN.out.t i hll) hbb
      obtain ⟨c, hc⟩ : ∃ c, c = l.getD i 0 := ⟨_, rfl⟩
      rw [← hc] at c0 c1 c2
      have HSN : Hid (wts L lv (l.take (i + 1)) = if wt L lv c ≠ 0 then wts L lv (l.take i) ++ [wt L lv c] else wts L lv (l.take i)) := by
        show _ = _
        rw [take_snoc_n l i hll, ← hc]
        exact wts_snoc L lv (l.take i) c
      have hwl : (wts L lv (l.take i)).length ≤ i := Nat.le_trans (wts_len L lv _) (List.length_take_le _ _)
      have HWT : Hid ((if lv = 1 then L.p c else if lv = 2 then L.s c else L.t c) = wt L lv c) := rfl
      obtain ⟨x, hx⟩ : ∃ x, x = wt L lv c := ⟨_, rfl⟩
      have HX : Hid (x = wt L lv c) := hx
      clear hx hc hll
      by_cases hx0 : x = 0
      · go_wp2_with (first
          | (go_at_call 100; refine (weight_any _ _ _ _ _ h1 h3).mono ?_; rintro e w1 ⟨rfl, hb1⟩; rw [HWT.out, ← HX.out]))
        go_roundw
        case rel => exact ⟨i + 1, by omega, by go_num, below_then hbel hb1, by
            have hs := HSN.out
            rw [if_neg (by rw [← HX.out]; simpa using hx0)] at hs
            rw [hs]
            exact own_of_block HOWN.out (fun b h => hb1.block b (own_lt' HOWN.out h))⟩
        case measure => simp [intOf]; omega
      · go_wp2_with (first
          | (go_at_call 100; refine (weight_any _ _ _ _ _ h1 h3).mono ?_; rintro e w1 ⟨rfl, hb1⟩; rw [HWT.out, ← HX.out])
          | (at_builtin; refine wpList_append_lies _ (by rfl) (.tmp 22) (.tmp 24) 61 (by rfl) w.heap.size 3 i0 (.int .i64 0) 1 8 Tryz.underlying61 hi0 hq0 hq1 hq2 rfl (by omega) _ _ _ (by rfl) (own_of_block HOWN.out (fun b h => (below_then hb1 (below_one _)).block b (own_lt' HOWN.out h))) ⟨w1.heap.size, 0, none⟩ 1 1 [.int .i64 x] (by rfl) (by rfl) ?c1 ?c2 (by omega) ?c3 ?c5 ?c4 (w1.heap.size + 1) (by simp) ?_))
        case c1 => exact cell_one_new _ _ _
        case c2 => intro u hu; simp at hu; subst hu; rfl
        case c3 => unfold maxLen; omega
        case c5 => omega
        case c4 => have := hb1.size; simp; omega
        · intro gv cap2 w2 hown2 hgrow _ _
          have hz1 := hb1.size
          have HBN : Hid (Below w.heap.size w w2) := grown_below (below_then (below_then hbel hb1) (below_one _)) (by simp; omega) (own_of_block HOWN.out (fun b h => (below_then hb1 (below_one _)).block b (own_lt' HOWN.out h))) (Nat.le_refl _) hgrow
          have HO2 : Hid (w2.ownsRow w.heap.size 3 1 (.slice (some ⟨gv, 0, none⟩) ((wts L lv (l.take i)).length + 1) cap2) (wts L lv (l.take (i + 1))).length ((wts L lv (l.take (i + 1))).map (Value.int .i64))) := by
            show _
            have hs := HSN.out
            rw [if_pos (by rw [← HX.out]; exact hx0), ← HX.out] at hs
            rw [hs, List.length_append, List.map_append]
            exact hown2
          clear hown2 hgrow
          go_wp2
          go_roundw
          case rel => exact ⟨i + 1, by omega, by go_num, HBN.out, HO2.out⟩
          case measure => simp [intOf]; omega
    · have hie : i = N := by omega
      subst hie
      have htk : l.take i = l := List.take_of_length_le (by have := HL.out; omega)
      have ho := HOWN.out
      rw [htk] at ho
      have HI : Hid _ := ho
      clear ho htk
      go_wp2
      go_ret
      exact ⟨_, rfl, HI.out, hbel⟩

set_option maxRecDepth 100000 in
set_option maxHeartbeats 2000000 in
theorem refLevel_own (L : Lay) (s : ByteArray) (lv : Nat) (w : World) (h : L.In w.heap.size w) (hok : L.Ok) (hs : s.size ≤ 24) (hp : hasP L s) (h1 : 1 ≤ lv) (h3 : lv ≤ 3) :
    Calls Tryz.prog 43 #[.agg #[.slice L.na L.n L.nc, .slice L.ea L.m L.ec], .string s, .int .i64 lv] w fun e w' => ∃ v base, w.heap.size ≤ base ∧ e = .returned v ∧ w'.ownsRow base 3 1 v (wl L s lv).length ((wl L s lv).map (Value.int .i64)) ∧ Below w.heap.size w w' := by
  have HL : Hid (∀ w', Below w.heap.size w w' → L.In w'.heap.size w') := fun w' hb => h.later hb
  have HIN : Hid (L.In w.heap.size w) := h
  have hm := hok.m
  have hn48 := hok.n
  have HOK : Hid (L.Ok) := hok
  have HP : Hid (hasP L s) := hp
  clear h hok hp
  obtain ⟨i0, hi0, hq0, hq1, hq2⟩ := info_parts infoInt
  go_enter Tryz.func43, Tryz.ntmps43
  go_wp2_with fail
  refine (refNodes_any L s _ _ _ (HL.out _ (below_one _)).entries HOK.out hs).mono ?_
  rintro e w2 ⟨q, hq, hb2, hor⟩
  have hNN := cutN_eq hq
  have hnl := nums_len HOK.out q hq.go
  have hq1' := pos_ge q hq.go
  have hq2' := pos_le L.m L.tx s q
  have hlt' := nums_lt HOK.out q hq.go
  have HWL : Hid (wl L s lv = wts L lv (nums L s q)) := by show _ = _; rw [wl, nodesN, hNN]
  have hpq : pos L.m L.tx s q = s.size := by have := HP.out; unfold hasP at this; rwa [hNN] at this
  rcases hor with ⟨_, vo, vc, vb, rfl, hint⟩ | ⟨hx, _⟩
  · have HBW : Hid (Below w.heap.size w w2) := below_then (below_one _) hb2
    obtain ⟨hc2, hf2⟩ := bcell hb2
    have c0 := hc2 w.heap.size 0 (by simp)
    have c0' : w2.cell? ⟨w.heap.size, 0, none⟩ = some (.slice L.na L.n L.nc) := by rw [c0]; go_simp
    have hz2 : w.heap.size < w2.heap.size := by have := hb2.size; simp at this; omega
    obtain ⟨N, hN⟩ : ∃ N, N = (numsZ L s q).length := ⟨_, rfl⟩
    have HLEN : Hid (N = (nums L s q).length) := by show _ = _; rw [hN]; simp [numsZ]
    have hN96 : N ≤ 96 := by have := HLEN.out; omega
    have HINT : Hid (IntsL w2.heap.size w2 vo (numsZ L s q) vb 0) := hint
    have HLT : Hid (∀ c ∈ nums L s q, c < L.n) := hlt'
    have HC0 : Hid (w2.cell? ⟨w.heap.size, 0, none⟩ = some (.slice L.na L.n L.nc)) := c0'
    have HNZ : Hid (N = (numsZ L s q).length) := hN
    rw [← hN]
    clear hint hlt' hnl hq1' hq2' hq hNN hpq hc2 hf2 c0 c0' hN hb2
    go_wp2
    go_loopw [9, 10] (fun v iv wr => ∃ i : Nat, i ≤ N ∧ iv = .int .i64 i ∧ Below w2.heap.size w2 wr ∧ wr.ownsRow w2.heap.size 3 1 v (wts L lv ((nums L s q).take i)).length ((wts L lv ((nums L s q).take i)).map (Value.int .i64))) (fun _ iv _ => N - (intOf iv).toNat)
    case atStart => exact ⟨0, Nat.zero_le _, rfl, Below.refl _ _, World.ownsRow_nil _ _ _ _⟩
    case round =>
      obtain ⟨i, hi, rfl, hbel, hown⟩ := hrel
      have HOWN : Hid (wr.ownsRow w2.heap.size 3 1 _ (wts L lv ((nums L s q).take i)).length ((wts L lv ((nums L s q).take i)).map (Value.int .i64))) := hown
      clear hown
      have hsz := hbel.size
      by_cases hlt : i < N
      · have hll : i < (nums L s q).length := by have := HLEN.out; omega
        have hlz : i < (numsZ L s q).length := by have := HNZ.out; omega
        have ha := HINT.out.addr (by omega)
        subst ha
        have z0 := cellTo hbel (HINT.out.cell i hlz) (HINT.out.lt (by omega))
        simp only [Nat.zero_add] at z0
        obtain ⟨c, hc⟩ : ∃ c, c = (nums L s q).getD i 0 := ⟨_, rfl⟩
        have hzc : (numsZ L s q).getD i 0 = (c : Int) := by rw [hc]; simp [numsZ, List.getD, List.getElem?_eq_getElem hll]
        rw [hzc] at z0
        have hcn : c < L.n := HLT.out c (by rw [hc]; simp [List.getD, List.getElem?_eq_getElem hll])
        have HSN : Hid (wts L lv ((nums L s q).take (i + 1)) = if wt L lv c ≠ 0 then wts L lv ((nums L s q).take i) ++ [wt L lv c] else wts L lv ((nums L s q).take i)) := by
          show _ = _
          rw [take_snoc_n (nums L s q) i hll, ← hc]
          exact wts_snoc L lv _ c
        have hwl : (wts L lv ((nums L s q).take i)).length ≤ i := Nat.le_trans (wts_len L lv _) (List.length_take_le _ _)
        have hbw := below_then HBW.out hbel
        have hnb := HIN.out.nodes.lt (by omega)
        have n0 := cellTo hbw (HIN.out.nodes.p c hcn) hnb
        have n1 := cellTo hbw (HIN.out.nodes.s c hcn) hnb
        have n2 := cellTo hbw (HIN.out.nodes.t c hcn) hnb
        have b0 := cellTo hbel HC0.out (by show w.heap.size < _; omega)
        rw [HIN.out.nodes.addr (by omega)] at b0
        have r1 : (c : Int) < (L.n : Int) := by omega
        have r2 : (0 : Int) ≤ (c : Int) := by omega
        have hwb := wt_bd HOK.out lv c hcn
        have hvb := HINT.out.lt (by omega)
        clear hc hzc hll hlz
        go_wp2
        have y0 : vb < wr.heap.size := by omega
        have y1 : w.heap.size < wr.heap.size := by omega
        have y2 : L.nb < wr.heap.size := by omega
        go_cut [11] from 19 to 45 (fun x wx => ∃ g, x = .pointer (some ⟨g, 0, none⟩) ∧ wx.rowIs g 95 3 (fun i => #[Value.int .i64 (L.p c), .int .i64 (L.s c), .int .i64 (L.t c)].getD i undef) ∧ Below wr.heap.size wr wx)
        case first =>
          go_region_with ((go_at_call 67; refine (refWeights_any _ _ _ _).mono ?_; rintro e _ ⟨rfl, rfl⟩))
          all_goals
            go_wp2
            go_meet
            refine ⟨_, rfl, ?_, ?_⟩
            · first
                | (refine World.rowIs.drew (World.rowIs.alloc (World.rowIs.alloc (row_at (row_new _ _ _ 3 rfl) ?_ (fun _ _ => rfl)) _) _); rfl)
                | (refine World.rowIs.drew (row_at (row_new _ _ _ 3 rfl) ?_ (fun _ _ => rfl)); simp only [size_one])
            · refine Below.drew ?_
              exact below_then (below_then (below_one _) (below_one _)) (below_one _)
        case rest =>
          rename World => wx
          obtain ⟨g, rfl, hrow, hbx⟩ := hcut
          have cw := three_cells hrow L c lv rfl rfl rfl h1 h3
          have HOX : Hid (wx.ownsRow w2.heap.size 3 1 _ (wts L lv ((nums L s q).take i)).length ((wts L lv ((nums L s q).take i)).map (Value.int .i64))) := own_of_block HOWN.out (fun b h => hbx.block b (own_lt' HOWN.out h))
          have hzx := hbx.size
          have hgx := hrow.lt
          have HBX : Hid (Below w2.heap.size w2 wx) := below_then hbel hbx
          obtain ⟨x, hx⟩ : ∃ x, x = wt L lv c := ⟨_, rfl⟩
          rw [← hx] at cw hwb
          have HX : Hid (x = wt L lv c) := hx
          clear hx hrow n0 n1 n2 b0 z0
          by_cases hx0 : 0 < x
          · go_wp2_with (first
              | (at_builtin; refine wpList_append_lies _ (by rfl) (.tmp 39) (.tmp 44) 61 (by rfl) w2.heap.size 3 i0 (.int .i64 0) 1 8 Tryz.underlying61 hi0 hq0 hq1 hq2 rfl (by omega) _ _ _ (by rfl) (HOX.out.alloc _) ⟨wx.heap.size, 0, none⟩ 1 1 [.int .i64 x] (by rfl) (by rfl) ?c1 ?c2 (by omega) ?c3 ?c5 ?c4 (wx.heap.size + 1) (by simp) ?_))
            case c1 => exact cell_one_new _ _ _
            case c2 => intro u hu; simp at hu; subst hu; rfl
            case c3 => unfold maxLen; omega
            case c5 => omega
            case c4 => simp; omega
            · intro gv cap2 w5 hown2 hgrow _ _
              have HBN : Hid (Below w2.heap.size w2 w5) := grown_below (HBX.out.alloc (by omega) _) (by simp; omega) (HOX.out.alloc _) (Nat.le_refl _) hgrow
              have ho : w5.ownsRow w2.heap.size 3 1 (.slice (some ⟨gv, 0, none⟩) ((wts L lv ((nums L s q).take i)).length + 1) cap2) (wts L lv ((nums L s q).take (i + 1))).length ((wts L lv ((nums L s q).take (i + 1))).map (Value.int .i64)) := by
                have hs := HSN.out
                rw [if_pos (by rw [← HX.out]; omega), ← HX.out] at hs
                rw [hs, List.length_append, List.map_append]
                exact hown2
              have HO2 : Hid _ := ho
              clear hown2 hgrow ho
              go_wp2
              go_roundw
              case rel => first | exact ⟨i + 1, by omega, by go_num, HBN.out, HO2.out⟩ | ((repeat apply Exists.intro); exact ⟨⟨i + 1, by omega, by go_num, HBN.out, HO2.out⟩, rfl⟩)
              case measure => simp [intOf]; omega
          · have hxz : x = 0 := by omega
            have ho := HOX.out
            have hs := HSN.out
            rw [if_neg (by rw [← HX.out]; simpa using hxz)] at hs
            rw [← hs] at ho
            have HO2 : Hid _ := ho
            clear ho hs
            go_wp2
            go_roundw
            case rel => first | exact ⟨i + 1, by omega, by go_num, HBX.out, HO2.out⟩ | ((repeat apply Exists.intro); exact ⟨⟨i + 1, by omega, by go_num, HBX.out, HO2.out⟩, rfl⟩)
            case measure => simp [intOf]; omega
      · have hie : i = N := by omega
        subst hie
        have htk : (nums L s q).take i = nums L s q := List.take_of_length_le (by have := HLEN.out; omega)
        have ho := HOWN.out
        rw [htk, ← HWL.out] at ho
        have HI : Hid _ := ho
        clear ho htk
        go_wp2
        go_ret
        exact ⟨_, w2.heap.size, by omega, rfl, HI.out, below_then HBW.out hbel⟩
  · exact absurd hpq hx


/-- two rows of one's own, of two types, lie in two blocks -/
theorem own_two {w : World} {base base' : Nat} {e e' : TypeId} {size size' : Nat} {v v' : Value} {k k' : Nat} {xs xs' : List Value} (ho : w.ownsRow base e size v k xs) (ho' : w.ownsRow base' e' size' v' k' xs') (ht : e ≠ e') {b : Nat} (hb : v.ownBlock = some b) : some b ≠ v'.ownBlock := by
  intro hb'
  obtain ⟨_, h2⟩ := ho
  obtain ⟨_, h2'⟩ := ho'
  rcases h2 with ⟨rfl, _⟩ | ⟨g, cap, cur, rfl, _, hh, _⟩
  · simp [Value.ownBlock] at hb
  · rcases h2' with ⟨rfl, _⟩ | ⟨g', cap', cur', rfl, _, hh', _⟩
    · simp [Value.ownBlock] at hb'
    · simp only [Value.ownBlock, Option.some.injEq] at hb hb'
      subst hb
      subst hb'
      rw [hh] at hh'
      cases hh'
      exact ht rfl
/-- a row of another type behind an append -/
theorem own_grown {w w' : World} {base base' : Nat} {e e' : TypeId} {size size' : Nat} {v v' : Value} {k k' : Nat} {xs xs' : List Value} (ho : w.ownsRow base e size v k xs) (ho' : w.ownsRow base' e' size' v' k' xs') (ht : e ≠ e') (hg : w.grownBy w' v'.ownBlock) : w'.ownsRow base e size v k xs :=
  own_of_block ho fun b hb => hg.block b (own_lt' ho hb) (own_two ho ho' ht hb)
theorem own_shape {w : World} {base : Nat} {e : TypeId} {size : Nat} {v : Value} {n : Nat} {xs : List Value} (ho : w.ownsRow base e size v n xs) : ∃ vo vc, v = .slice vo n vc := by
  obtain ⟨vo, vc, _, h, _⟩ := own_cells ho
  exact ⟨vo, vc, h⟩

end Go.Proofs.YtpclldccjpncdabGreat
