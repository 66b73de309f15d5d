import Derived.Test.YtpclldccjpncdabGreatM11
import Derived.Deep.Cut
import Derived.Deep.CutRange
import Derived.Deep.RegionWith
namespace Go.Proofs.YtpclldccjpncdabGreat
open Go.RowKit

theorem three_cells {w : World} {g : Nat} {p s t : Int} {T : TypeId} (hr : w.rowIs g T 3 (fun i => #[Value.int .i64 p, .int .i64 s, .int .i64 t].getD i undef)) (L : Lay) (c lv : Nat) (hp : p = L.p c) (hs : s = L.s c) (ht : t = L.t c) (h1 : 1 ≤ lv) (h3 : lv ≤ 3) : w.cell? ⟨g, lv - 1, none⟩ = some (.int .i64 (wt L lv c)) := by
  subst hp hs ht
  have : lv = 1 ∨ lv = 2 ∨ lv = 3 := by omega
  rcases this with rfl | rfl | rfl
  · exact hr.cell (i := 0) (by omega)
  · exact hr.cell (i := 1) (by omega)
  · exact hr.cell (i := 2) (by omega)

set_option maxRecDepth 100000 in
set_option maxHeartbeats 2000000 in
theorem refLevel_any (L : Lay) (s : ByteArray) (lv : Nat) (w : World) (h : L.In w.heap.size w) (hok : L.Ok) (hs : s.size ≤ 24) (hp : hasP L s) (h1 : 1 ≤ lv) (h3 : lv ≤ 3) :
    Calls Tryz.prog 43 #[.agg #[.slice L.na L.n L.nc, .slice L.ea L.m L.ec], .string s, .int .i64 lv] w fun e w' => ∃ ao cap b, e = .returned (.slice ao (wl L s lv).length cap) ∧ IntsL w'.heap.size w' ao (wl L s lv) b 0 ∧ Below w.heap.size w w' := by
  have HL : Hid (∀ w', Below w.heap.size w w' → L.In w'.heap.size w') := fun w' hb => h.later hb
  have HIN : Hid (L.In w.heap.size w) := h
  have hm := hok.m
  have hn48 := hok.n
  have HOK : Hid (L.Ok) := hok
  have HP : Hid (hasP L s) := hp
  clear h hok hp
  obtain ⟨i0, hi0, hq0, hq1, hq2⟩ := info_parts infoInt
  go_enter Tryz.func43, Tryz.ntmps43
  go_wp2_with fail
  refine (refNodes_any L s _ _ _ (HL.out _ (below_one _)).entries HOK.out hs).mono ?_
  rintro e w2 ⟨q, hq, hb2, hor⟩
  have hNN := cutN_eq hq
  have hnl := nums_len HOK.out q hq.go
  have hq1' := pos_ge q hq.go
  have hq2' := pos_le L.m L.tx s q
  have hlt' := nums_lt HOK.out q hq.go
  have HWL : Hid (wl L s lv = wts L lv (nums L s q)) := by show _ = _; rw [wl, nodesN, hNN]
  have hpq : pos L.m L.tx s q = s.size := by have := HP.out; unfold hasP at this; rwa [hNN] at this
  rcases hor with ⟨_, vo, vc, vb, rfl, hint⟩ | ⟨hx, _⟩
  · have HBW : Hid (Below w.heap.size w w2) := below_then (below_one _) hb2
    obtain ⟨hc2, hf2⟩ := bcell hb2
    have c0 := hc2 w.heap.size 0 (by simp)
    have c0' : w2.cell? ⟨w.heap.size, 0, none⟩ = some (.slice L.na L.n L.nc) := by rw [c0]; go_simp
    have hz2 : w.heap.size < w2.heap.size := by have := hb2.size; simp at this; omega
    obtain ⟨N, hN⟩ : ∃ N, N = (numsZ L s q).length := ⟨_, rfl⟩
    have HLEN : Hid (N = (nums L s q).length) := by show _ = _; rw [hN]; simp [numsZ]
    have hN96 : N ≤ 96 := by have := HLEN.out; omega
    have HINT : Hid (IntsL w2.heap.size w2 vo (numsZ L s q) vb 0) := hint
    have HLT : Hid (∀ c ∈ nums L s q, c < L.n) := hlt'
    have HC0 : Hid (w2.cell? ⟨w.heap.size, 0, none⟩ = some (.slice L.na L.n L.nc)) := c0'
    have HNZ : Hid (N = (numsZ L s q).length) := hN
    rw [← hN]
    clear hint hlt' hnl hq1' hq2' hq hNN hpq hc2 hf2 c0 c0' hN hb2
    go_wp2
    go_loopw [9, 10] (fun v iv wr => ∃ i : Nat, i ≤ N ∧ iv = .int .i64 i ∧ Below w2.heap.size w2 wr ∧ wr.ownsRow w2.heap.size 3 1 v (wts L lv ((nums L s q).take i)).length ((wts L lv ((nums L s q).take i)).map (Value.int .i64))) (fun _ iv _ => N - (intOf iv).toNat)
    case atStart => exact ⟨0, Nat.zero_le _, rfl, Below.refl _ _, World.ownsRow_nil _ _ _ _⟩
    case round =>
      obtain ⟨i, hi, rfl, hbel, hown⟩ := hrel
      have HOWN : Hid (wr.ownsRow w2.heap.size 3 1 _ (wts L lv ((nums L s q).take i)).length ((wts L lv ((nums L s q).take i)).map (Value.int .i64))) := hown
      clear hown
      have hsz := hbel.size
      by_cases hlt : i < N
      · have hll : i < (nums L s q).length := by have := HLEN.out; omega
        have hlz : i < (numsZ L s q).length := by have := HNZ.out; omega
        have ha := HINT.out.addr (by omega)
        subst ha
        have z0 := cellTo hbel (HINT.out.cell i hlz) (HINT.out.lt (by omega))
        simp only [Nat.zero_add] at z0
        obtain ⟨c, hc⟩ : ∃ c, c = (nums L s q).getD i 0 := ⟨_, rfl⟩
        have hzc : (numsZ L s q).getD i 0 = (c : Int) := by rw [hc]; simp [numsZ, List.getD, List.getElem?_eq_getElem hll]
        rw [hzc] at z0
        have hcn : c < L.n := HLT.out c (by rw [hc]; simp [List.getD, List.getElem?_eq_getElem hll])
        have HSN : Hid (wts L lv ((nums L s q).take (i + 1)) = if wt L lv c ≠ 0 then wts L lv ((nums L s q).take i) ++ [wt L lv c] else wts L lv ((nums L s q).take i)) := by
          show _ = _
          rw [take_snoc_n (nums L s q) i hll, ← hc]
          exact wts_snoc L lv _ c
        have hwl : (wts L lv ((nums L s q).take i)).length ≤ i := Nat.le_trans (wts_len L lv _) (List.length_take_le _ _)
        have hbw := below_then HBW.out hbel
        have hnb := HIN.out.nodes.lt (by omega)
        have n0 := cellTo hbw (HIN.out.nodes.p c hcn) hnb
        have n1 := cellTo hbw (HIN.out.nodes.s c hcn) hnb
        have n2 := cellTo hbw (HIN.out.nodes.t c hcn) hnb
        have b0 := cellTo hbel HC0.out (by show w.heap.size < _; omega)
        rw [HIN.out.nodes.addr (by omega)] at b0
        have r1 : (c : Int) < (L.n : Int) := by omega
        have r2 : (0 : Int) ≤ (c : Int) := by omega
        have hwb := wt_bd HOK.out lv c hcn
        have hvb := HINT.out.lt (by omega)
        clear hc hzc hll hlz
        go_wp2
        have y0 : vb < wr.heap.size := by omega
        have y1 : w.heap.size < wr.heap.size := by omega
        have y2 : L.nb < wr.heap.size := by omega
        go_cut [11] from 19 to 45 (fun x wx => ∃ g, x = .pointer (some ⟨g, 0, none⟩) ∧ wx.rowIs g 95 3 (fun i => #[Value.int .i64 (L.p c), .int .i64 (L.s c), .int .i64 (L.t c)].getD i undef) ∧ Below wr.heap.size wr wx)
        case first =>
          go_region_with ((go_at_call 67; refine (refWeights_any _ _ _ _).mono ?_; rintro e _ ⟨rfl, rfl⟩))
          all_goals
            go_wp2
            go_meet
            refine ⟨_, rfl, ?_, ?_⟩
            · first
                | (refine World.rowIs.drew (World.rowIs.alloc (World.rowIs.alloc (row_at (row_new _ _ _ 3 rfl) ?_ (fun _ _ => rfl)) _) _); rfl)
                | (refine World.rowIs.drew (row_at (row_new _ _ _ 3 rfl) ?_ (fun _ _ => rfl)); simp only [size_one])
            · refine Below.drew ?_
              exact below_then (below_then (below_one _) (below_one _)) (below_one _)
        case rest =>
          rename World => wx
          obtain ⟨g, rfl, hrow, hbx⟩ := hcut
          have cw := three_cells hrow L c lv rfl rfl rfl h1 h3
          have HOX : Hid (wx.ownsRow w2.heap.size 3 1 _ (wts L lv ((nums L s q).take i)).length ((wts L lv ((nums L s q).take i)).map (Value.int .i64))) := own_of_block HOWN.out (fun b h => hbx.block b (own_lt' HOWN.out h))
          have hzx := hbx.size
          have hgx := hrow.lt
          have HBX : Hid (Below w2.heap.size w2 wx) := below_then hbel hbx
          obtain ⟨x, hx⟩ : ∃ x, x = wt L lv c := ⟨_, rfl⟩
          rw [← hx] at cw hwb
          have HX : Hid (x = wt L lv c) := hx
          clear hx hrow n0 n1 n2 b0 z0
          by_cases hx0 : 0 < x
          · go_wp2_with (first
              | (at_builtin; refine wpList_append_lies _ (by rfl) (.tmp 39) (.tmp 44) 61 (by rfl) w2.heap.size 3 i0 (.int .i64 0) 1 8 Tryz.underlying61 hi0 hq0 hq1 hq2 rfl (by omega) _ _ _ (by rfl) (HOX.out.alloc _) ⟨wx.heap.size, 0, none⟩ 1 1 [.int .i64 x] (by rfl) (by rfl) ?c1 ?c2 (by omega) ?c3 ?c5 ?c4 (wx.heap.size + 1) (by simp) ?_))
            case c1 => exact cell_one_new _ _ _
            case c2 => intro u hu; simp at hu; subst hu; rfl
            case c3 => unfold maxLen; omega
            case c5 => omega
            case c4 => simp; omega
            · intro gv cap2 w5 hown2 hgrow _ _
              have HBN : Hid (Below w2.heap.size w2 w5) := grown_below (HBX.out.alloc (by omega) _) (by simp; omega) (HOX.out.alloc _) (Nat.le_refl _) hgrow
              have ho : w5.ownsRow w2.heap.size 3 1 (.slice (some ⟨gv, 0, none⟩) ((wts L lv ((nums L s q).take i)).length + 1) cap2) (wts L lv ((nums L s q).take (i + 1))).length ((wts L lv ((nums L s q).take (i + 1))).map (Value.int .i64)) := by
                have hs := HSN.out
                rw [if_pos (by rw [← HX.out]; omega), ← HX.out] at hs
                rw [hs, List.length_append, List.map_append]
                exact hown2
              have HO2 : Hid _ := ho
              clear hown2 hgrow ho
              go_wp2
              go_roundw
              case rel => first | exact ⟨i + 1, by omega, by go_num, HBN.out, HO2.out⟩ | ((repeat apply Exists.intro); exact ⟨⟨i + 1, by omega, by go_num, HBN.out, HO2.out⟩, rfl⟩)
              case measure => simp [intOf]; omega
          · have hxz : x = 0 := by omega
            have ho := HOX.out
            have hs := HSN.out
            rw [if_neg (by rw [← HX.out]; simpa using hxz)] at hs
            rw [← hs] at ho
            have HO2 : Hid _ := ho
            clear ho hs
            go_wp2
            go_roundw
            case rel => first | exact ⟨i + 1, by omega, by go_num, HBX.out, HO2.out⟩ | ((repeat apply Exists.intro); exact ⟨⟨i + 1, by omega, by go_num, HBX.out, HO2.out⟩, rfl⟩)
            case measure => simp [intOf]; omega
      · have hie : i = N := by omega
        subst hie
        have htk : (nums L s q).take i = nums L s q := List.take_of_length_le (by have := HLEN.out; omega)
        have ho := HOWN.out
        rw [htk, ← HWL.out] at ho
        obtain ⟨ao', cap', b', hv, hint⟩ := ints_of_own rfl (by rw [HWL.out]; have := wts_len L lv (nums L s q); have := HLEN.out; omega) ho
        have HI : Hid (IntsL wr.heap.size wr ao' (wl L s lv) b' 0) := hint
        clear hint ho htk
        subst hv
        go_wp2
        go_ret
        exact ⟨_, _, _, rfl, HI.out, below_then HBW.out hbel⟩
  · exact absurd hpq hx

end Go.Proofs.YtpclldccjpncdabGreat

namespace Go.Proofs.YtpclldccjpncdabGreat
open Go.RowKit

open Classical in
noncomputable def mayE (L : Lay) (k : Nat) (u : Nat → ByteArray) (lev : Int) : Int :=
  if L.err ≠ 0 then L.err else if ∃ i, i < k ∧ 24 < (u i).size then 4 else if lev < 1 ∨ 3 < lev then 5 else if ∃ i, i < k ∧ ¬ hasP L (u i) then 6 else 0
theorem mayE_err {L : Lay} {k : Nat} {u : Nat → ByteArray} {lev : Int} (h : L.err ≠ 0) : L.err = mayE L k u lev := by simp [mayE, h]
theorem mayE_long {L : Lay} {k : Nat} {u : Nat → ByteArray} {lev : Int} (h : L.err = 0) (h2 : ∃ i, i < k ∧ 24 < (u i).size) : 4 = mayE L k u lev := by
  unfold mayE
  rw [if_neg (by simpa using h), if_pos h2]
theorem mayE_level {L : Lay} {k : Nat} {u : Nat → ByteArray} {lev : Int} (h : L.err = 0) (h2 : ∀ i, i < k → (u i).size ≤ 24) (h3 : lev < 1 ∨ 3 < lev) : 5 = mayE L k u lev := by
  unfold mayE
  rw [if_neg (by simpa using h), if_neg (by rintro ⟨i, hi, hx⟩; have := h2 i hi; omega), if_pos h3]
theorem mayE_text {L : Lay} {k : Nat} {u : Nat → ByteArray} {lev : Int} (h : L.err = 0) (h2 : ∀ i, i < k → (u i).size ≤ 24) (h3 : 1 ≤ lev) (h4 : lev ≤ 3) (h5 : ∃ i, i < k ∧ ¬ hasP L (u i)) : 6 = mayE L k u lev := by
  unfold mayE
  rw [if_neg (by simpa using h), if_neg (by rintro ⟨i, hi, hx⟩; have := h2 i hi; omega), if_neg (by omega), if_pos h5]
theorem mayE_ok {L : Lay} {k : Nat} {u : Nat → ByteArray} {lev : Int} (h : L.err = 0) (h2 : ∀ i, i < k → (u i).size ≤ 24) (h3 : 1 ≤ lev) (h4 : lev ≤ 3) (h5 : ∀ i, i < k → hasP L (u i)) : 0 = mayE L k u lev := by
  unfold mayE
  rw [if_neg (by simpa using h), if_neg (by rintro ⟨i, hi, hx⟩; have := h2 i hi; omega), if_neg (by omega), if_neg (by rintro ⟨i, hi, hx⟩; exact hx (h5 i hi))]

set_option maxRecDepth 100000 in
set_option maxHeartbeats 2000000 in
theorem refMay_any (L : Lay) (k : Nat) (u : Nat → ByteArray) (lev : Int) (ao : Option Addr) (cap b : Nat) (w : World) (h : L.In w.heap.size w) (hst : StrsIn w.heap.size w ao k b 0 u) :
    Calls Tryz.prog 42 #[.agg #[.slice L.na L.n L.nc, .slice L.ea L.m L.ec], .slice ao k cap, .int .i64 lev] w fun e w' => e = .returned (.int .i64 (mayE L k u lev)) ∧ Below w.heap.size w w' := by
  have HL : Hid (∀ w', Below w.heap.size w w' → L.In w'.heap.size w') := fun w' hb => h.later hb
  have HST : Hid (StrsIn w.heap.size w ao k b 0 u) := hst
  have hk := hst.le
  clear h hst
  by_cases he : L.err = 0
  · have HOK : Hid L.Ok := err_zero he
    have hm := HOK.out.m
    go_enter Tryz.func42, Tryz.ntmps42
    go_wp2_with (first
      | (go_at_call 14; refine (refValid_any L _ (HL.out _ (below_one _))).mono ?_; rintro e w1 ⟨rfl, hb1⟩; obtain ⟨hc, hf⟩ := bcell hb1; have hz1 : w.heap.size < w1.heap.size := by have := hb1.size; simp at this; omega))
    have HBW : Hid (Below w.heap.size w w1) := below_then (below_one _) hb1
    have c1' : w1.cell? ⟨w.heap.size, 1, none⟩ = some (.slice L.ea L.m L.ec) := by rw [hc w.heap.size 1 (by simp)]; go_simp
    clear hc hf
    go_loop [8] (fun iv => ∃ i : Nat, i ≤ k ∧ iv = .int .i64 i ∧ ∀ j, j < i → (u j).size ≤ 24) (fun iv => k - (intOf iv).toNat)
    case atStart => exact ⟨0, Nat.zero_le _, rfl, fun j hj => by omega⟩
    case round =>
      obtain ⟨i, hi, rfl, hall⟩ := hrel
      have HALL : Hid (∀ j, j < i → (u j).size ≤ 24) := hall
      clear hall
      by_cases hlt : i < k
      · have ha := HST.out.addr (by omega)
        subst ha
        have s0 := cellTo HBW.out (HST.out.cell i hlt) (HST.out.lt (by omega))
        simp only [Nat.zero_add] at s0
        by_cases hsz : (u i).size ≤ 24
        · go_wp2
          go_round
          case rel => exact ⟨i + 1, by omega, by go_num, fun j hj => by
              by_cases e : j = i
              · rw [e]; exact hsz
              · exact HALL.out j (by omega)⟩
          case measure => simp [intOf]; omega
        · go_wp2
          go_ret
          exact ⟨ret_int (mayE_long he ⟨i, hlt, by omega⟩), HBW.out⟩
      · have hik : i = k := by omega
        have HA24 : Hid (∀ j, j < k → (u j).size ≤ 24) := by show _; rw [← hik]; exact HALL.out
        by_cases hl : 1 ≤ lev ∧ lev ≤ 3
        · obtain ⟨l1, l3⟩ := hl
          go_wp2
          go_loopw [9] (fun iv wr => ∃ i : Nat, i ≤ k ∧ iv = .int .i64 i ∧ Below w1.heap.size w1 wr ∧ ∀ j, j < i → hasP L (u j)) (fun iv _ => k - (intOf iv).toNat)
          case atStart => exact ⟨0, Nat.zero_le _, rfl, Below.refl _ _, fun j hj => by omega⟩
          case round =>
            clear HALL hik hlt hi
            rename World => wr
            obtain ⟨i, hi, rfl, hbel, hall⟩ := hrel
            have HPS : Hid (∀ j, j < i → hasP L (u j)) := hall
            clear hall
            have hsz := hbel.size
            by_cases hlt : i < k
            · have ha := HST.out.addr (by omega)
              subst ha
              have hbb := HST.out.lt (by omega)
              have hbw := below_then HBW.out hbel
              have s0 := cellTo hbw (HST.out.cell i hlt) hbb
              simp only [Nat.zero_add] at s0
              have c1 := cellTo hbel c1' (by show w.heap.size < _; omega)
              have y0 : b < wr.heap.size := by omega
              have y1 : w.heap.size < wr.heap.size := by omega
              have HCUT : Hid (∀ wx, Below wr.heap.size wr wx → Calls Tryz.prog 40 #[.slice L.ea L.m L.ec, .string (u i)] wx fun e w' => ∃ v bo, e = .returned (.tuple #[v, .bool bo]) ∧ (bo = true ↔ hasP L (u i)) ∧ Below wr.heap.size wr w') := fun wx hb =>
                (refCut_any L.m _ _ _ _ L.tx L.la L.k L.lc L.lb L.lo L.z (u i) wx (by omega) (by have := HA24.out i hlt; omega) (HL.out wx (below_then hbw hb)).entries).mono (by
                  rintro e w' ⟨q, hq, hb', hor⟩
                  have hN := cutN_eq hq
                  rcases hor with ⟨hp, v, rfl, _⟩ | ⟨hp, rfl⟩
                  · exact ⟨v, true, rfl, ⟨fun _ => by unfold hasP; rw [hN]; exact hp, fun _ => rfl⟩, below_then hb hb'⟩
                  · exact ⟨_, false, rfl, ⟨fun h => absurd h (by simp), fun h => (by unfold hasP at h; rw [hN] at h; exact absurd h hp)⟩, below_then hb hb'⟩)
              go_wp2
              go_cut [11] from 35 to 52 (fun x wx => ∃ bo : Bool, x = .bool bo ∧ (bo = true ↔ hasP L (u i)) ∧ Below wr.heap.size wr wx)
              case first =>
                go_region_with ((go_at_call 40; refine (HCUT.out _ (Below.refl _ _).drew).mono ?_; rintro e w5 ⟨v5, bo, rfl, hbo, hb5⟩))
                all_goals
                  have HBO : Hid (bo = true ↔ hasP L (u i)) := hbo
                  clear hbo
                  go_wp2
                  go_meet
                  exact ⟨bo, rfl, HBO.out, hb5⟩
              case rest =>
                rename World => wx
                obtain ⟨bo, rfl, hbo, hbx⟩ := hcut
                have HBO : Hid (bo = true ↔ hasP L (u i)) := hbo
                clear hbo HCUT
                cases bo with
                | true =>
                  go_wp2
                  go_roundw
                  case rel => first | exact ⟨i + 1, by omega, by go_num, below_then hbel hbx, fun j hj => by
                      by_cases e : j = i
                      · rw [e]; exact HBO.out.1 (by simp)
                      · exact HPS.out j (by omega)⟩ | ((repeat apply Exists.intro); exact ⟨⟨i + 1, by omega, by go_num, below_then hbel hbx, fun j hj => by
                      by_cases e : j = i
                      · rw [e]; exact HBO.out.1 (by simp)
                      · exact HPS.out j (by omega)⟩, rfl⟩)
                  case measure => simp [intOf]; omega
                | false =>
                  go_wp2
                  go_ret
                  exact ⟨ret_int (mayE_text he HA24.out l1 l3 ⟨i, hlt, fun h => by have := HBO.out.2 h; simp at this⟩), below_then (below_then HBW.out hbel) hbx⟩
            · have hik : i = k := by omega
              subst hik
              go_wp2
              go_ret
              exact ⟨ret_int (mayE_ok he HA24.out l1 l3 HPS.out), below_then HBW.out hbel⟩
        · by_cases l1 : 1 ≤ lev
          · go_wp2
            go_ret
            exact ⟨ret_int (mayE_level he HA24.out (by omega)), HBW.out⟩
          · go_wp2
            go_ret
            exact ⟨ret_int (mayE_level he HA24.out (by omega)), HBW.out⟩
  · have HE : Hid (L.err = mayE L k u lev) := mayE_err he
    go_enter Tryz.func42, Tryz.ntmps42
    go_wp2_with (first
      | (go_at_call 14; refine (refValid_any L _ (HL.out _ (below_one _))).mono ?_; rintro e w1 ⟨rfl, hb1⟩))
    go_ret
    exact ⟨ret_int HE.out, below_then (below_one _) hb1⟩

end Go.Proofs.YtpclldccjpncdabGreat

namespace Go.Proofs.YtpclldccjpncdabGreat
open Go.RowKit

/-- two texts -/
def two (a b : ByteArray) (i : Nat) : ByteArray := if i = 0 then a else b
theorem strs_two (w : World) (a b : ByteArray) (t : TypeId) : StrsIn (w.alloc (.cells #[.string a, .string b] t)).heap.size (w.alloc (.cells #[.string a, .string b] t)) (some ⟨w.heap.size, 0, none⟩) 2 w.heap.size 0 (two a b) := by
  have hr : (w.alloc (.cells #[.string a, .string b] t)).rowIs w.heap.size t 2 (fun i => #[Value.string a, .string b].getD i undef) := row_new w _ t 2 rfl
  refine ⟨fun _ => rfl, fun _ => hr.lt, fun i hi => ?_, by omega⟩
  match i, hi with
  | 0, _ => exact hr.cell (i := 0) (by omega)
  | 1, _ => exact hr.cell (i := 1) (by omega)
theorem mayE_two {L : Lay} {a b : ByteArray} {lev : Int} : mayE L 2 (two a b) lev = cmpE L a b lev := by
  by_cases he : L.err = 0
  · by_cases hs : 24 < a.size ∨ 24 < b.size
    · rw [cmpE_long he hs]
      refine (mayE_long he ?_).symm
      rcases hs with h | h
      · exact ⟨0, by omega, by simpa [two] using h⟩
      · exact ⟨1, by omega, by simpa [two] using h⟩
    · have h24 : ∀ i, i < 2 → (two a b i).size ≤ 24 := fun i hi => by
        match i, hi with
        | 0, _ => simp [two]; omega
        | 1, _ => simp [two]; omega
      by_cases hl : lev < 1 ∨ 3 < lev
      · rw [cmpE_level he (by omega) (by omega) hl, ← mayE_level he h24 hl]
      · by_cases hp : ¬ hasP L a ∨ ¬ hasP L b
        · rw [cmpE_text he (by omega) (by omega) (by omega) (by omega) hp]
          refine (mayE_text he h24 (by omega) (by omega) ?_).symm
          rcases hp with h | h
          · exact ⟨0, by omega, by simpa [two] using h⟩
          · exact ⟨1, by omega, by simpa [two] using h⟩
        · have ha : hasP L a := Classical.byContradiction fun h => hp (.inl h)
          have hb : hasP L b := Classical.byContradiction fun h => hp (.inr h)
          rw [cmpE_ok he (by omega) (by omega) (by omega) (by omega) ha hb]
          refine (mayE_ok he h24 (by omega) (by omega) fun i hi => ?_).symm
          match i, hi with
          | 0, _ => simpa [two] using ha
          | 1, _ => simpa [two] using hb
  · rw [cmpE_err he, ← mayE_err he]
theorem cmpE_zero {L : Lay} {a b : ByteArray} {lev : Int} (h : cmpE L a b lev = 0) : L.err = 0 ∧ a.size ≤ 24 ∧ b.size ≤ 24 ∧ 1 ≤ lev ∧ lev ≤ 3 ∧ hasP L a ∧ hasP L b := by
  by_cases he : L.err = 0
  · by_cases hs : 24 < a.size ∨ 24 < b.size
    · rw [cmpE_long he hs] at h; omega
    · by_cases hl : lev < 1 ∨ 3 < lev
      · rw [cmpE_level he (by omega) (by omega) hl] at h; omega
      · by_cases hp : ¬ hasP L a ∨ ¬ hasP L b
        · rw [cmpE_text he (by omega) (by omega) (by omega) (by omega) hp] at h; omega
        · exact ⟨he, by omega, by omega, by omega, by omega, Classical.byContradiction fun h => hp (.inl h), Classical.byContradiction fun h => hp (.inr h)⟩
  · rw [cmpE_err he] at h; exact absurd h he

set_option maxRecDepth 100000 in
set_option maxHeartbeats 2000000 in
theorem refCompare_any (L : Lay) (a b : ByteArray) (lev : Int) (w : World) (h : L.In w.heap.size w) :
    Calls Tryz.prog 19 #[.agg #[.slice L.na L.n L.nc, .slice L.ea L.m L.ec], .string a, .string b, .int .i64 lev] w fun e w' => e = .returned (.tuple #[.int .i64 (cmpV L a b lev), .int .i64 (cmpE L a b lev)]) ∧ Below w.heap.size w w' := by
  have HL : Hid (∀ w', Below w.heap.size w w' → L.In w'.heap.size w') := fun w' hb => h.later hb
  clear h
  by_cases hE : cmpE L a b lev = 0
  · obtain ⟨he, ha, hb, l1, l3, hpa, hpb⟩ := cmpE_zero hE
    have HOK : Hid L.Ok := err_zero he
    have HE : Hid (cmpE L a b lev = 0) := hE
    have HPA : Hid (hasP L a) := hpa
    have HPB : Hid (hasP L b) := hpb
    have HM : Hid (mayE L 2 (two a b) lev = 0) := by show _ = _; rw [mayE_two]; exact hE
    clear hE hpa hpb he
    obtain ⟨t, ht⟩ : ∃ t : Nat, lev = t := ⟨lev.toNat, by omega⟩
    subst ht
    go_enter Tryz.func19, Tryz.ntmps19
    go_wp2_with (first
      | (go_at_call 42; refine (refMay_any L 2 (two a b) _ _ _ _ _ (HL.out _ (below_then (below_one _) (below_one _))) (by simpa using strs_two (w.alloc (.cells #[.slice L.na L.n L.nc, .slice L.ea L.m L.ec] 28)) a b 9)).mono ?_; rintro e w1 ⟨rfl, hb1⟩; rw [HM.out]; obtain ⟨hc, hf⟩ := bcell hb1; have hz1 : w.heap.size + 1 < w1.heap.size := by have := hb1.size; simp at this; omega))
    have HBW : Hid (Below w.heap.size w w1) := below_then (below_then (below_one _) (below_one _)) hb1
    have c0' : w1.cell? ⟨w.heap.size, 0, none⟩ = some (.slice L.na L.n L.nc) := by rw [hc w.heap.size 0 (by simp; omega)]; go_simp
    have c1' : w1.cell? ⟨w.heap.size, 1, none⟩ = some (.slice L.ea L.m L.ec) := by rw [hc w.heap.size 1 (by simp; omega)]; go_simp
    clear hc hf
    go_loopw [11] (fun kv wr => ∃ k : Nat, 1 ≤ k ∧ k ≤ t + 1 ∧ kv = .int .i64 k ∧ Below w1.heap.size w1 wr ∧ cmpFrom L a b t 1 = cmpFrom L a b (t + 1 - k) k) (fun kv _ => t + 1 - (intOf kv).toNat)
    case atStart => exact ⟨1, by omega, by omega, rfl, Below.refl _ _, by simp⟩
    case round =>
      obtain ⟨k, hk1, hk2, rfl, hbel, hcf⟩ := hrel
      have HCF : Hid (cmpFrom L a b t 1 = cmpFrom L a b (t + 1 - k) k) := hcf
      clear hcf
      by_cases hkt : k ≤ t
      · have HST : Hid (cmpFrom L a b (t + 1 - k) k = if cmpL (wl L a k) (wl L b k) ≠ 0 then cmpL (wl L a k) (wl L b k) else cmpFrom L a b (t + 1 - (k + 1)) (k + 1)) := by
          show _ = _
          rw [show t + 1 - k = (t + 1 - (k + 1)) + 1 by omega]
          rfl
        have d0 := cellTo hbel c0' (by show w.heap.size < _; omega)
        have d1 := cellTo hbel c1' (by show w.heap.size < _; omega)
        go_wp2_with fail
        refine (refLevel_any L a k _ (HL.out _ (below_then HBW.out hbel)) HOK.out ha HPA.out hk1 (by omega)).mono ?_
        rintro e w4 ⟨pa, pcap, pb, rfl, hia, hb4⟩
        have HIA : Hid (IntsL w4.heap.size w4 pa (wl L a k) pb 0) := hia
        have d0' := cellTo hb4 d0 (by show w.heap.size < _; have := hbel.size; omega)
        have d1' := cellTo hb4 d1 (by show w.heap.size < _; have := hbel.size; omega)
        clear hia
        go_wp2_with fail
        refine (refLevel_any L b k _ (HL.out _ (below_then (below_then HBW.out hbel) hb4)) HOK.out hb HPB.out hk1 (by omega)).mono ?_
        rintro e w5 ⟨qa, qcap, qb, rfl, hib, hb5⟩
        have HIB : Hid (IntsL w5.heap.size w5 qa (wl L b k) qb 0) := hib
        clear hib
        go_wp2_with fail
        refine (refSign_any _ _ _ _ _ _ _ _ _ _ _ ((HIA.out.below hb5).mono hb5.size) HIB.out).mono ?_
        rintro e w6 ⟨rfl, hb6⟩
        obtain ⟨x, hx⟩ : ∃ x, x = cmpL (wl L a k) (wl L b k) := ⟨_, rfl⟩
        rw [← hx]
        have HX : Hid (x = cmpL (wl L a k) (wl L b k)) := hx
        clear hx d0 d1 d0' d1'
        have HBL : Hid (Below w1.heap.size w1 w6) := below_then (below_then (below_then hbel hb4) hb5) hb6
        by_cases hx0 : x = 0
        · go_wp2
          go_roundw
          case rel => exact ⟨k + 1, by omega, by omega, by go_num, HBL.out, by rw [HCF.out, HST.out, if_neg (by rw [← HX.out]; simpa using hx0)]⟩
          case measure => simp [intOf]; omega
        · go_wp2
          go_ret2
          refine ⟨ret_two ?_ HE.out.symm, below_then HBW.out HBL.out⟩
          rw [cmpV_ok HE.out, show (t : Int).toNat = t by omega, HCF.out, HST.out, if_pos (by rw [← HX.out]; exact hx0)]
          exact HX.out
      · go_wp2
        go_ret2
        refine ⟨ret_two ?_ HE.out.symm, below_then HBW.out hbel⟩
        have hke : t + 1 - k = 0 := by omega
        rw [cmpV_ok HE.out, show (t : Int).toNat = t by omega, HCF.out, hke]
        rfl
  · have HV : Hid (cmpV L a b lev = 0) := cmpV_no hE
    have HM : Hid (mayE L 2 (two a b) lev = cmpE L a b lev) := mayE_two
    go_enter Tryz.func19, Tryz.ntmps19
    go_wp2_with (first
      | (go_at_call 42; refine (refMay_any L 2 (two a b) _ _ _ _ _ (HL.out _ (below_then (below_one _) (below_one _))) (by simpa using strs_two (w.alloc (.cells #[.slice L.na L.n L.nc, .slice L.ea L.m L.ec] 28)) a b 9)).mono ?_; rintro e w1 ⟨rfl, hb1⟩; rw [HM.out]))
    go_ret2
    exact ⟨ret_two HV.out.symm rfl, below_then (below_then (below_one _) (below_one _)) hb1⟩

end Go.Proofs.YtpclldccjpncdabGreat
