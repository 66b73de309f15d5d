import Derived.Test.YtpclldccjpncdabGreatM08
import Derived.Deep.RegionWith
namespace Go.Proofs.YtpclldccjpncdabGreat
open Go.RowKit

/-- what is left of a text from a place on -/
def rest (s : ByteArray) (p : Nat) : ByteArray := s.extract p s.size
theorem rest_zero (s : ByteArray) : rest s 0 = s := ByteArray.extract_zero_size
theorem rest_size (s : ByteArray) (p : Nat) : (rest s p).size = s.size - p := by simp [rest, ByteArray.size_extract]
theorem rest_sub (s : ByteArray) (p n : Nat) (h : p + n ≤ s.size) : (rest s p).extract 0 n = sub s p n := by
  rw [rest, sub, ByteArray.extract_extract, Nat.add_zero, Nat.min_eq_left h]
theorem rest_rest (s : ByteArray) (p n : Nat) : (rest s p).extract n (rest s p).size = rest s (p + n) := by
  rw [rest_size, rest, ByteArray.extract_extract, rest]
  congr 1
  omega

set_option maxRecDepth 100000 in
set_option maxHeartbeats 1000000 in
theorem refCut_any (m cap b off : Nat) (ao : Option Addr) (tx : Nat → ByteArray) (la : Nat → Option Addr) (k lc lb lo : Nat → Nat) (z : Nat → Nat → Int) (s : ByteArray) (w : World) (hm : m ≤ 1000) (hs : s.size ≤ 1000)
    (h : EntriesIn w.heap.size w ao m b off tx la k lc lb lo z) :
    Calls Tryz.prog 40 #[.slice ao m cap, .string s] w fun e w' => ∃ q, Cut m tx s q ∧ Below w.heap.size w w' ∧
      ((pos m tx s q = s.size ∧ ∃ v, e = .returned (.tuple #[v, .bool true]) ∧ w'.ownsRow w.heap.size 9 1 v q ((List.range q).map fun j => .string (piece m tx s j))) ∨ (pos m tx s q ≠ s.size ∧ e = .returned (.tuple #[.slice none 0 0, .bool false]))) := by
  have HE : Hid (EntriesIn w.heap.size w ao m b off tx la k lc lb lo z) := h
  clear h
  obtain ⟨i0, hi0, hq0, hq1, hq2⟩ := info_parts infoStr
  go_enter Tryz.func40, Tryz.ntmps40
  go_wp2
  go_loopw [1, 6] (fun sv v wr => ∃ (q : Nat) (r : ByteArray), sv = .string r ∧ r = rest s (pos m tx s q) ∧ (∀ j, j < q → 0 < lenAt m tx s (pos m tx s j)) ∧ Below w.heap.size w wr ∧ wr.ownsRow w.heap.size 9 1 v q ((List.range q).map fun j => .string (piece m tx s j)))
    (fun sv _ _ => match sv with | .string r => r.size | _ => 0)
  case atStart => exact ⟨0, s, rfl, (rest_zero s).symm, fun j hj => by omega, Below.refl _ _, World.ownsRow_nil _ _ _ _⟩
  case round =>
    obtain ⟨q, r, rfl, hr, hgo, hbel, hown⟩ := hrel
    have hpl := pos_le m tx s q
    have hqp := pos_ge q hgo
    have HGO : Hid (∀ j, j < q → 0 < lenAt m tx s (pos m tx s j)) := hgo
    have HOWN : Hid (wr.ownsRow w.heap.size 9 1 _ q ((List.range q).map fun j => .string (piece m tx s j))) := hown
    clear hgo hown
    obtain ⟨pp, hpp⟩ : ∃ pp, pp = pos m tx s q := ⟨_, rfl⟩
    have HPP : Hid (pp = pos m tx s q) := hpp
    rw [← hpp] at hpl hqp hr
    clear hpp
    have hrs : r.size = s.size - pp := by rw [hr]; exact rest_size s pp
    have HRS : Hid (r.size = s.size - pp) := hrs
    have HR : Hid (r = rest s pp) := hr
    clear hr
    have hsz := hbel.size
    by_cases hlt : pp < s.size
    · have hr0 : 0 < r.size := by omega
      have hr1 : r.size ≤ 1000 := by omega
      clear hrs
      rcases Bool.eq_false_or_eq_true (decide ((r.size : Int) < 3)) with hd | hd
      all_goals
        have h3 := hd
        simp only [decide_eq_true_eq, decide_eq_false_iff_not] at h3
        go_wp2
        go_loop [7] (fun nv => ∃ n : Nat, nv = .int .i64 n ∧ n ≤ 3 ∧ n ≤ r.size ∧ ∀ x, n < x → x ≤ 3 → pp + x ≤ s.size → ¬ isText m tx (sub s pp x)) (fun nv => (intOf nv).toNat)
        case atStart => first | exact ⟨3, rfl, by omega, by omega, fun x h1 h2 _ => by omega⟩ | exact ⟨r.size, rfl, by omega, by omega, fun x h1 h2 h4 => by have := HRS.out; omega⟩
        case round =>
          obtain ⟨n, rfl, hn3, hnr, hno⟩ := hrel
          have HNO : Hid (∀ x, n < x → x ≤ 3 → pp + x ≤ s.size → ¬ isText m tx (sub s pp x)) := hno
          clear hno
          have hps : pp + n ≤ s.size := by have := HRS.out; omega
          by_cases hn0 : 0 < n
          · have hsub : r.extract 0 n = sub s pp n := by rw [HR.out]; exact rest_sub s pp n hps
            have HSUB : Hid (r.extract 0 n = sub s pp n) := hsub
            clear hsub
            by_cases hit : isText m tx (sub s pp n)
            · have HL : Hid (lenAt m tx s pp = n) := lenAt_eq hpl hn3 hps (fun _ => hit) HNO.out
              have HI : Hid (entI m tx (r.extract 0 n) = (idx m tx (sub s pp n) : Nat)) := by show _ = _; rw [HSUB.out]; exact entI_text hit
              obtain ⟨c, hc⟩ : ∃ c : Nat, c = idx m tx (sub s pp n) := ⟨_, rfl⟩
              have HC : Hid (c = idx m tx (sub s pp n)) := hc
              clear hc hit
              go_wp2_with (first
                | (go_at_call 70; refine (entry_any _ _ _ _ _ _ _ _ _ _ _ _ _ _ hm ((HE.out.below hbel).mono hsz)).mono ?_; rintro e w1 ⟨rfl, rfl⟩; rw [HI.out, ← HC.out])
                | (at_builtin; refine wpList_append_lies _ (by rfl) (.tmp 31) (.tmp 35) 40 (by rfl) w.heap.size 9 i0 (.string ByteArray.empty) 1 16 Tryz.underlying40 hi0 hq0 hq1 hq2 rfl (by omega) _ q _ (by rfl) (HOWN.out.alloc _) ⟨wr.heap.size, 0, none⟩ 1 1 [.string (r.extract 0 n)] (by rfl) (by rfl) ?c1 ?c2 (by omega) ?c3 ?c5 ?c4 (wr.heap.size + 1) (by simp) ?_))
              case c1 => exact cell_one_new _ _ _
              case c2 => intro u hu; simp at hu; subst hu; rfl
              case c3 => unfold maxLen; omega
              case c5 => omega
              case c4 => simp; omega
              · intro gv2 cap2 w3 hown2 hgrow _ _
                have HBN : Hid (Below w.heap.size w w3) := (hbel.alloc hsz _).grown hgrow (by simp; omega) (fun r hr => by
                  obtain ⟨_, ho⟩ := HOWN.out
                  rcases ho with ⟨hv, _⟩ | ⟨b', _, _, hv, hb', _⟩
                  · rw [hv] at hr; simp [Value.ownBlock] at hr
                  · rw [hv] at hr; simp [Value.ownBlock] at hr; omega)
                have HO2 : Hid (w3.ownsRow w.heap.size 9 1 (.slice (some ⟨gv2, 0, none⟩) (q + 1) cap2) (q + 1) ((List.range (q + 1)).map fun j => .string (piece m tx s j))) := by
                  show _
                  rw [List.range_succ, List.map_append]
                  have : piece m tx s q = r.extract 0 n := by rw [piece, ← HPP.out, HL.out, HSUB.out]
                  rw [List.map_singleton, this]
                  exact hown2
                clear hown2 hgrow
                go_wp2
                go_roundw
                case rel =>
                  refine ⟨q + 1, _, rfl, ?_, fun j hj => ?_, HBN.out, HO2.out⟩
                  · show _ = rest s (pos m tx s q + lenAt m tx s (pos m tx s q))
                    rw [← HPP.out, HL.out, ← rest_rest, ← HR.out]
                  · by_cases e : j = q
                    · rw [e, ← HPP.out, HL.out]; exact hn0
                    · exact HGO.out j (by omega)
                case measure => simp [ByteArray.size_extract]; omega
            · have HI : Hid (entI m tx (r.extract 0 n) = -1) := by show _ = _; rw [HSUB.out]; exact entI_no hit
              have HIT : Hid (¬ isText m tx (sub s pp n)) := hit
              clear hit
              go_wp2_with (go_at_call 70; refine (entry_any _ _ _ _ _ _ _ _ _ _ _ _ _ _ hm ((HE.out.below hbel).mono hsz)).mono ?_; rintro e w1 ⟨rfl, rfl⟩; rw [HI.out])
              go_round
              case rel => exact ⟨n - 1, by go_num, by omega, by omega, fun x h1 h2 h4 => by
                  by_cases e : x = n
                  · rw [e]; exact HIT.out
                  · exact HNO.out x (by omega) h2 h4⟩
              case measure => simp [intOf]; omega
          · have hnz : n = 0 := by omega
            subst hnz
            have HL : Hid (lenAt m tx s pp = 0) := lenAt_eq hpl (by omega) (by omega) (by omega) HNO.out
            go_wp2
            go_ret2
            exact ⟨q, ⟨HGO.out, by rw [← HPP.out]; exact HL.out⟩, hbel, .inr ⟨by rw [← HPP.out]; omega, rfl⟩⟩
    · have hre : r.size = 0 := by omega
      have hpe : pp = s.size := by omega
      have HPE : Hid (pos m tx s q = s.size) := by show _ = _; rw [← HPP.out]; exact hpe
      go_wp2
      go_ret2
      exact ⟨q, ⟨HGO.out, by rw [HPE.out]; exact lenAt_end m tx s⟩, hbel, .inl ⟨HPE.out, _, rfl, HOWN.out⟩⟩

end Go.Proofs.YtpclldccjpncdabGreat

namespace Go.Proofs.YtpclldccjpncdabGreat
open Go.RowKit

set_option maxRecDepth 100000 in
set_option maxHeartbeats 1000000 in
theorem refPieces_any (L : Lay) (s : ByteArray) (w : World) (h : L.In w.heap.size w) :
    Calls Tryz.prog 16 #[.agg #[.slice L.na L.n L.nc, .slice L.ea L.m L.ec], .string s] w fun e w' => ∃ v er, e = .returned (.tuple #[v, .int .i64 er]) ∧ PiecesAns L s v er w' ∧ Below w.heap.size w w' := by
  have HL : Hid (∀ w', Below w.heap.size w w' → L.In w'.heap.size w') := fun w' hb => h.later hb
  clear h
  by_cases he : L.err = 0
  · by_cases hs : s.size ≤ 24
    · have hok := err_zero he
      have hm := hok.m
      clear hok
      go_enter Tryz.func16, Tryz.ntmps16
      go_wp2_with (first
        | (go_at_call 14; refine (refValid_any L _ (HL.out _ (below_one _))).mono ?_; rintro e w1 ⟨rfl, hb1⟩; obtain ⟨hc, hf⟩ := bcell hb1; have hz1 : w.heap.size < w1.heap.size := by have := hb1.size; simp at this; omega))
      have HIN : Hid (L.In w1.heap.size w1) := HL.out _ (below_then (below_one _) hb1)
      refine (refCut_any L.m _ _ _ _ L.tx L.la L.k L.lc L.lb L.lo L.z s w1 (by omega) (by omega) HIN.out.entries).mono ?_
      rintro e w2 ⟨q, hq, hb2, hor⟩
      have hq1' := pos_ge q hq.go
      have hq2' := pos_le L.m L.tx s q
      have HQ : Hid (Cut L.m L.tx s q) := hq
      have hqs : q ≤ 24 := by omega
      have HBW : Hid (Below w.heap.size w w2) := below_then (below_then (below_one _) hb1) hb2
      clear hq hq1' hq2' hc hf
      rcases hor with ⟨hp, v, rfl, hown⟩ | ⟨hp, rfl⟩
      · obtain ⟨vo', vc', gv', hv, hst⟩ := strs_of_own (by omega) hown
        have HST : Hid (StrsIn w2.heap.size w2 vo' q gv' 0 (piece L.m L.tx s)) := hst
        clear hst hown
        subst hv
        go_wp2
        go_ret2
        exact ⟨_, _, rfl, .inr (.inr ⟨he, hs, q, HQ.out, .inr ⟨hp, rfl, _, _, _, _, rfl, HST.out⟩⟩), HBW.out⟩
      · go_wp2
        go_ret2
        exact ⟨_, _, rfl, .inr (.inr ⟨he, hs, q, HQ.out, .inl ⟨hp, rfl, rfl⟩⟩), HBW.out⟩
    · go_enter Tryz.func16, Tryz.ntmps16
      go_wp2_with (first
        | (go_at_call 14; refine (refValid_any L _ (HL.out _ (below_one _))).mono ?_; rintro e w1 ⟨rfl, hb1⟩; obtain ⟨hc, hf⟩ := bcell hb1; have hz1 : w.heap.size < w1.heap.size := by have := hb1.size; simp at this; omega))
      go_ret2
      exact ⟨_, _, rfl, .inr (.inl ⟨he, by omega, rfl, rfl⟩), below_then (below_one _) hb1⟩
  · go_enter Tryz.func16, Tryz.ntmps16
    go_wp2_with (first
      | (go_at_call 14; refine (refValid_any L _ (HL.out _ (below_one _))).mono ?_; rintro e w1 ⟨rfl, hb1⟩; obtain ⟨hc, hf⟩ := bcell hb1; have hz1 : w.heap.size < w1.heap.size := by have := hb1.size; simp at this; omega))
    go_ret2
    exact ⟨_, _, rfl, .inl ⟨he, rfl, rfl⟩, below_then (below_one _) hb1⟩

/-- two answers of Pieces are one: the error; the texts -/
theorem piecesAns_two {L : Lay} {s : ByteArray} {v v' : Value} {er er' : Int} {w w' : World} (h : PiecesAns L s v er w) (hb : Below w.heap.size w w') (h' : PiecesAns L s v' er' w') :
    er = er' ∧ ∃ k u ao b off cap ao' b' off' cap', v = .slice ao k cap ∧ v' = .slice ao' k cap' ∧ StrsIn w'.heap.size w' ao k b off u ∧ StrsIn w'.heap.size w' ao' k b' off' u := by
  have hnil : ∀ w : World, StrsIn w.heap.size w none 0 0 0 (fun _ => ByteArray.empty) := fun w => ⟨by omega, by omega, by omega, by omega⟩
  rcases h with ⟨h1, rfl, rfl⟩ | ⟨h1, h2, rfl, rfl⟩ | ⟨h1, h2, q, hq, hh⟩ <;> rcases h' with ⟨g1, rfl, rfl⟩ | ⟨g1, g2, rfl, rfl⟩ | ⟨g1, g2, q', hq', hh'⟩ <;> try omega
  · exact ⟨rfl, 0, _, _, _, _, _, _, _, _, _, rfl, rfl, hnil w', hnil w'⟩
  · exact ⟨rfl, 0, _, _, _, _, _, _, _, _, _, rfl, rfl, hnil w', hnil w'⟩
  · obtain rfl := hq.uniq hq'
    rcases hh with ⟨h3, rfl, rfl⟩ | ⟨h3, rfl, ao, cap, b, off, rfl, hs⟩ <;> rcases hh' with ⟨g3, rfl, rfl⟩ | ⟨g3, rfl, ao', cap', b', off', rfl, hs'⟩
    · exact ⟨rfl, 0, _, _, _, _, _, _, _, _, _, rfl, rfl, hnil w', hnil w'⟩
    · exact absurd g3 h3
    · exact absurd h3 g3
    · exact ⟨rfl, q, _, _, _, _, _, _, _, _, _, rfl, rfl, (hs.below hb).mono hb.size, hs'⟩

end Go.Proofs.YtpclldccjpncdabGreat

namespace Go.Proofs.YtpclldccjpncdabGreat
open Go.RowKit

theorem pieces_lent (L : Lay) (gn ge : Nat) (gl : Nat → Nat) (s : ByteArray) (w : World) (h : (L.lent gn ge gl).In w.heap.size w) :
    Calls Tryz.prog 15 #[.agg #[.slice (some ⟨gn, 0, none⟩) L.n (L.n + 8), .slice (some ⟨ge, 0, none⟩) L.m (L.m + 8)], .string s] w fun e w' => ∃ v er, e = .returned (.tuple #[v, .int .i64 er]) ∧ PiecesAns L s v er w' ∧ Below w.heap.size w w' := pieces_any (L.lent gn ge gl) s w h

set_option maxRecDepth 100000 in
set_option maxHeartbeats 1000000 in
theorem asks_pieces (L : Lay) (a b : ByteArray) (lev : Int) (ra : Option Addr) (rn rc : Nat) (w : World) (h : L.In w.heap.size w) :
    Calls Tryz.prog 7 #[.agg #[.int .i64 2, .slice L.na L.n L.nc, .slice L.ea L.m L.ec, .string a, .string b, .int .i64 lev, .slice ra rn rc]] w fun e w' => e = .returned (.bool true) ∧ Below w.heap.size w w' := by
  have HL : Hid (∀ w', Below w.heap.size w w' → L.In w'.heap.size w') := fun w' hb => h.later hb
  clear h
  go_enter Tryz.func7, Tryz.ntmps7
  go_wp2_with (first
    | (go_at_call 12; refine (lent_any L _ (HL.out _ (below_one _))).mono ?_; rintro e w1 ⟨g, gn, ge, gl, vo, vc, rfl, hlent⟩; obtain ⟨hc, hf⟩ := bcell hlent.below; obtain ⟨x0, x1, xg⟩ := hlent.t01; have hz : w.heap.size < w1.heap.size := by have := hlent.below.size; simp at this; omega))
  have HPC : Hid (∀ wx, Below w1.heap.size w1 wx → Calls Tryz.prog 15 #[.agg #[.slice (some ⟨gn, 0, none⟩) L.n (L.n + 8), .slice (some ⟨ge, 0, none⟩) L.m (L.m + 8)], .string a] wx fun e w' => ∃ v er, e = .returned (.tuple #[v, .int .i64 er]) ∧ PiecesAns L a v er w' ∧ Below w1.heap.size w1 w') := fun wx hb =>
    (pieces_lent L gn ge gl a wx (((hlent.lay (HL.out _ (below_one _))).below hb).mono hb.size)).mono fun e w' ⟨v, er, he, ha, hb'⟩ => ⟨v, er, he, ha, below_then hb hb'⟩
  go_cut [6, 7] from 23 (fun l ev wx => ∃ er, ev = .int .i64 er ∧ PiecesAns L a l er wx ∧ Below w1.heap.size w1 wx)
  case first =>
    go_region_with ((go_at_call 15; refine (HPC.out _ (Below.refl _ _).drew).mono ?_; rintro e w2 ⟨v, er, rfl, hans, hb2⟩))
    all_goals
      go_wp2
      go_meet
      exact ⟨_, rfl, hans, hb2⟩
  case rest =>
    rename World => w2
    obtain ⟨er, rfl, hans, hb2⟩ := hcut
    have HAN : Hid (PiecesAns L a _ er w2) := hans
    clear hans HPC
    have hz2 : w.heap.size < w2.heap.size := by have := hb2.size; omega
    obtain ⟨hc2, hf2⟩ := bcell hb2
    go_wp2_with (first
      | (go_at_call 16; refine (refPieces_any L _ _ (HL.out _ (below_then (below_then (below_one _) hlent.below) hb2))).mono ?_; rintro e w3 ⟨v', er', rfl, hans', hb3⟩; obtain ⟨hc3, hf3⟩ := bcell hb3; have hz3 : w.heap.size < w3.heap.size := by have := hb3.size; omega))
    obtain ⟨rfl, k, u, ao, b0, off, cap, ao', b', off', cap', rfl, rfl, hs1, hs2⟩ := piecesAns_two HAN.out hb3 hans'
    have HS : Hid (StrsIn w3.heap.size w3 ao k b0 off u ∧ StrsIn w3.heap.size w3 ao' k b' off' u) := ⟨hs1, hs2⟩
    clear hs1 hs2 hans' HAN
    go_wp2_with (first
      | (go_at_call 17; refine (sameStrings_any _ _ _ _ _ _ _ _ _ _ _ HS.out.1 HS.out.2).mono ?_; rintro e w4 ⟨rfl, hb4⟩; obtain ⟨hc4, hf4⟩ := bcell hb4; have hz4 : w.heap.size < w4.heap.size := by have := hb4.size; omega)
      | (go_at_call 24; refine (still_any L _ (HL.out _ (below_one _)) g gn ge gl vo vc _ (((hlent.later hb2).later hb3).later hb4)).mono ?_; rintro e w5 ⟨rfl, hb5⟩))
    go_ret
    exact ⟨rfl, below_then (below_one _) hb5⟩


set_option maxRecDepth 100000 in
set_option maxHeartbeats 1000000 in
theorem plays_pieces (L : Lay) (a b : ByteArray) (lev : Int) (ra : Option Addr) (rn rc : Nat) (w : World) (h : L.In w.heap.size w) :
    Calls Tryz.prog 6 #[.agg #[.int .i64 2, .slice L.na L.n L.nc, .slice L.ea L.m L.ec, .string a, .string b, .int .i64 lev, .slice ra rn rc]] w fun e w' => e = .returned (.bool true) ∧ Below w.heap.size w w' := by
  have HL : Hid (∀ w', Below w.heap.size w w' → L.In w'.heap.size w') := fun w' hb => h.later hb
  clear h
  go_enter Tryz.func6, Tryz.ntmps6
  go_wp2_with (go_at_call 7; refine (asks_pieces L _ _ _ _ _ _ _ (HL.out _ (below_one _))).mono ?_; rintro e w1 ⟨rfl, hb1⟩)
  go_ret
  exact ⟨rfl, below_then (below_one _) hb1⟩

end Go.Proofs.YtpclldccjpncdabGreat
