import Derived.Test.YtpclldccjpncdaaGreatRefCut
namespace Go.Proofs.YtpclldccjpncdaaGreat
open Go.RowKit

set_option maxRecDepth 100000 in
set_option maxHeartbeats 1000000 in
theorem refPieces_any (L : Lay) (s : ByteArray) (w : World) (h : L.In w.heap.size w) :
    Calls Tryz.prog 21 #[.agg #[.slice L.na L.n L.nc, .slice L.ea L.m L.ec], .string s] w fun e w' => ∃ v er, e = .returned (.tuple #[v, .int .i64 er]) ∧ PiecesAns L s v er w' ∧ Below w.heap.size w w' := by
  have HL : Hid (∀ w', Below w.heap.size w w' → L.In w'.heap.size w') := fun w' hb => h.later hb
  clear h
  by_cases he : L.err = 0
  · by_cases hs : s.size ≤ 24
    · have hok := err_zero he
      have hm := hok.m
      clear hok
      go_enter Tryz.func21, Tryz.ntmps21
      go_wp2_with (first
        | (go_at_call 19; refine (refValid_any L _ (HL.out _ (below_one _))).mono ?_; rintro e w1 ⟨rfl, hb1⟩; obtain ⟨hc, hf⟩ := bcell hb1; have hz1 : w.heap.size < w1.heap.size := by have := hb1.size; simp at this; omega))
      have HIN : Hid (L.In w1.heap.size w1) := HL.out _ (below_then (below_one _) hb1)
      refine (refCut_any L.m _ _ _ _ L.tx L.la L.k L.lc L.lb L.lo L.z s w1 (by omega) (by omega) HIN.out.entries).mono ?_
      rintro e w2 ⟨q, hq, hb2, hor⟩
      have hq1' := pos_ge q hq.go
      have hq2' := pos_le L.m L.tx s q
      have HQ : Hid (Cut L.m L.tx s q) := hq
      have hqs : q ≤ 24 := by omega
      have HBW : Hid (Below w.heap.size w w2) := below_then (below_then (below_one _) hb1) hb2
      clear hq hq1' hq2' hc hf
      rcases hor with ⟨hp, v, rfl, hown⟩ | ⟨hp, rfl⟩
      · obtain ⟨vo', vc', gv', hv, hst⟩ := strs_of_own (by omega) hown
        have HST : Hid (StrsIn w2.heap.size w2 vo' q gv' 0 (piece L.m L.tx s)) := hst
        clear hst hown
        subst hv
        go_wp2
        go_ret2
        exact ⟨_, _, rfl, .inr (.inr ⟨he, hs, q, HQ.out, .inr ⟨hp, rfl, _, _, _, _, rfl, HST.out⟩⟩), HBW.out⟩
      · go_wp2
        go_ret2
        exact ⟨_, _, rfl, .inr (.inr ⟨he, hs, q, HQ.out, .inl ⟨hp, rfl, rfl⟩⟩), HBW.out⟩
    · go_enter Tryz.func21, Tryz.ntmps21
      go_wp2_with (first
        | (go_at_call 19; refine (refValid_any L _ (HL.out _ (below_one _))).mono ?_; rintro e w1 ⟨rfl, hb1⟩; obtain ⟨hc, hf⟩ := bcell hb1; have hz1 : w.heap.size < w1.heap.size := by have := hb1.size; simp at this; omega))
      go_ret2
      exact ⟨_, _, rfl, .inr (.inl ⟨he, by omega, rfl, rfl⟩), below_then (below_one _) hb1⟩
  · go_enter Tryz.func21, Tryz.ntmps21
    go_wp2_with (first
      | (go_at_call 19; refine (refValid_any L _ (HL.out _ (below_one _))).mono ?_; rintro e w1 ⟨rfl, hb1⟩; obtain ⟨hc, hf⟩ := bcell hb1; have hz1 : w.heap.size < w1.heap.size := by have := hb1.size; simp at this; omega))
    go_ret2
    exact ⟨_, _, rfl, .inl ⟨he, rfl, rfl⟩, below_then (below_one _) hb1⟩

/-- two answers of Pieces are one: the error; the texts -/
theorem piecesAns_two {L : Lay} {s : ByteArray} {v v' : Value} {er er' : Int} {w w' : World} (h : PiecesAns L s v er w) (hb : Below w.heap.size w w') (h' : PiecesAns L s v' er' w') :
    er = er' ∧ ∃ k u ao b off cap ao' b' off' cap', v = .slice ao k cap ∧ v' = .slice ao' k cap' ∧ StrsIn w'.heap.size w' ao k b off u ∧ StrsIn w'.heap.size w' ao' k b' off' u := by
  have hnil : ∀ w : World, StrsIn w.heap.size w none 0 0 0 (fun _ => ByteArray.empty) := fun w => ⟨by omega, by omega, by omega, by omega⟩
  rcases h with ⟨h1, rfl, rfl⟩ | ⟨h1, h2, rfl, rfl⟩ | ⟨h1, h2, q, hq, hh⟩ <;> rcases h' with ⟨g1, rfl, rfl⟩ | ⟨g1, g2, rfl, rfl⟩ | ⟨g1, g2, q', hq', hh'⟩ <;> try omega
  · exact ⟨rfl, 0, _, _, _, _, _, _, _, _, _, rfl, rfl, hnil w', hnil w'⟩
  · exact ⟨rfl, 0, _, _, _, _, _, _, _, _, _, rfl, rfl, hnil w', hnil w'⟩
  · obtain rfl := hq.uniq hq'
    rcases hh with ⟨h3, rfl, rfl⟩ | ⟨h3, rfl, ao, cap, b, off, rfl, hs⟩ <;> rcases hh' with ⟨g3, rfl, rfl⟩ | ⟨g3, rfl, ao', cap', b', off', rfl, hs'⟩
    · exact ⟨rfl, 0, _, _, _, _, _, _, _, _, _, rfl, rfl, hnil w', hnil w'⟩
    · exact absurd g3 h3
    · exact absurd h3 g3
    · exact ⟨rfl, q, _, _, _, _, _, _, _, _, _, rfl, rfl, (hs.below hb).mono hb.size, hs'⟩

end Go.Proofs.YtpclldccjpncdaaGreat
