import Derived.Test.YtpclldccjpncdaaNodesOfW
namespace Go.Proofs.Ytpclldccjpncdaa
open Go.RowKit

/-- the nodes of a text, in memory -/
abbrev NodesL (L : Lay) (w : World) (ao : Option Addr) (l : List Nat) (b : Nat) : Prop := NodesIn w.heap.size w ao l.length b 0 (fun i => L.p (l.getD i 0)) (fun i => L.s (l.getD i 0)) (fun i => L.t (l.getD i 0))

theorem nodesOf_n (L : Lay) (s : ByteArray) (w : World) (h : L.In w.heap.size w) (hok : L.Ok) (hs : s.size ≤ 24) :
    Calls Try.prog 43 #[.agg #[.slice L.na L.n L.nc, .slice L.ea L.m L.ec], .string s] w fun e w' => Below w.heap.size w w' ∧ (nodesN L s).length ≤ 96 ∧
      ((hasP L s ∧ ∃ ao cap b, e = .returned (.tuple #[.slice ao (nodesN L s).length cap, .bool true]) ∧ NodesL L w' ao (nodesN L s) b) ∨ (¬ hasP L s ∧ e = .returned (.tuple #[.slice none 0 0, .bool false]))) := by
  refine (nodesOf_any L s w h hok hs).mono ?_
  rintro e w' ⟨q, hq, hb, hor⟩
  have hN := cutN_eq hq
  have h1 := pos_ge q hq.go
  have h2 := pos_le L.m L.tx s q
  have h3 := nums_len hok q hq.go
  unfold hasP nodesN
  rw [hN]
  exact ⟨hb, by omega, hor⟩

theorem cmpE_err {L : Lay} {a b : ByteArray} {lev : Int} (h : L.err ≠ 0) : cmpE L a b lev = L.err := by simp [cmpE, h]
theorem cmpE_long {L : Lay} {a b : ByteArray} {lev : Int} (h : L.err = 0) (h2 : 24 < a.size ∨ 24 < b.size) : cmpE L a b lev = 4 := by simp [cmpE, h, h2]
theorem cmpE_level {L : Lay} {a b : ByteArray} {lev : Int} (h : L.err = 0) (ha : a.size ≤ 24) (hb : b.size ≤ 24) (h3 : lev < 1 ∨ 3 < lev) : cmpE L a b lev = 5 := by
  have : ¬ (24 < a.size ∨ 24 < b.size) := by omega
  simp [cmpE, h, this, h3]
theorem cmpE_text {L : Lay} {a b : ByteArray} {lev : Int} (h : L.err = 0) (ha : a.size ≤ 24) (hb : b.size ≤ 24) (h3 : 1 ≤ lev) (h4 : lev ≤ 3) (h5 : ¬ hasP L a ∨ ¬ hasP L b) : cmpE L a b lev = 6 := by
  have h1 : ¬ (24 < a.size ∨ 24 < b.size) := by omega
  have h2 : ¬ (lev < 1 ∨ 3 < lev) := by omega
  simp only [cmpE, h, h1, h2, h5, ne_eq, not_true_eq_false, if_false, if_true]
theorem cmpE_ok {L : Lay} {a b : ByteArray} {lev : Int} (h : L.err = 0) (ha : a.size ≤ 24) (hb : b.size ≤ 24) (h3 : 1 ≤ lev) (h4 : lev ≤ 3) (h5 : hasP L a) (h6 : hasP L b) : cmpE L a b lev = 0 := by
  have h1 : ¬ (24 < a.size ∨ 24 < b.size) := by omega
  have h2 : ¬ (lev < 1 ∨ 3 < lev) := by omega
  have h7 : ¬ (¬ hasP L a ∨ ¬ hasP L b) := by simp [h5, h6]
  simp only [cmpE, h, h1, h2, h7, ne_eq, not_true_eq_false, if_false]
theorem cmpV_no {L : Lay} {a b : ByteArray} {lev : Int} (h : cmpE L a b lev ≠ 0) : cmpV L a b lev = 0 := by simp [cmpV, h]
theorem cmpV_ok {L : Lay} {a b : ByteArray} {lev : Int} (h : cmpE L a b lev = 0) : cmpV L a b lev = cmpFrom L a b lev.toNat 1 := by simp [cmpV, h]
theorem ret_two {x x' y y' : Int} (h1 : x = x') (h2 : y = y') : Ending.returned (.tuple #[.int .i64 x, .int .i64 y]) = .returned (.tuple #[.int .i64 x', .int .i64 y']) := by rw [h1, h2]

set_option maxRecDepth 100000 in
set_option maxHeartbeats 2000000 in
theorem tableCompare_any (L : Lay) (a b : ByteArray) (lev : Int) (w : World) (h : L.In w.heap.size w) :
    Calls Try.prog 32 #[.agg #[.slice L.na L.n L.nc, .slice L.ea L.m L.ec], .string a, .string b, .int .i64 lev] w fun e w' => e = .returned (.tuple #[.int .i64 (cmpV L a b lev), .int .i64 (cmpE L a b lev)]) ∧ Below w.heap.size w w' := by
  have HL : Hid (∀ w', Below w.heap.size w w' → L.In w'.heap.size w') := fun w' hb => h.later hb
  clear h
  by_cases he : L.err = 0
  · by_cases ha : a.size ≤ 24
    · by_cases hb : b.size ≤ 24
      · by_cases hl : 1 ≤ lev ∧ lev ≤ 3
        · obtain ⟨hl1, hl3⟩ := hl
          have HOK : Hid L.Ok := err_zero he
          have hlv : decide (1 ≤ lev ∧ lev ≤ 3) = true := by simp [hl1, hl3]
          go_enter Try.func32, Try.ntmps32
          go_wp2_with (first
            | (go_at_call 40; refine (tableValid_any L _ (HL.out _ (below_one _))).mono ?_; rintro e w1 ⟨rfl, hb1⟩; obtain ⟨hc, hf⟩ := bcell hb1; have hz1 : w.heap.size < w1.heap.size := by have := hb1.size; simp at this; omega)
            | (go_at_call 42; refine (isLevel_any _ _).mono ?_; rintro e _ ⟨rfl, rfl⟩))
          refine (nodesOf_n L a _ (HL.out _ (below_then (below_one _) hb1)) HOK.out ha).mono ?_
          rintro e w2 ⟨hb2, hlen2, hor2⟩
          obtain ⟨hc2, hf2⟩ := bcell hb2
          have hz2 : w.heap.size < w2.heap.size := by have := hb2.size; omega
          rcases hor2 with ⟨hpa, ao, acap, ab, rfl, hna⟩ | ⟨hpa, rfl⟩
          · have HNA : Hid (NodesL L w2 ao (nodesN L a) ab) := hna
            clear hna
            go_wp2_with fail
            refine (nodesOf_n L b _ (HL.out _ (below_then (below_then (below_one _) hb1) hb2)) HOK.out hb).mono ?_
            rintro e w3 ⟨hb3, hlen3, hor3⟩
            have HBW : Hid (Below w.heap.size w w3) := below_then (below_then (below_then (below_one _) hb1) hb2) hb3
            rcases hor3 with ⟨hpb, bo, bcap, bb, rfl, hnb⟩ | ⟨hpb, rfl⟩
            · have HNB : Hid (NodesL L w3 bo (nodesN L b) bb) := hnb
              have HNA3 : Hid (NodesL L w3 ao (nodesN L a) ab) := (HNA.out.below hb3).mono hb3.size
              have HE : Hid (cmpE L a b lev = 0) := cmpE_ok he ha hb hl1 hl3 hpa hpb
              clear hnb HNA hc hf hc2 hf2
              obtain ⟨t, ht⟩ : ∃ t : Nat, lev = t := ⟨lev.toNat, by omega⟩
              subst ht
              go_wp2
              go_loopw [15] (fun kv wr => ∃ k : Nat, 1 ≤ k ∧ k ≤ t + 1 ∧ kv = .int .i64 k ∧ Below w3.heap.size w3 wr ∧ cmpFrom L a b t 1 = cmpFrom L a b (t + 1 - k) k) (fun kv _ => t + 1 - (intOf kv).toNat)
              case atStart => exact ⟨1, by omega, by omega, rfl, Below.refl _ _, by simp⟩
              case round =>
                obtain ⟨k, hk1, hk2, rfl, hbel, hcf⟩ := hrel
                have HCF : Hid (cmpFrom L a b t 1 = cmpFrom L a b (t + 1 - k) k) := hcf
                clear hcf
                by_cases hkt : k ≤ t
                · have HST : Hid (cmpFrom L a b (t + 1 - k) k = if cmpL (wl L a k) (wl L b k) ≠ 0 then cmpL (wl L a k) (wl L b k) else cmpFrom L a b (t + 1 - (k + 1)) (k + 1)) := by
                    show _ = _
                    rw [show t + 1 - k = (t + 1 - (k + 1)) + 1 by omega]
                    rfl
                  go_wp2_with fail
                  refine (weights_any L (nodesN L a) k ao ab 0 acap _ (by omega) hk1 (by omega) ((HNA3.out.below hbel).mono hbel.size)).mono ?_
                  rintro e w4 ⟨pa, pcap, pb, rfl, hia, hb4⟩
                  have HIA : Hid (IntsL w4.heap.size w4 pa (wts L k (nodesN L a)) pb 0) := hia
                  clear hia
                  go_wp2_with fail
                  refine (weights_any L (nodesN L b) k bo bb 0 bcap _ (by omega) hk1 (by omega) ((HNB.out.below (below_then hbel hb4)).mono (below_then hbel hb4).size)).mono ?_
                  rintro e w5 ⟨qa, qcap, qb, rfl, hib, hb5⟩
                  have HIB : Hid (IntsL w5.heap.size w5 qa (wts L k (nodesN L b)) qb 0) := hib
                  clear hib
                  go_wp2_with fail
                  refine (compareWeights_any _ _ _ _ _ _ _ _ _ _ _ ((HIA.out.below hb5).mono hb5.size) HIB.out).mono ?_
                  rintro e w6 ⟨rfl, hb6⟩
                  obtain ⟨x, hx⟩ : ∃ x, x = cmpL (wts L k (nodesN L a)) (wts L k (nodesN L b)) := ⟨_, rfl⟩
                  rw [← hx]
                  have HX : Hid (x = cmpL (wl L a k) (wl L b k)) := hx
                  clear hx
                  have HBL : Hid (Below w3.heap.size w3 w6) := below_then (below_then (below_then hbel hb4) hb5) hb6
                  by_cases hx0 : x = 0
                  · go_wp2
                    go_roundw
                    case rel => exact ⟨k + 1, by omega, by omega, by go_num, HBL.out, by rw [HCF.out, HST.out, if_neg (by rw [← HX.out]; simpa using hx0)]⟩
                    case measure => simp [intOf]; omega
                  · go_wp2
                    go_ret2
                    refine ⟨ret_two ?_ HE.out.symm, below_then HBW.out HBL.out⟩
                    rw [cmpV_ok HE.out, show (t : Int).toNat = t by omega, HCF.out, HST.out, if_pos (by rw [← HX.out]; exact hx0)]
                    exact HX.out
                · go_wp2
                  go_ret2
                  refine ⟨ret_two ?_ HE.out.symm, below_then HBW.out hbel⟩
                  have hke : t + 1 - k = 0 := by omega
                  rw [cmpV_ok HE.out, show (t : Int).toNat = t by omega, HCF.out, hke]
                  rfl
            · have HE : Hid (cmpE L a b lev = 6) := cmpE_text he ha hb hl1 hl3 (.inr hpb)
              go_wp2
              go_ret2
              exact ⟨ret_two (cmpV_no (by rw [HE.out]; decide)).symm HE.out.symm, HBW.out⟩
          · have HE : Hid (cmpE L a b lev = 6) := cmpE_text he ha hb hl1 hl3 (.inl hpa)
            go_wp2_with fail
            refine (nodesOf_n L b _ (HL.out _ (below_then (below_then (below_one _) hb1) hb2)) HOK.out hb).mono ?_
            rintro e w3 ⟨hb3, hlen3, hor3⟩
            have HBW : Hid (Below w.heap.size w w3) := below_then (below_then (below_then (below_one _) hb1) hb2) hb3
            rcases hor3 with ⟨hpb, bo, bcap, bb, rfl, hnb⟩ | ⟨hpb, rfl⟩
            · clear hnb
              go_wp2
              go_ret2
              exact ⟨ret_two (cmpV_no (by rw [HE.out]; decide)).symm HE.out.symm, HBW.out⟩
            · go_wp2
              go_ret2
              exact ⟨ret_two (cmpV_no (by rw [HE.out]; decide)).symm HE.out.symm, HBW.out⟩
        · have hlv : decide (1 ≤ lev ∧ lev ≤ 3) = false := by simpa using hl
          have hE : cmpE L a b lev = 5 := cmpE_level he ha hb (by omega)
          have HE : Hid (cmpE L a b lev = 5) := hE
          clear hE
          go_enter Try.func32, Try.ntmps32
          go_wp2_with (first
            | (go_at_call 40; refine (tableValid_any L _ (HL.out _ (below_one _))).mono ?_; rintro e w1 ⟨rfl, hb1⟩)
            | (go_at_call 42; refine (isLevel_any _ _).mono ?_; rintro e _ ⟨rfl, rfl⟩))
          go_ret2
          exact ⟨ret_two (cmpV_no (by rw [HE.out]; decide)).symm HE.out.symm, below_then (below_one _) hb1⟩
      · have HE : Hid (cmpE L a b lev = 4) := cmpE_long he (by omega)
        go_enter Try.func32, Try.ntmps32
        go_wp2_with (first
          | (go_at_call 40; refine (tableValid_any L _ (HL.out _ (below_one _))).mono ?_; rintro e w1 ⟨rfl, hb1⟩))
        go_ret2
        exact ⟨ret_two (cmpV_no (by rw [HE.out]; decide)).symm HE.out.symm, below_then (below_one _) hb1⟩
    · have HE : Hid (cmpE L a b lev = 4) := cmpE_long he (by omega)
      go_enter Try.func32, Try.ntmps32
      go_wp2_with (first
        | (go_at_call 40; refine (tableValid_any L _ (HL.out _ (below_one _))).mono ?_; rintro e w1 ⟨rfl, hb1⟩))
      go_ret2
      exact ⟨ret_two (cmpV_no (by rw [HE.out]; decide)).symm HE.out.symm, below_then (below_one _) hb1⟩
  · have HE : Hid (cmpE L a b lev = L.err) := cmpE_err he
    go_enter Try.func32, Try.ntmps32
    go_wp2_with (first
      | (go_at_call 40; refine (tableValid_any L _ (HL.out _ (below_one _))).mono ?_; rintro e w1 ⟨rfl, hb1⟩))
    go_ret2
    exact ⟨ret_two (cmpV_no (by rw [HE.out]; exact he)).symm HE.out.symm, below_then (below_one _) hb1⟩


set_option maxHeartbeats 400000 in
theorem compare_any (L : Lay) (a b : ByteArray) (lev : Int) (w : World) (h : L.In w.heap.size w) :
    Calls Try.prog 13 #[.agg #[.slice L.na L.n L.nc, .slice L.ea L.m L.ec], .string a, .string b, .int .i64 lev] w fun e w' => e = .returned (.tuple #[.int .i64 (cmpV L a b lev), .int .i64 (cmpE L a b lev)]) ∧ Below w.heap.size w w' := by
  have HL : Hid (∀ w', Below w.heap.size w w' → L.In w'.heap.size w') := fun w' hb => h.later hb
  clear h
  go_enter Try.func13, Try.ntmps13
  go_wp2_with (go_at_call 32; refine (tableCompare_any L _ _ _ _ (HL.out _ (below_one _))).mono ?_; rintro e w1 ⟨rfl, hb1⟩)
  go_ret2
  exact ⟨rfl, below_then (below_one _) hb1⟩

end Go.Proofs.Ytpclldccjpncdaa
