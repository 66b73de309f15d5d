import Derived.Test.YtpclldccjpncdabGreatM24
namespace Go.Proofs.YtpclldccjpncdabGreat
open Go.RowKit

theorem newC5 (w : World) {B : Nat} (hB : w.heap.size = B) (a b c d e : Value) (t : TypeId) : ∀ (j : Nat) (u : Value), [a, b, c, d, e][j]? = some u → (w.alloc (.cells #[a, b, c, d, e] t)).cell? ((⟨B, 0, none⟩ : Addr).add j) = some u :=
  hB ▸ World.news_of_block (cs := #[a, b, c, d, e]) (t := t) (fr := (0, 0)) (heap_alloc_new w _)
/-- what a chain's reading answers -/
def CR (s : ByteArray) (i : Nat) (L : List Rl) (a : Nat) (er : Int) : Prop :=
  a ≤ s.size ∧ ((er ≠ 0 ∧ ∀ st out, Pre s st i → rd s ⟨st, i, default, out⟩ = ([], er, a)) ∨
    (er = 0 ∧ L ≠ [] ∧ L.length ≤ a - i ∧ i < a ∧ ∃ st', Whole s st' a ∧ ∀ st out, Pre s st i → rd s ⟨st, i, default, out⟩ = rd s ⟨st', a, default, out ++ L⟩))

set_option maxRecDepth 100000 in
set_option maxHeartbeats 2000000 in
theorem readChain_any (s : ByteArray) (i : Nat) (w : World) (hs : s.size ≤ 1000) (hi : i ≤ s.size) :
    Calls Tryz.prog 79 #[.string s, .int .i64 (i : Nat)] w fun e w' => ∃ (L : List Rl) (v : Value) (a : Nat) (er : Int), e = .returned (.tuple #[v, .int .i64 (a : Nat), .int .i64 er]) ∧ Hid (CR s i L a er) ∧ Hid (w'.ownsRow w.heap.size 57 5 v L.length (rulC L)) ∧ Below w.heap.size w w' := by
  obtain ⟨t0, ht0, hq0, hq1, hq2⟩ := info_parts infoRulC
  have hto := rh_to (s := s) (i := i) hi
  obtain ⟨q, hq⟩ : ∃ q, q = rh s i := ⟨_, rfl⟩
  obtain ⟨⟨hr, hbf, hl, ht, hm⟩, ha, he⟩ := q
  have HC : Hid (∀ w, Calls Tryz.prog 104 #[.string s, .int .i64 (i : Nat)] w fun e w' => e = .returned (.tuple #[.agg #[.string hr, .int .i64 hbf, .int .i64 hl, .string ht, .string hm], .int .i64 (ha : Nat), .int .i64 he]) ∧ Below w.heap.size w w') := fun w => by
    have := readHead_any s i w hs hi
    rw [← hq] at this
    exact this
  rw [← hq] at hto
  obtain ⟨hto1, hto2, hto3⟩ := hto
  simp only at hto1 hto2 hto3
  have HQ : Hid ((⟨⟨hr, hbf, hl, ht, hm⟩, ha, he⟩ : Rl × Nat × Int) = rh s i) := hq
  clear hq hto3
  by_cases he0 : he = 0
  · subst he0
    have hia := hto2 rfl
    have HCH : Hid (Chain s i ha []) := by
      have := chain_head (s := s) (i := i) (by rw [← HQ.out])
      rw [← HQ.out] at this
      exact this
    clear hto2
    go_enter Tryz.func79, Tryz.ntmps79
    go_wp2_with fail
    refine (HC.out _).mono ?_
    rintro e w1 ⟨rfl, hb1⟩
    have HB1 : Hid (Below w.heap.size w w1) := hb1
    have hz1 := hb1.size
    clear hb1
    obtain ⟨W, hW⟩ : ∃ W, W = w1.alloc (.cells #[.string hr, .int .i64 hbf, .int .i64 hl, .string ht, .string hm] 57) := ⟨_, rfl⟩
    have HW : Hid (W = w1.alloc (.cells #[.string hr, .int .i64 hbf, .int .i64 hl, .string ht, .string hm] 57)) := hW
    have HWS : Hid (W.heap.size = w1.heap.size + 1) := by show _ = _; rw [hW]; simp
    have HR : Hid (W.rowIs w1.heap.size 57 5 (fun i => #[Value.string hr, .int .i64 hbf, .int .i64 hl, .string ht, .string hm].getD i undef)) := by show World.rowIs _ _ _ _ _; rw [hW]; exact row_new _ _ _ 5 rfl
    have HBW : Hid (Below w.heap.size w W) := by show Below _ _ _; rw [hW]; exact below_then HB1.out (below_one _)
    clear hW
    go_wp2
    go_loopw [10, 8] (fun v av wr => ∃ (L : List Rl) (a : Nat), Hid (Chain s i a L) ∧ a ≤ s.size ∧ L.length ≤ a - i ∧ i < a ∧ av = .int .i64 (a : Nat) ∧ Below W.heap.size W wr ∧ wr.ownsRow (w1.heap.size + 1) 57 5 v L.length (rulC L)) (fun _ av _ => s.size - (intOf av).toNat)
    case atStart => exact ⟨[], ha, HCH, hto1, by simp, hia, rfl, by rw [HW.out]; exact Below.refl _ _, World.ownsRow_nil _ _ _ _⟩
    case round =>
      obtain ⟨L, a, HCA, has, hLa, hia', rfl, hbel, hown⟩ := hrel
      obtain ⟨vo9, vc9, hv9⟩ := ownC_shape hown
      subst hv9
      have HOW : Hid (wr.ownsRow (w1.heap.size + 1) 57 5 (.slice vo9 L.length vc9) L.length (rulC L)) := hown
      clear hown
      have hsz := hbel.size
      have hszw : w1.heap.size + 1 ≤ wr.heap.size := by rw [← HWS.out]; exact hsz
      have HRr : Hid (wr.rowIs w1.heap.size 57 5 (fun i => #[Value.string hr, .int .i64 hbf, .int .i64 hl, .string ht, .string hm].getD i undef)) := HR.out.of_block (hbel.block _ (by rw [HWS.out]; omega))
      have HBr : Hid (Below w.heap.size w wr) := below_then HBW.out hbel
      have hrt := rr_to (s := s) (i := a) has
      obtain ⟨q, hq⟩ : ∃ q, q = rr s a := ⟨_, rfl⟩
      obtain ⟨⟨rs, be, lv, tx, mo⟩, pl, fe⟩ := q
      have HCR : Hid (∀ w, Calls Tryz.prog 106 #[.string s, .int .i64 (a : Nat)] w fun e w' => e = .returned (.tuple #[.agg #[.string rs, .int .i64 be, .int .i64 lv, .string tx, .string mo], .int .i64 (pl : Nat), .int .i64 fe]) ∧ Below w.heap.size w w') := fun w => by
        have := readRelation_any s a w hs has
        rw [← hq] at this
        exact this
      rw [← hq] at hrt
      obtain ⟨hrt1, hrt2, _⟩ := hrt
      simp only at hrt1 hrt2
      have HQR : Hid ((⟨⟨rs, be, lv, tx, mo⟩, pl, fe⟩ : Rl × Nat × Int) = rr s a) := hq
      clear hq
      by_cases hL : L = []
      · subst hL
        by_cases hfe : fe = 0
        · subst hfe
          have hpl := hrt2 rfl
          have HCN : Hid (Chain s i pl [Rl.mk hr hbf lv tx mo]) := by
            have := chain_more HCA.out (fun h => absurd rfl h) (by rw [← HQR.out])
            rw [← HQR.out] at this
            unfold addR at this
            rw [if_pos rfl, ← HQ.out] at this
            exact this
          clear hrt2
          go_wp2_with fail
          refine (HCR.out _).mono ?_
          rintro e w2 ⟨rfl, hb2⟩
          have HB2 : Hid (Below W.heap.size W w2) := below_then hbel hb2
          have HO2 : Hid (w2.ownsRow (w1.heap.size + 1) 57 5 (.slice vo9 ([] : List Rl).length vc9) 0 []) := ownC_below HOW.out hb2
          have hz2 := hb2.size
          have HR2 : Hid (w2.rowIs w1.heap.size 57 5 (fun i => #[Value.string hr, .int .i64 hbf, .int .i64 hl, .string ht, .string hm].getD i undef)) := HRr.out.of_block (hb2.block _ (by omega))
          obtain ⟨⟨c0, c1, c2, c3, c4⟩, f0, f1, f2, f3, f4⟩ := row5F HR2.out
          clear hb2
          have g0 : (w2.alloc (.cells #[.string rs, .int .i64 be, .int .i64 lv, .string tx, .string mo] 57)).cell? ⟨w1.heap.size, 0, none⟩ = some (.string hr) := (HR2.out.alloc _).cell (i := 0) (by omega)
          have g1 : (w2.alloc (.cells #[.string hr, .int .i64 be, .int .i64 lv, .string tx, .string mo] 57)).cell? ⟨w1.heap.size, 1, none⟩ = some (.int .i64 hbf) := (HR2.out.alloc _).cell (i := 1) (by omega)
          have HOX : Hid ((w2.alloc (.cells #[.string hr, .int .i64 hbf, .int .i64 lv, .string tx, .string mo] 57)).ownsRow (w1.heap.size + 1) 57 5 (.slice vo9 0 vc9) 0 []) := HO2.out.alloc _
          have HBX : Hid (Below W.heap.size W (w2.alloc (.cells #[.string hr, .int .i64 hbf, .int .i64 lv, .string tx, .string mo] 57))) := below_then HB2.out (below_one _)
          clear c0 c1 c2 c3 c4 f0 f1 f2 f3 f4
          go_wp2_with (first
            | (at_builtin; refine wpList_append_lies _ (by rfl) (.tmp 53) (.tmp 55) 29 (by rfl) (w1.heap.size + 1) 57 t0 (.agg #[.string ByteArray.empty, .int .i64 0, .int .i64 0, .string ByteArray.empty, .string ByteArray.empty]) 5 64 Tryz.underlying29 ht0 hq0 hq1 hq2 rfl (by omega) _ 0 _ (by rfl) (HOX.out.alloc _) ⟨w2.heap.size + 1, 0, none⟩ 1 1 [.string hr, .int .i64 hbf, .int .i64 lv, .string tx, .string mo] (by rfl) (by rfl) ?d1 ?d2 (by omega) ?d3 ?d5 ?d4 (w2.heap.size + 2) ?d6 ?_))
          case d1 => exact newC5 _ (by simp) _ _ _ _ _ _
          case d2 => intro u hu; simp at hu; rcases hu with rfl | rfl | rfl | rfl | rfl <;> rfl
          case d3 => unfold maxLen; omega
          case d5 => omega
          case d4 => simp; omega
          case d6 => simp
          · intro g3 cap3 w3 hown3 hgrow3 _ _
            have HB3 : Hid (Below W.heap.size W w3) := ownC_grown_below (below_then HBX.out (below_one _)) (by rw [HWS.out]; simp; omega) (HOX.out.alloc _) (by rw [HWS.out]; exact Nat.le_refl _) hgrow3
            have HO3 : Hid (w3.ownsRow (w1.heap.size + 1) 57 5 (.slice (some ⟨g3, 0, none⟩) 1 cap3) 1 (rulC [Rl.mk hr hbf lv tx mo])) := hown3
            clear hown3 hgrow3
            go_wp2
            go_roundw
            case rel => exact ⟨[Rl.mk hr hbf lv tx mo], pl, HCN, hrt1, by simp; omega, by omega, rfl, HB3.out, HO3.out⟩
            case measure => simp [intOf]; omega
        · have HBAD : Hid (CR s i [] pl fe) := ⟨hrt1, .inl ⟨hfe, fun st out hp => by
            have := chain_bad HCA.out (fun h => absurd rfl h) (by rw [← HQR.out]; exact hfe) st out hp
            rw [← HQR.out] at this
            exact this⟩⟩
          have hfe' : (fe == 0) = false := beq_eq_false_iff_ne.2 hfe
          clear hrt2 hfe
          go_wp2_with fail
          refine (HCR.out _).mono ?_
          rintro e w2 ⟨rfl, hb2⟩
          go_wp2
          go_ret3
          exact ⟨[], _, pl, fe, rfl, HBAD, World.ownsRow_nil _ _ _ _, below_then HBr.out (below_then hb2 (below_one _))⟩
      · have hL0 : L.length ≠ 0 := fun h => hL (List.eq_nil_of_length_eq_zero h)
        have hLn : ((L.length : Int) == 0) = false := beq_eq_false_iff_ne.2 (by omega)
        have HL : Hid (L ≠ []) := hL
        clear hL
        obtain ⟨bb, hbb⟩ : ∃ x, x = decide ((tk s a).kind = 3) := ⟨_, rfl⟩
        have HRF : Hid (∀ w, Calls Tryz.prog 105 #[.string s, .int .i64 (a : Nat)] w fun e w' => e = .returned (.bool bb) ∧ Below w.heap.size w w') := fun w => by rw [hbb]; exact relationFollows_any s a w hs has
        by_cases hk3 : (tk s a).kind = 3
        · have hb3 : bb = true := by rw [hbb]; simp [hk3]
          subst hb3
          clear hbb
          go_wp2_with fail
          refine (HRF.out _).mono ?_
          rintro e w8 ⟨rfl, hb8⟩
          have HB8 : Hid (Below W.heap.size W w8) := below_then hbel hb8
          have HO8 : Hid (w8.ownsRow (w1.heap.size + 1) 57 5 (.slice vo9 L.length vc9) L.length (rulC L)) := ownC_below HOW.out hb8
          have hz8 := hb8.size
          clear hb8
          by_cases hfe : fe = 0
          · subst hfe
            have hpl := hrt2 rfl
            have HCN : Hid (Chain s i pl (L ++ [Rl.mk rs be lv tx mo])) := by
              have := chain_more HCA.out (fun _ => hk3) (by rw [← HQR.out])
              rw [← HQR.out] at this
              unfold addR at this
              rw [if_neg HL.out] at this
              exact this
            clear hrt2 hk3
            go_wp2_with fail
            refine (HCR.out _).mono ?_
            rintro e w2 ⟨rfl, hb2⟩
            have HB2 : Hid (Below W.heap.size W w2) := below_then HB8.out hb2
            have HOX : Hid ((w2.alloc (.cells #[.string rs, .int .i64 be, .int .i64 lv, .string tx, .string mo] 57)).ownsRow (w1.heap.size + 1) 57 5 (.slice vo9 L.length vc9) L.length (rulC L)) := (ownC_below HO8.out hb2).alloc _
            have hz2 := hb2.size
            have HBX : Hid (Below W.heap.size W (w2.alloc (.cells #[.string rs, .int .i64 be, .int .i64 lv, .string tx, .string mo] 57))) := below_then HB2.out (below_one _)
            clear hb2
            go_wp2_with (first
              | (at_builtin; refine wpList_append_lies _ (by rfl) (.tmp 53) (.tmp 55) 29 (by rfl) (w1.heap.size + 1) 57 t0 (.agg #[.string ByteArray.empty, .int .i64 0, .int .i64 0, .string ByteArray.empty, .string ByteArray.empty]) 5 64 Tryz.underlying29 ht0 hq0 hq1 hq2 rfl (by omega) _ L.length _ (by rfl) (HOX.out.alloc _) ⟨w2.heap.size + 1, 0, none⟩ 1 1 [.string rs, .int .i64 be, .int .i64 lv, .string tx, .string mo] (by rfl) (by rfl) ?d1 ?d2 (by omega) ?d3 ?d5 ?d4 (w2.heap.size + 2) ?d6 ?_))
            case d1 => exact newC5 _ (by simp) _ _ _ _ _ _
            case d2 => intro u hu; simp at hu; rcases hu with rfl | rfl | rfl | rfl | rfl <;> rfl
            case d3 => unfold maxLen; omega
            case d5 => omega
            case d4 => simp; omega
            case d6 => simp
            · intro g3 cap3 w3 hown3 hgrow3 _ _
              have HB3 : Hid (Below W.heap.size W w3) := ownC_grown_below (below_then HBX.out (below_one _)) (by rw [HWS.out]; simp; omega) (HOX.out.alloc _) (by rw [HWS.out]; exact Nat.le_refl _) hgrow3
              have HO3 : Hid (w3.ownsRow (w1.heap.size + 1) 57 5 (.slice (some ⟨g3, 0, none⟩) (L.length + 1) cap3) (L ++ [Rl.mk rs be lv tx mo]).length (rulC (L ++ [Rl.mk rs be lv tx mo]))) := by
                show World.ownsRow _ _ _ _ _ _ _
                rw [rulC_snoc, List.length_append]
                exact hown3
              clear hown3 hgrow3
              go_wp2
              go_roundw
              case rel => exact ⟨L ++ [Rl.mk rs be lv tx mo], pl, HCN, hrt1, by simp; omega, by omega, rfl, HB3.out, HO3.out⟩
              case measure => simp [intOf]; omega
          · have HBAD : Hid (CR s i [] pl fe) := ⟨hrt1, .inl ⟨hfe, fun st out hp => by
              have := chain_bad HCA.out (fun _ => hk3) (by rw [← HQR.out]; exact hfe) st out hp
              rw [← HQR.out] at this
              exact this⟩⟩
            have hfe' : (fe == 0) = false := beq_eq_false_iff_ne.2 hfe
            clear hrt2 hfe hk3
            go_wp2_with fail
            refine (HCR.out _).mono ?_
            rintro e w2 ⟨rfl, hb2⟩
            have HB2 : Hid (Below w.heap.size w w2) := below_then HBW.out (below_then HB8.out hb2)
            clear hb2
            go_wp2
            go_ret3
            exact ⟨[], _, pl, fe, rfl, HBAD, World.ownsRow_nil _ _ _ _, below_then HB2.out (below_one _)⟩
        · have hb3 : bb = false := by rw [hbb]; simp [hk3]
          subst hb3
          have HEND : Hid (CR s i L a 0) := ⟨has, .inr ⟨rfl, HL.out, hLa, hia', chain_end HCA.out HL.out has hk3⟩⟩
          clear hbb hk3
          go_wp2_with fail
          refine (HRF.out _).mono ?_
          rintro e w8 ⟨rfl, hb8⟩
          have HO8 : Hid (w8.ownsRow w.heap.size 57 5 (.slice vo9 L.length vc9) L.length (rulC L)) := ownC_base (ownC_below HOW.out hb8) (by omega)
          have HB8 : Hid (Below w.heap.size w w8) := below_then HBr.out hb8
          clear hb8
          go_wp2
          go_ret3
          exact ⟨L, _, a, 0, rfl, HEND, HO8, HB8.out⟩
  · have HBAD : Hid (CR s i [] ha he) := ⟨hto1, .inl ⟨he0, fun st out hp => by
      have := (rh_rd (out := out) hp.1 hp.2).1 (by rw [← HQ.out]; exact he0)
      rw [← HQ.out] at this
      exact this⟩⟩
    have he' : (he == 0) = false := beq_eq_false_iff_ne.2 he0
    clear hto2 he0
    go_enter Tryz.func79, Tryz.ntmps79
    go_wp2_with fail
    refine (HC.out _).mono ?_
    rintro e w1 ⟨rfl, hb1⟩
    go_wp2
    go_ret3
    exact ⟨[], _, ha, he, rfl, HBAD, World.ownsRow_nil _ _ _ _, below_then hb1 (below_one _)⟩

end Go.Proofs.YtpclldccjpncdabGreat

namespace Go.Proofs.YtpclldccjpncdabGreat
open Go.RowKit

theorem whole_start {s : ByteArray} {a : Nat} (ha : a ≤ s.size) : Whole s 0 a := by
  refine ⟨ha, .inl rfl, fun h1 h7 => ?_⟩
  generalize (tk s a).kind = k at *
  unfold thn
  repeat' split
  all_goals first | rfl | (exfalso; omega)
theorem whole_skp {s : ByteArray} {st a : Nat} (h : Whole s st a) : Whole s st (skp s a) := by
  refine ⟨skp_le h.1, h.2.1, ?_⟩
  rw [tk_skp]
  exact h.2.2
theorem kind_in {s : ByteArray} {a : Nat} (h : skp s a = a) : (tk s a).kind = 7 ↔ s.size ≤ a := by
  unfold tk
  rw [h]
  exact tkA_end
theorem rdAll_in {s : ByteArray} (h : ¬ 120 < s.size) : rdAll s = rd s ⟨0, skp s 0, default, []⟩ := by
  unfold rdAll
  rw [if_neg h, rd_skp]
theorem rd_whole_end {s : ByteArray} {st a : Nat} {L : List Rl} (hw : Whole s st a) (h : (tk s a).kind = 7) : rd s ⟨st, a, default, L⟩ = (L, 0, 0) := by
  refine rd_end (S := ⟨st, a, default, L⟩) ?_
  show thn st (tk s a).kind = some 8
  rw [h]
  unfold thn
  rw [if_neg (by decide), if_neg (by decide), if_neg (by decide), if_neg (by decide), if_pos rfl, if_pos hw.2.1]

set_option maxRecDepth 100000 in
set_option maxHeartbeats 2000000 in
theorem ruleRead_any (s : ByteArray) (w : World) (hs : s.size ≤ 140737488351232) :
    Calls Tryz.prog 53 #[.string s] w fun e w' => ∃ (L : List Rl) (v : Value) (a : Nat) (er : Int), e = .returned (.tuple #[v, .int .i64 er, .int .i64 (a : Nat)]) ∧ Hid (rdAll s = (L, er, a) ∧ L.length ≤ 120) ∧ Hid (w'.ownsRow w.heap.size 57 5 v L.length (rulC L)) ∧ Below w.heap.size w w' := by
  obtain ⟨t0, ht0, hq0, hq1, hq2⟩ := info_parts infoRulC
  by_cases h120 : 120 < s.size
  · have HE : Hid (rdAll s = ([], 4, 0) ∧ ([] : List Rl).length ≤ 120) := ⟨by unfold rdAll; rw [if_pos h120], by simp⟩
    go_enter Tryz.func53, Tryz.ntmps53
    go_wp2
    go_ret3
    exact ⟨[], _, 0, 4, rfl, HE, World.ownsRow_nil _ _ _ _, Below.refl _ _⟩
  · have hsz : s.size ≤ 120 := by omega
    obtain ⟨a0, ha0⟩ : ∃ a, a = skp s 0 := ⟨_, rfl⟩
    have HS0 : Hid (∀ w, Calls Tryz.prog 78 #[.string s, .int .i64 0] w fun e w' => e = .returned (.int .i64 (a0 : Nat)) ∧ w' = w) := fun w => by rw [ha0]; exact behindSpaces_any s 0 w hs (Nat.zero_le _)
    have hle0 : a0 ≤ s.size := by rw [ha0]; exact skp_le (Nat.zero_le _)
    have HI0 : Hid (rdAll s = rd s ⟨0, a0, default, []⟩ ∧ Whole s 0 a0) := ⟨by rw [ha0]; exact rdAll_in h120, whole_start hle0⟩
    have HK0 : Hid (skp s a0 = a0) := by show _ = _; rw [ha0, skp_skp]
    clear ha0
    go_enter Tryz.func53, Tryz.ntmps53
    go_wp2_with fail
    refine (HS0.out _).mono ?_
    rintro e w1 ⟨rfl, hw1⟩
    obtain rfl := hw1.symm
    clear hw1
    go_wp2
    go_loopw [5, 6] (fun v av wr => ∃ (L : List Rl) (a st : Nat), Hid (rdAll s = rd s ⟨st, a, default, L⟩ ∧ Whole s st a) ∧ Hid (skp s a = a) ∧ a ≤ s.size ∧ L.length ≤ a ∧ av = .int .i64 (a : Nat) ∧ Below w.heap.size w wr ∧ wr.ownsRow w.heap.size 57 5 v L.length (rulC L)) (fun _ av _ => s.size - (intOf av).toNat)
    case atStart => exact ⟨[], a0, 0, HI0, HK0, hle0, by simp, rfl, Below.refl _ _, World.ownsRow_nil _ _ _ _⟩
    case round =>
      obtain ⟨L, a, st, HI, HK, has, hLa, rfl, hbel, hown⟩ := hrel
      obtain ⟨vo9, vc9, hv9⟩ := ownC_shape hown
      subst hv9
      have HOW : Hid (wr.ownsRow w.heap.size 57 5 (.slice vo9 L.length vc9) L.length (rulC L)) := hown
      clear hown
      have hszw := hbel.size
      have HBr : Hid (Below w.heap.size w wr) := hbel
      by_cases hlt : a < s.size
      · have HP : Hid (Pre s st a) := ⟨HI.out.2, fun h => by have := (kind_in HK.out).1 h; omega⟩
        have HCC : Hid (∀ w, Calls Tryz.prog 79 #[.string s, .int .i64 (a : Nat)] w fun e w' => ∃ (L : List Rl) (v : Value) (pl : Nat) (er : Int), e = .returned (.tuple #[v, .int .i64 (pl : Nat), .int .i64 er]) ∧ Hid (CR s a L pl er) ∧ Hid (w'.ownsRow w.heap.size 57 5 v L.length (rulC L)) ∧ Below w.heap.size w w') := fun w => readChain_any s a w (by omega) has
        go_wp2_with fail
        refine (HCC.out _).mono ?_
        rintro e w2 ⟨C, v2, pl, er, rfl, HCR, HO2, hb2⟩
        have hz2 := hb2.size
        have HB2 : Hid (Below w.heap.size w w2) := below_then hbel hb2
        have hpls := HCR.out.1
        by_cases her : er = 0
        · obtain ⟨hC, hCl, hapl, HN⟩ : C ≠ [] ∧ C.length ≤ pl - a ∧ a < pl ∧ Hid (∃ st', Whole s st' pl ∧ ∀ st out, Pre s st a → rd s ⟨st, a, default, out⟩ = rd s ⟨st', pl, default, out ++ C⟩) := by
            rcases HCR.out.2 with h | h
            · exact absurd her h.1
            · exact ⟨h.2.1, h.2.2.1, h.2.2.2.1, h.2.2.2.2⟩
          subst her
          have hC0 : 0 < C.length := by
            rcases Nat.eq_zero_or_pos C.length with h | h
            · exact absurd (List.eq_nil_of_length_eq_zero h) hC
            · exact h
          obtain ⟨vo, vc, gv, hv2, hva, hvc⟩ := ownC_cells HO2.out
          have hvo := (hva hC0).1
          subst hvo
          subst hv2
          have HOA : Hid (w2.ownsRow w.heap.size 57 5 (.slice vo9 L.length vc9) L.length (rulC L)) := ownC_below HOW.out hb2
          have HNW : Hid (∀ (j : Nat) (u : Value), (rulC C)[j]? = some u → w2.cell? ((⟨gv, 0, none⟩ : Addr).add j) = some u) := fun j u hu => by
            have hj : j < C.length * 5 := by rw [← rulC_len]; exact (List.getElem?_eq_some_iff.1 hu).1
            have := hvc j u hj hu
            by_cases h0 : j = 0
            · subst h0
              simpa [Addr.add] using this
            · simpa [Addr.add, h0] using this
          have HLC : Hid ((rulC C).length = C.length * 5) := rulC_len C
          obtain ⟨a2, ha2⟩ : ∃ x, x = skp s pl := ⟨_, rfl⟩
          have HSP : Hid (∀ w, Calls Tryz.prog 78 #[.string s, .int .i64 (pl : Nat)] w fun e w' => e = .returned (.int .i64 (a2 : Nat)) ∧ w' = w) := fun w => by rw [ha2]; exact behindSpaces_any s pl w hs hpls
          have hle2 : a2 ≤ s.size := by rw [ha2]; exact skp_le hpls
          have hge2 : pl ≤ a2 := by rw [ha2]; exact skp_ge s pl
          have HK2 : Hid (skp s a2 = a2) := by show _ = _; rw [ha2, skp_skp]
          have HI2 : Hid (∃ st', rdAll s = rd s ⟨st', a2, default, L ++ C⟩ ∧ Whole s st' a2) := by
            obtain ⟨st', h1, h2⟩ := HN.out
            refine ⟨st', ?_, by rw [ha2]; exact whole_skp h1⟩
            rw [HI.out.1, h2 st L HP.out, rd_skp, ← ha2]
          clear hva hvc ha2 hC hb2
          go_wp2_with (first
            | (at_builtin; refine wpList_append_lies _ (by rfl) (.tmp 30) (.tmp 31) 29 (by rfl) w.heap.size 57 t0 (.agg #[.string ByteArray.empty, .int .i64 0, .int .i64 0, .string ByteArray.empty, .string ByteArray.empty]) 5 64 Tryz.underlying29 ht0 hq0 hq1 hq2 rfl (by omega) _ L.length _ (by rfl) HOA.out ⟨gv, 0, none⟩ C.length vc (rulC C) (by rfl) HLC.out HNW.out ?d2 hC0 ?d3 ?d5 ?d4 w2.heap.size rfl ?_))
          case d2 => exact rulC_one C
          case d3 => unfold maxLen; omega
          case d5 => omega
          case d4 => omega
          · intro g3 cap3 w3 hown3 hgrow3 _ _
            have HB3 : Hid (Below w.heap.size w w3) := ownC_grown_below HB2.out (by omega) HOA.out (Nat.le_refl _) hgrow3
            have HO3 : Hid (w3.ownsRow w.heap.size 57 5 (.slice (some ⟨g3, 0, none⟩) (L.length + C.length) cap3) (L ++ C).length (rulC (L ++ C))) := by
              show World.ownsRow _ _ _ _ _ _ _
              rw [rulC_app, List.length_append]
              exact hown3
            clear hown3 hgrow3
            go_wp2_with fail
            refine (HSP.out _).mono ?_
            rintro e w4 ⟨rfl, hw4⟩
            obtain rfl := hw4.symm
            clear hw4
            go_wp2
            go_roundw
            case rel =>
              obtain ⟨st', h1, h2⟩ := HI2.out
              exact ⟨L ++ C, a2, st', ⟨h1, h2⟩, HK2, hle2, by rw [List.length_append]; omega, rfl, HB3.out, HO3.out⟩
            case measure => simp [intOf]; omega
        · have HE : Hid (rdAll s = ([], er, pl) ∧ ([] : List Rl).length ≤ 120) := by
            rcases HCR.out.2 with h | h
            · exact ⟨by rw [HI.out.1]; exact h.2 st L HP.out, by simp⟩
            · exact absurd h.1 her
          have her' : (er == 0) = false := beq_eq_false_iff_ne.2 her
          clear her hb2
          go_wp2
          go_ret3
          exact ⟨[], _, pl, er, rfl, HE, World.ownsRow_nil _ _ _ _, HB2.out⟩
      · have HE : Hid (rdAll s = (L, 0, 0) ∧ L.length ≤ 120) := ⟨by rw [HI.out.1]; exact rd_whole_end HI.out.2 ((kind_in HK.out).2 (by omega)), by omega⟩
        go_wp2
        go_ret3
        exact ⟨L, _, 0, 0, rfl, HE, HOW, HBr.out⟩

set_option maxHeartbeats 400000 in
theorem read_any (s : ByteArray) (w : World) (hs : s.size ≤ 140737488351232) :
    Calls Tryz.prog 29 #[.string s] w fun e w' => ∃ (L : List Rl) (v : Value) (a : Nat) (er : Int), e = .returned (.tuple #[v, .int .i64 er, .int .i64 (a : Nat)]) ∧ Hid (rdAll s = (L, er, a) ∧ L.length ≤ 120) ∧ Hid (w'.ownsRow w.heap.size 57 5 v L.length (rulC L)) ∧ Below w.heap.size w w' := by
  have HC : Hid (∀ w, Calls Tryz.prog 53 #[.string s] w fun e w' => ∃ (L : List Rl) (v : Value) (a : Nat) (er : Int), e = .returned (.tuple #[v, .int .i64 er, .int .i64 (a : Nat)]) ∧ Hid (rdAll s = (L, er, a) ∧ L.length ≤ 120) ∧ Hid (w'.ownsRow w.heap.size 57 5 v L.length (rulC L)) ∧ Below w.heap.size w w') := fun w => ruleRead_any s w hs
  go_enter Tryz.func29, Tryz.ntmps29
  go_wp2_with fail
  refine (HC.out _).mono ?_
  rintro e w1 ⟨L, v, a, er, rfl, HE, HO, hb⟩
  go_wp2
  go_ret3
  exact ⟨L, v, a, er, rfl, HE, HO, hb⟩

end Go.Proofs.YtpclldccjpncdabGreat

namespace Go.Proofs.YtpclldccjpncdabGreat
open Go.RowKit

def thnI (st k : Nat) : Int := match thn st k with
  | none => -1
  | some x => (x : Nat)
set_option maxRecDepth 100000 in
set_option maxHeartbeats 4000000 in
theorem refThen_any (st k : Nat) (w : World) (hst : st ≤ 7) (hk1 : 1 ≤ k) (hk7 : k ≤ 7) :
    Calls Tryz.prog 55 #[.int .i64 (st : Nat), .int .i64 (k : Nat)] w fun e w' => e = .returned (.int .i64 (thnI st k)) ∧ w' = w := by
  have h1 : st = 0 ∨ st = 1 ∨ st = 2 ∨ st = 3 ∨ st = 4 ∨ st = 5 ∨ st = 6 ∨ st = 7 := by omega
  have h2 : k = 1 ∨ k = 2 ∨ k = 3 ∨ k = 4 ∨ k = 5 ∨ k = 6 ∨ k = 7 := by omega
  rcases h1 with rfl | rfl | rfl | rfl | rfl | rfl | rfl | rfl <;> rcases h2 with rfl | rfl | rfl | rfl | rfl | rfl | rfl
  all_goals
    go_enter Tryz.func55, Tryz.ntmps55
    go_wp2
    go_ret
    exact ⟨rfl, rfl⟩
theorem tk_k7 (s : ByteArray) (i : Nat) : 1 ≤ (tk s i).kind ∧ (tk s i).kind ≤ 7 := by
  have := tkA_kind s (skp s i)
  unfold tk
  omega
theorem thn_range {st k st' : Nat} (h : thn st k = some st') : st' = 1 ∨ st' = 2 ∨ st' = 3 ∨ st' = 4 ∨ st' = 5 ∨ st' = 6 ∨ st' = 7 ∨ st' = 8 := by
  unfold thn at h
  repeat' split at h
  all_goals first
    | (injection h with h; omega)
    | (cases h; done)
theorem thn_6 {st k : Nat} (h : thn st k = some 6) : st = 5 := by
  unfold thn at h
  repeat' split at h
  all_goals first
    | assumption
    | (injection h with h; omega)
    | (cases h; done)
theorem thn_7 {st k : Nat} (h : thn st k = some 7) : st = 6 := by
  unfold thn at h
  repeat' split at h
  all_goals first
    | assumption
    | (injection h with h; omega)
    | (cases h; done)
theorem tk_fin7 {s : ByteArray} {i : Nat} (h : (tk s i).kind = 7) : (tk s i).fin = (tk s i).at' := by
  have h1 := tkA_end.1 h
  unfold tk tkA
  rw [if_pos h1]
def rlF (x : Rl) : Nat → Value := fun j => #[Value.string x.reset, .int .i64 x.before, .int .i64 x.level, .string x.text, .string x.more].getD j undef
theorem own_setN {w : World} {base : Nat} {e : TypeId} {size g cap n : Nat} {xs : List Value} (h : w.ownsRow base e size (.slice (some ⟨g, 0, none⟩) n cap) n xs) {q : Nat} (x : Value) : (w.setCell ⟨g, q, none⟩ x).ownsRow base e size (.slice (some ⟨g, 0, none⟩) n cap) n (xs.set q x) := by
  obtain ⟨hl, h2⟩ := h
  rcases h2 with ⟨hv, _⟩ | ⟨g', cap', cur, hv, hbg, hg, hnc, hcm, hcs, htake⟩
  · cases hv
  · cases hv
    refine ⟨by simpa using hl, .inr ⟨g, cap, cur.setIfInBounds q x, rfl, hbg, ?_, hnc, hcm, by simpa using hcs, ?_⟩⟩
    · simp [World.setCell, Array.getElem?_modify, hg]
    · rw [← htake, Array.toList_setIfInBounds, List.take_set]
theorem own_frozenN {w : World} {base : Nat} {e : TypeId} {size g cap n : Nat} {xs : List Value} (h : w.ownsRow base e size (.slice (some ⟨g, 0, none⟩) n cap) n xs) (q : Nat) : w.frozen? ⟨g, q, none⟩ = false := by
  obtain ⟨hl, h2⟩ := h
  rcases h2 with ⟨hv, _⟩ | ⟨g', cap', cur, hv, hbg, hg, hnc, hcm, hcs, htake⟩
  · cases hv
  · cases hv
    simp [World.frozen?, hg]
theorem rulC_more (y : List Rl) (x : Rl) (m : ByteArray) : (rulC (y ++ [x])).set (y.length * 5 + 4) (.string m) = rulC (setMore (y ++ [x]) m) := by
  rw [setMore_snoc, rulC_snoc, rulC_snoc, List.set_append_right _ _ (by rw [rulC_len]; omega), rulC_len, Nat.add_sub_cancel_left]
  rfl

set_option maxRecDepth 100000 in
set_option maxHeartbeats 4000000 in
theorem refRead_any (s : ByteArray) (w : World) (hs : s.size ≤ 140737488351232) :
    Calls Tryz.prog 30 #[.string s] w fun e w' => ∃ (L : List Rl) (v : Value) (a : Nat) (er : Int), e = .returned (.tuple #[v, .int .i64 er, .int .i64 (a : Nat)]) ∧ Hid (rdAll s = (L, er, a) ∧ L.length ≤ 120) ∧ Hid (w'.ownsRow w.heap.size 57 5 v L.length (rulC L)) ∧ Below w.heap.size w w' := by
  obtain ⟨i0, hi0, hq0, hq1, hq2⟩ := info_parts infoRulC
  by_cases h120 : 120 < s.size
  · have HE : Hid (rdAll s = ([], 4, 0) ∧ ([] : List Rl).length ≤ 120) := ⟨by unfold rdAll; rw [if_pos h120], by simp⟩
    go_enter Tryz.func30, Tryz.ntmps30
    go_wp2
    go_ret3
    exact ⟨[], _, 0, 4, rfl, HE, World.ownsRow_nil _ _ _ _, Below.refl _ _⟩
  · have hsz : s.size ≤ 120 := by omega
    obtain ⟨W, hW⟩ : ∃ W, W = w.alloc (.cells #[.string ByteArray.empty, .int .i64 0, .int .i64 0, .string ByteArray.empty, .string ByteArray.empty] 57) := ⟨_, rfl⟩
    have HW : Hid (W = w.alloc (.cells #[.string ByteArray.empty, .int .i64 0, .int .i64 0, .string ByteArray.empty, .string ByteArray.empty] 57)) := hW
    have HR0 : Hid (W.rowIs w.heap.size 57 5 (rlF default)) := by show World.rowIs _ _ _ _ _; rw [hW]; exact row_new _ _ _ 5 rfl
    have HB0 : Hid (Below w.heap.size w W) := by show Below _ _ _; rw [hW]; exact below_one _
    have HI0 : Hid (rdAll s = if 0 = 8 then (([] : List Rl), (0 : Int), 0) else rd s ⟨0, 0, default, []⟩) := by show _ = _; unfold rdAll; rw [if_neg h120, if_neg (by decide)]
    have HS0 : Hid (w.heap.size + 1 ≤ W.heap.size) := by show _ ≤ _; rw [hW]; simp
    clear hW
    have d0 : decide (120 < s.size) = false := by simp; omega
    have d1 : decide ((120 : Int) < (s.size : Int)) = false := by simp; omega
    go_enter Tryz.func30, Tryz.ntmps30
    go_wp2
    go_loopw [5, 7, 8] (fun v sv iv wr => ∃ (st i : Nat) (nx : Rl) (out : List Rl), Hid (rdAll s = if st = 8 then (out, (0 : Int), 0) else rd s ⟨st, i, nx, out⟩) ∧ Hid ((st = 5 ∨ st = 6 ∨ st = 7) → out ≠ []) ∧ st ≤ 8 ∧ i ≤ s.size ∧ out.length ≤ i ∧ sv = .int .i64 (st : Nat) ∧ iv = .int .i64 (i : Nat) ∧ Below w.heap.size w wr ∧ Hid (wr.rowIs w.heap.size 57 5 (rlF nx)) ∧ wr.ownsRow (w.heap.size + 1) 57 5 v out.length (rulC out)) (fun _ sv iv _ => 2 * (s.size - (intOf iv).toNat) + (if intOf sv = 8 then 0 else 1))
    case atStart => exact ⟨0, 0, default, [], HI0, (fun h => by omega), by omega, by omega, by simp, rfl, rfl, by have h := HB0.out; rw [HW.out] at h; exact h, by have h := HR0.out; rw [HW.out] at h; exact h, World.ownsRow_nil _ _ _ _⟩
    case round =>
      obtain ⟨st, i, nx, out, HI, HOUTS, hst8, hi, hLi, rfl, rfl, hbel, HRN, hown⟩ := hrel
      obtain ⟨vo9, vc9, hv9⟩ := ownC_shape hown
      subst hv9
      have HOW : Hid (wr.ownsRow (w.heap.size + 1) 57 5 (.slice vo9 out.length vc9) out.length (rulC out)) := hown
      clear hown
      have hszw : w.heap.size + 1 ≤ wr.heap.size := HRN.out.lt
      by_cases h8 : st = 8
      · subst h8
        have HE : Hid (rdAll s = (out, 0, 0) ∧ out.length ≤ 120) := ⟨by rw [HI.out, if_pos rfl], by omega⟩
        go_wp2
        go_ret3
        exact ⟨out, _, 0, 0, rfl, HE, ownC_base HOW.out (by omega), hbel⟩
      · have HRD : Hid (rdAll s = rd s ⟨st, i, nx, out⟩) := by show _ = _; rw [HI.out, if_neg h8]
        have h8' : ((st : Int) == 8) = false := beq_eq_false_iff_ne.2 (by omega)
        have h8m : ¬ ((st : Int) = 8) := by omega
        have hk17 := tk_k7 s i
        obtain ⟨hl1, hl2, hl3, hl4, hl5⟩ := tk_lim hi
        obtain ⟨t, ht⟩ : ∃ t, t = tk s i := ⟨_, rfl⟩
        rw [← ht] at hk17 hl1 hl5
        obtain ⟨kd, hkd⟩ : ∃ x, x = t.kind := ⟨_, rfl⟩
        obtain ⟨ka, hka⟩ : ∃ x, x = t.at' := ⟨_, rfl⟩
        obtain ⟨kf, hkf0⟩ : ∃ x, x = t.fin := ⟨_, rfl⟩
        obtain ⟨kn, hkn⟩ : ∃ x, x = t.n := ⟨_, rfl⟩
        obtain ⟨tx, htx⟩ : ∃ x, x = strOfNums t.tx := ⟨_, rfl⟩
        have HTK : Hid (∀ wz, Calls Tryz.prog 54 #[.string s, .int .i64 (i : Nat)] wz fun e w' => e = .returned (.agg #[.int .i64 (kd : Nat), .int .i64 (ka : Nat), .int .i64 (kf : Nat), .int .i64 (kn : Nat), .string tx]) ∧ Below wz.heap.size wz w') := fun wz => by
          rw [hkd, hka, hkf0, hkn, htx, ht]
          exact refToken_any s i wz (by omega) hi
        obtain ⟨r, hr⟩ : ∃ x, x = thnI st kd := ⟨_, rfl⟩
        have HTH : Hid (∀ wz, Calls Tryz.prog 55 #[.int .i64 (st : Nat), .int .i64 (kd : Nat)] wz fun e w' => e = .returned (.int .i64 r) ∧ w' = wz) := fun wz => by
          rw [hr]
          exact refThen_any st kd wz (by omega) (by omega) (by omega)
        have htl : tx.size = t.tx.length := by rw [htx, strOfNums_size]
        have htl2 : tx.size ≤ 1000 := by omega
        have hn3 : kn ≤ 3 := by rw [hkn, ht]; exact hl4
        have hka2 : ka ≤ s.size := by rw [hka]; exact hl1
        cases hthn : thn st kd with
        | none =>
          have hr1 : r = -1 := by rw [hr]; unfold thnI; rw [hthn]
          subst hr1
          have HE : Hid (rdAll s = ([], 8, ka) ∧ ([] : List Rl).length ≤ 120) := ⟨by
            rw [HRD.out, rd_bad (S := ⟨st, i, nx, out⟩) (by show thn st (tk s i).kind = none; rw [← ht, ← hkd]; exact hthn)]
            show (_, _, (tk s i).at') = _
            rw [← ht, ← hka], by simp⟩
          clear hk17 hl2 hl3 ht hkd hka hkf0 hkn htx hr hthn
          go_wp2_with fail
          refine (HTK.out _).mono ?_
          rintro e w1 ⟨rfl, hb1⟩
          have hz1 : w.heap.size + 1 ≤ w1.heap.size := by have := hb1.size; omega
          have HB1 : Hid (Below w.heap.size w w1) := below_then hbel hb1
          have HR1 : Hid (w1.rowIs w.heap.size 57 5 (rlF nx)) := HRN.out.of_block (hb1.block _ (by omega))
          have HO1 : Hid (w1.ownsRow (w.heap.size + 1) 57 5 (.slice vo9 out.length vc9) out.length (rulC out)) := ownC_below HOW.out hb1
          clear hb1
          go_wp2_with fail
          refine (HTH.out _).mono ?_
          rintro e w2 ⟨rfl, hw2⟩
          have HR2 : Hid (w2.rowIs w.heap.size 57 5 (rlF nx)) := by show World.rowIs _ _ _ _ _; rw [hw2]; exact HR1.out.alloc _
          have HO2 : Hid (w2.ownsRow (w.heap.size + 1) 57 5 (.slice vo9 out.length vc9) out.length (rulC out)) := by show World.ownsRow _ _ _ _ _ _ _; rw [hw2]; exact HO1.out.alloc _
          have HB2 : Hid (Below w.heap.size w w2) := by show Below _ _ _; rw [hw2]; exact below_then HB1.out (below_one _)
          have HT2 : Hid (w2.rowIs w1.heap.size 82 5 (fun j => (#[.int .i64 (kd : Nat), .int .i64 (ka : Nat), .int .i64 (kf : Nat), .int .i64 (kn : Nat), .string tx] : Array Value).getD j undef)) := by show World.rowIs _ _ _ _ _; rw [hw2]; exact row_new _ _ _ 5 rfl
          have hz2 : w2.heap.size = w1.heap.size + 1 := by rw [hw2]; simp
          obtain ⟨⟨t0, t1, t2, t3, t4⟩, _⟩ := row5F HT2.out
          have HZ2 : Hid (w2.heap.size = w1.heap.size + 1) := hz2
          clear hw2 hz2
          go_wp2
          go_region
          go_wp2
          go_ret3
          exact ⟨[], _, ka, 8, rfl, HE, World.ownsRow_nil _ _ _ _, HB2.out.drew⟩
        | some st' =>
          have hr1 : r = (st' : Nat) := by rw [hr]; unfold thnI; rw [hthn]
          subst hr1
          have hthn2 : thn (St.mk st i nx out).st (tk s (St.mk st i nx out).i).kind = some st' := by show thn st (tk s i).kind = _; rw [← ht, ← hkd]; exact hthn
          obtain ⟨lm, hlm⟩ : ∃ x, x = lim st' := ⟨_, rfl⟩
          by_cases hlong : lm < tx.size
          · have HE : Hid (rdAll s = ([], 9, ka) ∧ ([] : List Rl).length ≤ 120) := ⟨by
              rw [HRD.out, rd_part hthn2 (by show lim st' < (tk s i).tx.length; rw [← hlm, ← ht]; omega)]
              show (_, _, (tk s i).at') = _
              rw [← ht, ← hka], by simp⟩
            by_cases h5 : st' = 5
            · subst h5
              have hlm' : lm = 3 := hlm
              subst hlm'
              clear hk17 hl2 hl3 ht hkd hka hkf0 hkn htx hr hthn hthn2 hlm
              go_wp2_with fail
              refine (HTK.out _).mono ?_
              rintro e w1 ⟨rfl, hb1⟩
              have hz1 : w.heap.size + 1 ≤ w1.heap.size := by have := hb1.size; omega
              have HB1 : Hid (Below w.heap.size w w1) := below_then hbel hb1
              have HR1 : Hid (w1.rowIs w.heap.size 57 5 (rlF nx)) := HRN.out.of_block (hb1.block _ (by omega))
              have HO1 : Hid (w1.ownsRow (w.heap.size + 1) 57 5 (.slice vo9 out.length vc9) out.length (rulC out)) := ownC_below HOW.out hb1
              clear hb1
              go_wp2_with fail
              refine (HTH.out _).mono ?_
              rintro e w2 ⟨rfl, hw2⟩
              have HR2 : Hid (w2.rowIs w.heap.size 57 5 (rlF nx)) := by show World.rowIs _ _ _ _ _; rw [hw2]; exact HR1.out.alloc _
              have HO2 : Hid (w2.ownsRow (w.heap.size + 1) 57 5 (.slice vo9 out.length vc9) out.length (rulC out)) := by show World.ownsRow _ _ _ _ _ _ _; rw [hw2]; exact HO1.out.alloc _
              have HB2 : Hid (Below w.heap.size w w2) := by show Below _ _ _; rw [hw2]; exact below_then HB1.out (below_one _)
              have HT2 : Hid (w2.rowIs w1.heap.size 82 5 (fun j => (#[.int .i64 (kd : Nat), .int .i64 (ka : Nat), .int .i64 (kf : Nat), .int .i64 (kn : Nat), .string tx] : Array Value).getD j undef)) := by show World.rowIs _ _ _ _ _; rw [hw2]; exact row_new _ _ _ 5 rfl
              have hz2 : w2.heap.size = w1.heap.size + 1 := by rw [hw2]; simp
              obtain ⟨⟨t0, t1, t2, t3, t4⟩, _⟩ := row5F HT2.out
              have HZ2 : Hid (w2.heap.size = w1.heap.size + 1) := hz2
              clear hw2 hz2
              go_wp2
              go_region
              go_wp2
              go_ret3
              exact ⟨[], _, ka, 9, rfl, HE, World.ownsRow_nil _ _ _ _, HB2.out.drew⟩
            · have hlm' : lm = 6 := by rw [hlm]; unfold lim; rw [if_neg h5]
              subst hlm'
              have h5' : ((st' : Int) == 5) = false := beq_eq_false_iff_ne.2 (by omega)
              clear hk17 hl2 hl3 ht hkd hka hkf0 hkn htx hr hthn hthn2 hlm h5
              go_wp2_with fail
              refine (HTK.out _).mono ?_
              rintro e w1 ⟨rfl, hb1⟩
              have hz1 : w.heap.size + 1 ≤ w1.heap.size := by have := hb1.size; omega
              have HB1 : Hid (Below w.heap.size w w1) := below_then hbel hb1
              have HR1 : Hid (w1.rowIs w.heap.size 57 5 (rlF nx)) := HRN.out.of_block (hb1.block _ (by omega))
              have HO1 : Hid (w1.ownsRow (w.heap.size + 1) 57 5 (.slice vo9 out.length vc9) out.length (rulC out)) := ownC_below HOW.out hb1
              clear hb1
              go_wp2_with fail
              refine (HTH.out _).mono ?_
              rintro e w2 ⟨rfl, hw2⟩
              have HR2 : Hid (w2.rowIs w.heap.size 57 5 (rlF nx)) := by show World.rowIs _ _ _ _ _; rw [hw2]; exact HR1.out.alloc _
              have HO2 : Hid (w2.ownsRow (w.heap.size + 1) 57 5 (.slice vo9 out.length vc9) out.length (rulC out)) := by show World.ownsRow _ _ _ _ _ _ _; rw [hw2]; exact HO1.out.alloc _
              have HB2 : Hid (Below w.heap.size w w2) := by show Below _ _ _; rw [hw2]; exact below_then HB1.out (below_one _)
              have HT2 : Hid (w2.rowIs w1.heap.size 82 5 (fun j => (#[.int .i64 (kd : Nat), .int .i64 (ka : Nat), .int .i64 (kf : Nat), .int .i64 (kn : Nat), .string tx] : Array Value).getD j undef)) := by show World.rowIs _ _ _ _ _; rw [hw2]; exact row_new _ _ _ 5 rfl
              have hz2 : w2.heap.size = w1.heap.size + 1 := by rw [hw2]; simp
              obtain ⟨⟨t0, t1, t2, t3, t4⟩, _⟩ := row5F HT2.out
              have HZ2 : Hid (w2.heap.size = w1.heap.size + 1) := hz2
              clear hw2 hz2
              go_wp2
              go_region
              go_wp2
              go_ret3
              exact ⟨[], _, ka, 9, rfl, HE, World.ownsRow_nil _ _ _ _, HB2.out.drew⟩
          · have hst' : st' = 1 ∨ st' = 2 ∨ st' = 3 ∨ st' = 4 ∨ st' = 5 ∨ st' = 6 ∨ st' = 7 ∨ st' = 8 := thn_range hthn
            by_cases he8 : st' = 8
            · have hkf : kf ≤ s.size := by
                have hk7 := thn_end (by rw [← he8]; exact hthn)
                have h7 : (tk s i).kind = 7 := by rw [← ht, ← hkd]; exact hk7
                have hfin : (tk s i).fin = (tk s i).at' := tk_fin7 h7
                rw [hkf0, ht, hfin, ← ht]
                exact hl1
              have HNX : Hid (rdAll s = if 8 = 8 then (out, (0 : Int), 0) else rd s ⟨8, kf, nx, out⟩) := by
                show _ = _
                rw [if_pos rfl, HRD.out, rd_end (by rw [hthn2, he8])]
              have HOUT : Hid ((8 = 5 ∨ 8 = 6 ∨ 8 = 7) → out ≠ []) := fun h => by omega
              have hkfi : i ≤ kf := by
                have hk7 := thn_end (by rw [← he8]; exact hthn)
                have h7 : (tk s i).kind = 7 := by rw [← ht, ← hkd]; exact hk7
                have hfin : (tk s i).fin = (tk s i).at' := tk_fin7 h7
                rw [hkf0, ht, hfin, tk_at]
                exact skp_ge s i
              subst he8
              have hlm' : lm = 6 := hlm
              subst hlm'
              clear hk17 hl2 hl3 ht hkd hka hkf0 hkn htx hr hthn hthn2 hlm hst'
              go_wp2_with fail
              refine (HTK.out _).mono ?_
              rintro e w1 ⟨rfl, hb1⟩
              have hz1 : w.heap.size + 1 ≤ w1.heap.size := by have := hb1.size; omega
              have HB1 : Hid (Below w.heap.size w w1) := below_then hbel hb1
              have HR1 : Hid (w1.rowIs w.heap.size 57 5 (rlF nx)) := HRN.out.of_block (hb1.block _ (by omega))
              have HO1 : Hid (w1.ownsRow (w.heap.size + 1) 57 5 (.slice vo9 out.length vc9) out.length (rulC out)) := ownC_below HOW.out hb1
              clear hb1
              go_wp2_with fail
              refine (HTH.out _).mono ?_
              rintro e w2 ⟨rfl, hw2⟩
              have HR2 : Hid (w2.rowIs w.heap.size 57 5 (rlF nx)) := by show World.rowIs _ _ _ _ _; rw [hw2]; exact HR1.out.alloc _
              have HO2 : Hid (w2.ownsRow (w.heap.size + 1) 57 5 (.slice vo9 out.length vc9) out.length (rulC out)) := by show World.ownsRow _ _ _ _ _ _ _; rw [hw2]; exact HO1.out.alloc _
              have HB2 : Hid (Below w.heap.size w w2) := by show Below _ _ _; rw [hw2]; exact below_then HB1.out (below_one _)
              have HT2 : Hid (w2.rowIs w1.heap.size 82 5 (fun j => (#[.int .i64 (kd : Nat), .int .i64 (ka : Nat), .int .i64 (kf : Nat), .int .i64 (kn : Nat), .string tx] : Array Value).getD j undef)) := by show World.rowIs _ _ _ _ _; rw [hw2]; exact row_new _ _ _ 5 rfl
              have hz2 : w2.heap.size = w1.heap.size + 1 := by rw [hw2]; simp
              obtain ⟨⟨t0, t1, t2, t3, t4⟩, _⟩ := row5F HT2.out
              have HZ2 : Hid (w2.heap.size = w1.heap.size + 1) := hz2
              clear hw2 hz2
              go_wp2
              go_roundw
              case rel => exact ⟨8, kf, nx, out, HNX, (fun h => by omega), by omega, hkf, by omega, by rfl, rfl, HB2.out, HR2, HO2.out⟩
              case measure => simp [intOf, h8m]; omega
            · have hgo := thn_go hthn he8
              have hto := tk_to (s := s) (i := i) (by rw [← ht, ← hkd]; exact hgo.1)
              rw [← ht, ← hkf0] at hto
              obtain ⟨hkfi, hkf, _⟩ := hto
              have hstep : rdAll s = rd s (adv ⟨st, i, nx, out⟩ st' t) := by
                rw [HRD.out, rd_step hthn2 (by show ¬ lim st' < (tk s i).tx.length; rw [← hlm, ← ht, ← htl]; exact hlong) he8]
                show rd s (adv _ st' (tk s i)) = _
                rw [← ht]
              have HSTEP : Hid (∀ q, st' = q → rdAll s = rd s (adv ⟨st, i, nx, out⟩ q t)) := fun q hq => by rw [← hq]; exact hstep
              clear hstep
              rcases hst' with h1 | h1 | h1 | h1 | h1 | h1 | h1 | h1
              · have HNX : Hid (rdAll s = if 1 = 8 then (out, (0 : Int), 0) else rd s ⟨1, kf, nx, out⟩) := by
                  show _ = _
                  rw [if_neg (by decide), HSTEP.out 1 h1, hkf0]
                  rfl
                have hlm' : lm = 6 := by rw [hlm, h1]; rfl
                subst h1
                subst hlm'
                clear hk17 hl2 hl3 ht hkd hka hkf0 hkn htx hr hthn hthn2 hlm he8 hgo
                go_wp2_with fail
                refine (HTK.out _).mono ?_
                rintro e w1 ⟨rfl, hb1⟩
                have hz1 : w.heap.size + 1 ≤ w1.heap.size := by have := hb1.size; omega
                have HB1 : Hid (Below w.heap.size w w1) := below_then hbel hb1
                have HR1 : Hid (w1.rowIs w.heap.size 57 5 (rlF nx)) := HRN.out.of_block (hb1.block _ (by omega))
                have HO1 : Hid (w1.ownsRow (w.heap.size + 1) 57 5 (.slice vo9 out.length vc9) out.length (rulC out)) := ownC_below HOW.out hb1
                clear hb1
                go_wp2_with fail
                refine (HTH.out _).mono ?_
                rintro e w2 ⟨rfl, hw2⟩
                have HR2 : Hid (w2.rowIs w.heap.size 57 5 (rlF nx)) := by show World.rowIs _ _ _ _ _; rw [hw2]; exact HR1.out.alloc _
                have HO2 : Hid (w2.ownsRow (w.heap.size + 1) 57 5 (.slice vo9 out.length vc9) out.length (rulC out)) := by show World.ownsRow _ _ _ _ _ _ _; rw [hw2]; exact HO1.out.alloc _
                have HB2 : Hid (Below w.heap.size w w2) := by show Below _ _ _; rw [hw2]; exact below_then HB1.out (below_one _)
                have HT2 : Hid (w2.rowIs w1.heap.size 82 5 (fun j => (#[.int .i64 (kd : Nat), .int .i64 (ka : Nat), .int .i64 (kf : Nat), .int .i64 (kn : Nat), .string tx] : Array Value).getD j undef)) := by show World.rowIs _ _ _ _ _; rw [hw2]; exact row_new _ _ _ 5 rfl
                have hz2 : w2.heap.size = w1.heap.size + 1 := by rw [hw2]; simp
                obtain ⟨⟨t0, t1, t2, t3, t4⟩, _⟩ := row5F HT2.out
                have HZ2 : Hid (w2.heap.size = w1.heap.size + 1) := hz2
                clear hw2 hz2
                go_wp2
                go_roundw
                case rel => exact ⟨1, kf, nx, out, HNX, (fun h => by omega), by omega, hkf, by omega, by rfl, rfl, HB2.out, HR2, HO2.out⟩
                case measure => simp [intOf, h8m]; omega
              · have HNX : Hid (rdAll s = if 2 = 8 then (out, (0 : Int), 0) else rd s ⟨2, kf, { nx with before := (kn : Nat) }, out⟩) := by
                  show _ = _
                  rw [if_neg (by decide), HSTEP.out 2 h1, hkf0, hkn]
                  rfl
                have hlm' : lm = 6 := by rw [hlm, h1]; rfl
                subst h1
                subst hlm'
                clear hk17 hl2 hl3 ht hkd hka hkf0 hkn htx hr hthn hthn2 hlm he8 hgo
                go_wp2_with fail
                refine (HTK.out _).mono ?_
                rintro e w1 ⟨rfl, hb1⟩
                have hz1 : w.heap.size + 1 ≤ w1.heap.size := by have := hb1.size; omega
                have HB1 : Hid (Below w.heap.size w w1) := below_then hbel hb1
                have HR1 : Hid (w1.rowIs w.heap.size 57 5 (rlF nx)) := HRN.out.of_block (hb1.block _ (by omega))
                have HO1 : Hid (w1.ownsRow (w.heap.size + 1) 57 5 (.slice vo9 out.length vc9) out.length (rulC out)) := ownC_below HOW.out hb1
                clear hb1
                go_wp2_with fail
                refine (HTH.out _).mono ?_
                rintro e w2 ⟨rfl, hw2⟩
                have HR2 : Hid (w2.rowIs w.heap.size 57 5 (rlF nx)) := by show World.rowIs _ _ _ _ _; rw [hw2]; exact HR1.out.alloc _
                have HO2 : Hid (w2.ownsRow (w.heap.size + 1) 57 5 (.slice vo9 out.length vc9) out.length (rulC out)) := by show World.ownsRow _ _ _ _ _ _ _; rw [hw2]; exact HO1.out.alloc _
                have HB2 : Hid (Below w.heap.size w w2) := by show Below _ _ _; rw [hw2]; exact below_then HB1.out (below_one _)
                have HT2 : Hid (w2.rowIs w1.heap.size 82 5 (fun j => (#[.int .i64 (kd : Nat), .int .i64 (ka : Nat), .int .i64 (kf : Nat), .int .i64 (kn : Nat), .string tx] : Array Value).getD j undef)) := by show World.rowIs _ _ _ _ _; rw [hw2]; exact row_new _ _ _ 5 rfl
                have hz2 : w2.heap.size = w1.heap.size + 1 := by rw [hw2]; simp
                obtain ⟨⟨t0, t1, t2, t3, t4⟩, _⟩ := row5F HT2.out
                have HZ2 : Hid (w2.heap.size = w1.heap.size + 1) := hz2
                clear hw2 hz2
                have HNE : Hid (w1.heap.size ≠ w.heap.size) := by show _ ≠ _; omega
                obtain ⟨⟨c0, c1, c2, c3, c4⟩, f0, f1, f2, f3, f4⟩ := row5F HR2.out
                have y2 : (w2.setCell ⟨w.heap.size, 1, none⟩ (.int .i64 (kn : Nat))).cell? ⟨w1.heap.size, 2, none⟩ = some (.int .i64 (kf : Nat)) := ((OnlyRow.setCell _ _ _ _).row HT2.out HNE.out).cell (i := 2) (by omega)
                have HB3 : Hid (Below w.heap.size w (w2.setCell ⟨w.heap.size, 1, none⟩ (.int .i64 (kn : Nat)))) := (OnlyRow.setCell _ _ _ _).below HB2.out (Nat.le_refl _)
                have HR3 : Hid ((w2.setCell ⟨w.heap.size, 1, none⟩ (.int .i64 (kn : Nat))).rowIs w.heap.size 57 5 (rlF { nx with before := (kn : Nat) })) := (HR2.out.set 1 (.int .i64 (kn : Nat))).congr fun j hj => by
                  have : j = 0 ∨ j = 1 ∨ j = 2 ∨ j = 3 ∨ j = 4 := by omega
                  rcases this with rfl | rfl | rfl | rfl | rfl <;> rfl
                have HO3 : Hid ((w2.setCell ⟨w.heap.size, 1, none⟩ (.int .i64 (kn : Nat))).ownsRow (w.heap.size + 1) 57 5 (.slice vo9 out.length vc9) out.length (rulC out)) := own_only (OnlyRow.setCell _ _ _ _) HO2.out (fun hx => by have := (ownC_lt HO2.out hx).2; omega)
                go_wp2
                go_roundw
                case rel => exact ⟨2, kf, { nx with before := (kn : Nat) }, out, HNX, (fun h => by omega), by omega, hkf, by omega, by rfl, rfl, HB3.out, HR3, HO3.out⟩
                case measure => simp [intOf, h8m]; omega
              · have HNX : Hid (rdAll s = if 3 = 8 then (out, (0 : Int), 0) else rd s ⟨3, kf, { nx with reset := tx }, out⟩) := by
                  show _ = _
                  rw [if_neg (by decide), HSTEP.out 3 h1, hkf0, htx]
                  rfl
                have hlm' : lm = 6 := by rw [hlm, h1]; rfl
                subst h1
                subst hlm'
                clear hk17 hl2 hl3 ht hkd hka hkf0 hkn htx hr hthn hthn2 hlm he8 hgo
                go_wp2_with fail
                refine (HTK.out _).mono ?_
                rintro e w1 ⟨rfl, hb1⟩
                have hz1 : w.heap.size + 1 ≤ w1.heap.size := by have := hb1.size; omega
                have HB1 : Hid (Below w.heap.size w w1) := below_then hbel hb1
                have HR1 : Hid (w1.rowIs w.heap.size 57 5 (rlF nx)) := HRN.out.of_block (hb1.block _ (by omega))
                have HO1 : Hid (w1.ownsRow (w.heap.size + 1) 57 5 (.slice vo9 out.length vc9) out.length (rulC out)) := ownC_below HOW.out hb1
                clear hb1
                go_wp2_with fail
                refine (HTH.out _).mono ?_
                rintro e w2 ⟨rfl, hw2⟩
                have HR2 : Hid (w2.rowIs w.heap.size 57 5 (rlF nx)) := by show World.rowIs _ _ _ _ _; rw [hw2]; exact HR1.out.alloc _
                have HO2 : Hid (w2.ownsRow (w.heap.size + 1) 57 5 (.slice vo9 out.length vc9) out.length (rulC out)) := by show World.ownsRow _ _ _ _ _ _ _; rw [hw2]; exact HO1.out.alloc _
                have HB2 : Hid (Below w.heap.size w w2) := by show Below _ _ _; rw [hw2]; exact below_then HB1.out (below_one _)
                have HT2 : Hid (w2.rowIs w1.heap.size 82 5 (fun j => (#[.int .i64 (kd : Nat), .int .i64 (ka : Nat), .int .i64 (kf : Nat), .int .i64 (kn : Nat), .string tx] : Array Value).getD j undef)) := by show World.rowIs _ _ _ _ _; rw [hw2]; exact row_new _ _ _ 5 rfl
                have hz2 : w2.heap.size = w1.heap.size + 1 := by rw [hw2]; simp
                obtain ⟨⟨t0, t1, t2, t3, t4⟩, _⟩ := row5F HT2.out
                have HZ2 : Hid (w2.heap.size = w1.heap.size + 1) := hz2
                clear hw2 hz2
                have HNE : Hid (w1.heap.size ≠ w.heap.size) := by show _ ≠ _; omega
                obtain ⟨⟨c0, c1, c2, c3, c4⟩, f0, f1, f2, f3, f4⟩ := row5F HR2.out
                have y2 : (w2.setCell ⟨w.heap.size, 0, none⟩ (.string tx)).cell? ⟨w1.heap.size, 2, none⟩ = some (.int .i64 (kf : Nat)) := ((OnlyRow.setCell _ _ _ _).row HT2.out HNE.out).cell (i := 2) (by omega)
                have HB3 : Hid (Below w.heap.size w (w2.setCell ⟨w.heap.size, 0, none⟩ (.string tx))) := (OnlyRow.setCell _ _ _ _).below HB2.out (Nat.le_refl _)
                have HR3 : Hid ((w2.setCell ⟨w.heap.size, 0, none⟩ (.string tx)).rowIs w.heap.size 57 5 (rlF { nx with reset := tx })) := (HR2.out.set 0 (.string tx)).congr fun j hj => by
                  have : j = 0 ∨ j = 1 ∨ j = 2 ∨ j = 3 ∨ j = 4 := by omega
                  rcases this with rfl | rfl | rfl | rfl | rfl <;> rfl
                have HO3 : Hid ((w2.setCell ⟨w.heap.size, 0, none⟩ (.string tx)).ownsRow (w.heap.size + 1) 57 5 (.slice vo9 out.length vc9) out.length (rulC out)) := own_only (OnlyRow.setCell _ _ _ _) HO2.out (fun hx => by have := (ownC_lt HO2.out hx).2; omega)
                go_wp2
                go_roundw
                case rel => exact ⟨3, kf, { nx with reset := tx }, out, HNX, (fun h => by omega), by omega, hkf, by omega, by rfl, rfl, HB3.out, HR3, HO3.out⟩
                case measure => simp [intOf, h8m]; omega
              · have HNX : Hid (rdAll s = if 4 = 8 then (out, (0 : Int), 0) else rd s ⟨4, kf, { nx with level := (kn : Nat) }, out⟩) := by
                  show _ = _
                  rw [if_neg (by decide), HSTEP.out 4 h1, hkf0, hkn]
                  rfl
                have hlm' : lm = 6 := by rw [hlm, h1]; rfl
                subst h1
                subst hlm'
                clear hk17 hl2 hl3 ht hkd hka hkf0 hkn htx hr hthn hthn2 hlm he8 hgo
                go_wp2_with fail
                refine (HTK.out _).mono ?_
                rintro e w1 ⟨rfl, hb1⟩
                have hz1 : w.heap.size + 1 ≤ w1.heap.size := by have := hb1.size; omega
                have HB1 : Hid (Below w.heap.size w w1) := below_then hbel hb1
                have HR1 : Hid (w1.rowIs w.heap.size 57 5 (rlF nx)) := HRN.out.of_block (hb1.block _ (by omega))
                have HO1 : Hid (w1.ownsRow (w.heap.size + 1) 57 5 (.slice vo9 out.length vc9) out.length (rulC out)) := ownC_below HOW.out hb1
                clear hb1
                go_wp2_with fail
                refine (HTH.out _).mono ?_
                rintro e w2 ⟨rfl, hw2⟩
                have HR2 : Hid (w2.rowIs w.heap.size 57 5 (rlF nx)) := by show World.rowIs _ _ _ _ _; rw [hw2]; exact HR1.out.alloc _
                have HO2 : Hid (w2.ownsRow (w.heap.size + 1) 57 5 (.slice vo9 out.length vc9) out.length (rulC out)) := by show World.ownsRow _ _ _ _ _ _ _; rw [hw2]; exact HO1.out.alloc _
                have HB2 : Hid (Below w.heap.size w w2) := by show Below _ _ _; rw [hw2]; exact below_then HB1.out (below_one _)
                have HT2 : Hid (w2.rowIs w1.heap.size 82 5 (fun j => (#[.int .i64 (kd : Nat), .int .i64 (ka : Nat), .int .i64 (kf : Nat), .int .i64 (kn : Nat), .string tx] : Array Value).getD j undef)) := by show World.rowIs _ _ _ _ _; rw [hw2]; exact row_new _ _ _ 5 rfl
                have hz2 : w2.heap.size = w1.heap.size + 1 := by rw [hw2]; simp
                obtain ⟨⟨t0, t1, t2, t3, t4⟩, _⟩ := row5F HT2.out
                have HZ2 : Hid (w2.heap.size = w1.heap.size + 1) := hz2
                clear hw2 hz2
                have HNE : Hid (w1.heap.size ≠ w.heap.size) := by show _ ≠ _; omega
                obtain ⟨⟨c0, c1, c2, c3, c4⟩, f0, f1, f2, f3, f4⟩ := row5F HR2.out
                have y2 : (w2.setCell ⟨w.heap.size, 2, none⟩ (.int .i64 (kn : Nat))).cell? ⟨w1.heap.size, 2, none⟩ = some (.int .i64 (kf : Nat)) := ((OnlyRow.setCell _ _ _ _).row HT2.out HNE.out).cell (i := 2) (by omega)
                have HB3 : Hid (Below w.heap.size w (w2.setCell ⟨w.heap.size, 2, none⟩ (.int .i64 (kn : Nat)))) := (OnlyRow.setCell _ _ _ _).below HB2.out (Nat.le_refl _)
                have HR3 : Hid ((w2.setCell ⟨w.heap.size, 2, none⟩ (.int .i64 (kn : Nat))).rowIs w.heap.size 57 5 (rlF { nx with level := (kn : Nat) })) := (HR2.out.set 2 (.int .i64 (kn : Nat))).congr fun j hj => by
                  have : j = 0 ∨ j = 1 ∨ j = 2 ∨ j = 3 ∨ j = 4 := by omega
                  rcases this with rfl | rfl | rfl | rfl | rfl <;> rfl
                have HO3 : Hid ((w2.setCell ⟨w.heap.size, 2, none⟩ (.int .i64 (kn : Nat))).ownsRow (w.heap.size + 1) 57 5 (.slice vo9 out.length vc9) out.length (rulC out)) := own_only (OnlyRow.setCell _ _ _ _) HO2.out (fun hx => by have := (ownC_lt HO2.out hx).2; omega)
                go_wp2
                go_roundw
                case rel => exact ⟨4, kf, { nx with level := (kn : Nat) }, out, HNX, (fun h => by omega), by omega, hkf, by omega, by rfl, rfl, HB3.out, HR3, HO3.out⟩
                case measure => simp [intOf, h8m]; omega
              · have HNX : Hid (rdAll s = if 5 = 8 then ((out ++ [{ nx with text := tx }]), (0 : Int), 0) else rd s ⟨5, kf, default, (out ++ [{ nx with text := tx }])⟩) := by
                  show _ = _
                  rw [if_neg (by decide), HSTEP.out 5 h1, hkf0, htx]
                  rfl
                have hlm' : lm = 3 := by rw [hlm, h1]; rfl
                subst h1
                subst hlm'
                clear hk17 hl2 hl3 ht hkd hka hkf0 hkn htx hr hthn hthn2 hlm he8 hgo
                go_wp2_with fail
                refine (HTK.out _).mono ?_
                rintro e w1 ⟨rfl, hb1⟩
                have hz1 : w.heap.size + 1 ≤ w1.heap.size := by have := hb1.size; omega
                have HB1 : Hid (Below w.heap.size w w1) := below_then hbel hb1
                have HR1 : Hid (w1.rowIs w.heap.size 57 5 (rlF nx)) := HRN.out.of_block (hb1.block _ (by omega))
                have HO1 : Hid (w1.ownsRow (w.heap.size + 1) 57 5 (.slice vo9 out.length vc9) out.length (rulC out)) := ownC_below HOW.out hb1
                clear hb1
                go_wp2_with fail
                refine (HTH.out _).mono ?_
                rintro e w2 ⟨rfl, hw2⟩
                have HR2 : Hid (w2.rowIs w.heap.size 57 5 (rlF nx)) := by show World.rowIs _ _ _ _ _; rw [hw2]; exact HR1.out.alloc _
                have HO2 : Hid (w2.ownsRow (w.heap.size + 1) 57 5 (.slice vo9 out.length vc9) out.length (rulC out)) := by show World.ownsRow _ _ _ _ _ _ _; rw [hw2]; exact HO1.out.alloc _
                have HB2 : Hid (Below w.heap.size w w2) := by show Below _ _ _; rw [hw2]; exact below_then HB1.out (below_one _)
                have HT2 : Hid (w2.rowIs w1.heap.size 82 5 (fun j => (#[.int .i64 (kd : Nat), .int .i64 (ka : Nat), .int .i64 (kf : Nat), .int .i64 (kn : Nat), .string tx] : Array Value).getD j undef)) := by show World.rowIs _ _ _ _ _; rw [hw2]; exact row_new _ _ _ 5 rfl
                have hz2 : w2.heap.size = w1.heap.size + 1 := by rw [hw2]; simp
                obtain ⟨⟨t0, t1, t2, t3, t4⟩, _⟩ := row5F HT2.out
                have HZ2 : Hid (w2.heap.size = w1.heap.size + 1) := hz2
                clear hw2 hz2
                have HNE : Hid (w1.heap.size ≠ w.heap.size) := by show _ ≠ _; omega
                obtain ⟨⟨c0, c1, c2, c3, c4⟩, f0, f1, f2, f3, f4⟩ := row5F HR2.out
                have HR3 : Hid ((w2.setCell ⟨w.heap.size, 3, none⟩ (.string tx)).rowIs w.heap.size 57 5 (rlF { nx with text := tx })) := (HR2.out.set 3 (.string tx)).congr fun j hj => by
                  have : j = 0 ∨ j = 1 ∨ j = 2 ∨ j = 3 ∨ j = 4 := by omega
                  rcases this with rfl | rfl | rfl | rfl | rfl <;> rfl
                have HB3 : Hid (Below w.heap.size w (w2.setCell ⟨w.heap.size, 3, none⟩ (.string tx))) := (OnlyRow.setCell _ _ _ _).below HB2.out (Nat.le_refl _)
                have HO3 : Hid ((w2.setCell ⟨w.heap.size, 3, none⟩ (.string tx)).ownsRow (w.heap.size + 1) 57 5 (.slice vo9 out.length vc9) out.length (rulC out)) := own_only (OnlyRow.setCell _ _ _ _) HO2.out (fun hx => by have := (ownC_lt HO2.out hx).2; omega)
                have HT3 : Hid ((w2.setCell ⟨w.heap.size, 3, none⟩ (.string tx)).rowIs w1.heap.size 82 5 (fun j => (#[.int .i64 (kd : Nat), .int .i64 (ka : Nat), .int .i64 (kf : Nat), .int .i64 (kn : Nat), .string tx] : Array Value).getD j undef)) := (OnlyRow.setCell _ _ _ _).row HT2.out HNE.out
                have HS3 : Hid ((w2.setCell ⟨w.heap.size, 3, none⟩ (.string tx)).heap.size = w1.heap.size + 1) := by
                  show _ = _
                  rw [← HZ2.out]
                  simp [World.setCell]
                obtain ⟨⟨x0, x1, x2, x3, x4⟩, g0, g1, g2, g3, g4⟩ := row5F HR3.out
                clear c0 c1 c2 c4 f0 f1 f2 f4
                go_wp2_with (first
                  | (at_builtin; refine wpList_append_lies _ (by rfl) (.tmp 57) (.tmp 59) 29 (by rfl) (w.heap.size + 1) 57 i0 (.agg #[.string ByteArray.empty, .int .i64 0, .int .i64 0, .string ByteArray.empty, .string ByteArray.empty]) 5 64 Tryz.underlying29 hi0 hq0 hq1 hq2 rfl (by omega) _ out.length _ (by rfl) (HO3.out.alloc _) ⟨w2.heap.size, 0, none⟩ 1 1 [.string nx.reset, .int .i64 nx.before, .int .i64 nx.level, .string tx, .string nx.more] ?d0 (by rfl) ?d1 ?d2 (by omega) ?d3 ?d5 ?d4 (w2.heap.size + 1) ?d6 ?_))
                case d0 => rfl
                case d1 => exact newC5 _ (by simp [World.setCell]) _ _ _ _ _ _
                case d2 => intro u hu; simp at hu; rcases hu with rfl | rfl | rfl | rfl | rfl <;> rfl
                case d3 => unfold maxLen; omega
                case d5 => omega
                case d4 => rw [size_one, HS3.out]; omega
                case d6 => rw [size_one, HS3.out, HZ2.out]
                · intro g3 cap3 w4 hown4 hgrow4 _ _
                  have HZ4 : Hid (w1.heap.size + 2 ≤ w4.heap.size) := by
                    have := hgrow4.size
                    rw [size_one, HS3.out] at this
                    exact this
                  have HB4 : Hid (Below w.heap.size w w4) := ownC_grown_below (below_then HB3.out (below_one _)) (by rw [size_one, HS3.out]; omega) (HO3.out.alloc _) (by omega) hgrow4
                  have HR4 : Hid (w4.rowIs w.heap.size 57 5 (rlF { nx with text := tx })) := (HR3.out.alloc _).of_block (hgrow4.block _ (by rw [size_one, HS3.out]; omega) (fun hx => by have := (ownC_lt HO3.out hx.symm).2; omega))
                  have HT4 : Hid (w4.rowIs w1.heap.size 82 5 (fun j => (#[.int .i64 (kd : Nat), .int .i64 (ka : Nat), .int .i64 (kf : Nat), .int .i64 (kn : Nat), .string tx] : Array Value).getD j undef)) := (HT3.out.alloc _).of_block (hgrow4.block _ (by rw [size_one, HS3.out]; omega) (fun hx => by have := (ownC_lt HO1.out hx.symm).1; omega))
                  have HO4 : Hid (w4.ownsRow (w.heap.size + 1) 57 5 (.slice (some ⟨g3, 0, none⟩) (out.length + 1) cap3) (out ++ [Rl.mk nx.reset nx.before nx.level tx nx.more]).length (rulC (out ++ [Rl.mk nx.reset nx.before nx.level tx nx.more]))) := by
                    show World.ownsRow _ _ _ _ _ _ _
                    rw [rulC_snoc, List.length_append]
                    exact hown4
                  obtain ⟨⟨z0, z1, z2, z3, z4⟩, k0, k1, k2, k3, k4⟩ := row5F HR4.out
                  have y2 : (((((w4.setCell ⟨w.heap.size, 0, none⟩ (.string { data := #[] })).setCell ⟨w.heap.size, 1, none⟩ (.int .i64 0)).setCell ⟨w.heap.size, 2, none⟩ (.int .i64 0)).setCell ⟨w.heap.size, 3, none⟩ (.string { data := #[] })).setCell ⟨w.heap.size, 4, none⟩ (.string { data := #[] })).cell? ⟨w1.heap.size, 2, none⟩ = some (.int .i64 (kf : Nat)) := ((set5_only w4 w.heap.size _ _ _ _ _).row HT4.out HNE.out).cell (i := 2) (by omega)
                  have HB5 : Hid (Below w.heap.size w (((((w4.setCell ⟨w.heap.size, 0, none⟩ (.string { data := #[] })).setCell ⟨w.heap.size, 1, none⟩ (.int .i64 0)).setCell ⟨w.heap.size, 2, none⟩ (.int .i64 0)).setCell ⟨w.heap.size, 3, none⟩ (.string { data := #[] })).setCell ⟨w.heap.size, 4, none⟩ (.string { data := #[] }))) := (set5_only w4 w.heap.size _ _ _ _ _).below HB4.out (Nat.le_refl _)
                  have HR5 : Hid ((((((w4.setCell ⟨w.heap.size, 0, none⟩ (.string { data := #[] })).setCell ⟨w.heap.size, 1, none⟩ (.int .i64 0)).setCell ⟨w.heap.size, 2, none⟩ (.int .i64 0)).setCell ⟨w.heap.size, 3, none⟩ (.string { data := #[] })).setCell ⟨w.heap.size, 4, none⟩ (.string { data := #[] })).rowIs w.heap.size 57 5 (rlF default)) := (((((HR4.out.set 0 (.string { data := #[] })).set 1 (.int .i64 0)).set 2 (.int .i64 0)).set 3 (.string { data := #[] })).set 4 (.string { data := #[] })).congr fun j hj => by
                    have : j = 0 ∨ j = 1 ∨ j = 2 ∨ j = 3 ∨ j = 4 := by omega
                    rcases this with rfl | rfl | rfl | rfl | rfl <;> rfl
                  have HO5 : Hid ((((((w4.setCell ⟨w.heap.size, 0, none⟩ (.string { data := #[] })).setCell ⟨w.heap.size, 1, none⟩ (.int .i64 0)).setCell ⟨w.heap.size, 2, none⟩ (.int .i64 0)).setCell ⟨w.heap.size, 3, none⟩ (.string { data := #[] })).setCell ⟨w.heap.size, 4, none⟩ (.string { data := #[] })).ownsRow (w.heap.size + 1) 57 5 (.slice (some ⟨g3, 0, none⟩) (out.length + 1) cap3) (out ++ [Rl.mk nx.reset nx.before nx.level tx nx.more]).length (rulC (out ++ [Rl.mk nx.reset nx.before nx.level tx nx.more]))) := own_only (set5_only w4 w.heap.size _ _ _ _ _) HO4.out (fun hx => by have := (ownC_lt HO4.out hx).2; omega)
                  clear hown4 hgrow4 x0 x1 x2 x3 x4 g0 g1 g2 g4 c3 f3 t0 t1 t2 t3 t4
                  go_wp2
                  go_roundw
                  case rel => exact ⟨5, kf, default, out ++ [Rl.mk nx.reset nx.before nx.level tx nx.more], HNX, (fun _ => by simp), by omega, hkf, by simp; omega, by rfl, rfl, HB5.out, HR5, HO5.out⟩
                  case measure => simp [intOf, h8m]; omega
              · have HNX : Hid (rdAll s = if 6 = 8 then (out, (0 : Int), 0) else rd s ⟨6, kf, nx, out⟩) := by
                  show _ = _
                  rw [if_neg (by decide), HSTEP.out 6 h1, hkf0]
                  rfl
                have HOUT : Hid (out ≠ []) := HOUTS.out (.inl (thn_6 (h1 ▸ hthn)))
                have hlm' : lm = 6 := by rw [hlm, h1]; rfl
                subst h1
                subst hlm'
                clear hk17 hl2 hl3 ht hkd hka hkf0 hkn htx hr hthn hthn2 hlm he8 hgo
                go_wp2_with fail
                refine (HTK.out _).mono ?_
                rintro e w1 ⟨rfl, hb1⟩
                have hz1 : w.heap.size + 1 ≤ w1.heap.size := by have := hb1.size; omega
                have HB1 : Hid (Below w.heap.size w w1) := below_then hbel hb1
                have HR1 : Hid (w1.rowIs w.heap.size 57 5 (rlF nx)) := HRN.out.of_block (hb1.block _ (by omega))
                have HO1 : Hid (w1.ownsRow (w.heap.size + 1) 57 5 (.slice vo9 out.length vc9) out.length (rulC out)) := ownC_below HOW.out hb1
                clear hb1
                go_wp2_with fail
                refine (HTH.out _).mono ?_
                rintro e w2 ⟨rfl, hw2⟩
                have HR2 : Hid (w2.rowIs w.heap.size 57 5 (rlF nx)) := by show World.rowIs _ _ _ _ _; rw [hw2]; exact HR1.out.alloc _
                have HO2 : Hid (w2.ownsRow (w.heap.size + 1) 57 5 (.slice vo9 out.length vc9) out.length (rulC out)) := by show World.ownsRow _ _ _ _ _ _ _; rw [hw2]; exact HO1.out.alloc _
                have HB2 : Hid (Below w.heap.size w w2) := by show Below _ _ _; rw [hw2]; exact below_then HB1.out (below_one _)
                have HT2 : Hid (w2.rowIs w1.heap.size 82 5 (fun j => (#[.int .i64 (kd : Nat), .int .i64 (ka : Nat), .int .i64 (kf : Nat), .int .i64 (kn : Nat), .string tx] : Array Value).getD j undef)) := by show World.rowIs _ _ _ _ _; rw [hw2]; exact row_new _ _ _ 5 rfl
                have hz2 : w2.heap.size = w1.heap.size + 1 := by rw [hw2]; simp
                obtain ⟨⟨t0, t1, t2, t3, t4⟩, _⟩ := row5F HT2.out
                have HZ2 : Hid (w2.heap.size = w1.heap.size + 1) := hz2
                clear hw2 hz2
                go_wp2
                go_roundw
                case rel => exact ⟨6, kf, nx, out, HNX, (fun _ => HOUT.out), by omega, hkf, by omega, by rfl, rfl, HB2.out, HR2, HO2.out⟩
                case measure => simp [intOf, h8m]; omega
              · have HNX : Hid (rdAll s = if 7 = 8 then ((setMore out tx), (0 : Int), 0) else rd s ⟨7, kf, nx, (setMore out tx)⟩) := by
                  show _ = _
                  rw [if_neg (by decide), HSTEP.out 7 h1, hkf0, htx]
                  rfl
                have HOUT : Hid (out ≠ []) := HOUTS.out (.inr (.inl (thn_7 (h1 ▸ hthn))))
                have hlm' : lm = 6 := by rw [hlm, h1]; rfl
                subst h1
                subst hlm'
                clear hk17 hl2 hl3 ht hkd hka hkf0 hkn htx hr hthn hthn2 hlm he8 hgo
                obtain ⟨y, x, hyx⟩ : ∃ (y : List Rl) (x : Rl), out = y ++ [x] := ⟨out.dropLast, out.getLast HOUT.out, (List.dropLast_concat_getLast HOUT.out).symm⟩
                obtain ⟨q, hq⟩ : ∃ q, q = y.length := ⟨_, rfl⟩
                have hlen : out.length = q + 1 := by rw [hyx, hq]; simp
                have HSM : Hid ((rulC out).set (q * 5 + 4) (.string tx) = rulC (setMore out tx)) := by show _ = _; rw [hyx, hq]; exact rulC_more y x tx
                have HLS : Hid ((setMore out tx).length = q + 1) := by show _ = _; rw [hyx, setMore_snoc, hq]; simp
                have HNS : Hid (setMore out tx ≠ []) := by show _ ≠ _; rw [hyx, setMore_snoc]; simp
                have HCL : Hid ((rulC out)[q * 5 + 4]? = some (.string x.more)) := by
                  show _ = _
                  rw [hyx, rulC_snoc, List.getElem?_append_right (by rw [rulC_len]; omega), rulC_len, hq, Nat.add_sub_cancel_left]
                  rfl
                obtain ⟨mo, hmo⟩ : ∃ z, z = x.more := ⟨_, rfl⟩
                rw [← hmo] at HCL
                rw [hlen] at HOW hLi
                rw [hlen]
                clear hyx hq hlen hmo
                obtain ⟨vo, vc, gv, hv2, hva, hvc⟩ := ownC_cells HOW.out
                have hvo := (hva (by omega)).1
                injection hv2 with hv3 hv4 hv5
                subst hv3
                subst hvo
                clear hva hvc hv4 hv5
                go_wp2_with fail
                refine (HTK.out _).mono ?_
                rintro e w1 ⟨rfl, hb1⟩
                have hz1 : w.heap.size + 1 ≤ w1.heap.size := by have := hb1.size; omega
                have HB1 : Hid (Below w.heap.size w w1) := below_then hbel hb1
                have HR1 : Hid (w1.rowIs w.heap.size 57 5 (rlF nx)) := HRN.out.of_block (hb1.block _ (by omega))
                have HO1 : Hid (w1.ownsRow (w.heap.size + 1) 57 5 (.slice (some ⟨gv, 0, none⟩) (q + 1) vc9) (q + 1) (rulC out)) := ownC_below HOW.out hb1
                clear hb1
                go_wp2_with fail
                refine (HTH.out _).mono ?_
                rintro e w2 ⟨rfl, hw2⟩
                have HR2 : Hid (w2.rowIs w.heap.size 57 5 (rlF nx)) := by show World.rowIs _ _ _ _ _; rw [hw2]; exact HR1.out.alloc _
                have HO2 : Hid (w2.ownsRow (w.heap.size + 1) 57 5 (.slice (some ⟨gv, 0, none⟩) (q + 1) vc9) (q + 1) (rulC out)) := by show World.ownsRow _ _ _ _ _ _ _; rw [hw2]; exact HO1.out.alloc _
                have HB2 : Hid (Below w.heap.size w w2) := by show Below _ _ _; rw [hw2]; exact below_then HB1.out (below_one _)
                have HT2 : Hid (w2.rowIs w1.heap.size 82 5 (fun j => (#[.int .i64 (kd : Nat), .int .i64 (ka : Nat), .int .i64 (kf : Nat), .int .i64 (kn : Nat), .string tx] : Array Value).getD j undef)) := by show World.rowIs _ _ _ _ _; rw [hw2]; exact row_new _ _ _ 5 rfl
                have hz2 : w2.heap.size = w1.heap.size + 1 := by rw [hw2]; simp
                obtain ⟨⟨t0, t1, t2, t3, t4⟩, _⟩ := row5F HT2.out
                have HZ2 : Hid (w2.heap.size = w1.heap.size + 1) := hz2
                clear hw2 hz2
                have HNE : Hid (w1.heap.size ≠ gv ∧ w.heap.size ≠ gv) := by
                  have h1 := ownC_lt HO1.out (b := gv) rfl
                  exact ⟨by omega, by omega⟩
                have f4 := own_frozenN HO2.out (q * 5 + 4)
                have c4 : w2.cell? ⟨gv, q * 5 + 4, none⟩ = some (.string mo) := by
                  obtain ⟨_, _, gv', hv6, hva6, hvc6⟩ := ownC_cells HO2.out
                  have hvo6 := (hva6 (by omega)).1
                  injection hv6 with hv7 _ _
                  rw [← hv7] at hvo6
                  have hg : gv = gv' := by injection hvo6 with h; injection h
                  rw [hg]
                  exact hvc6 _ _ (by omega) HCL.out
                have y2 : (w2.setCell ⟨gv, q * 5 + 4, none⟩ (.string tx)).cell? ⟨w1.heap.size, 2, none⟩ = some (.int .i64 (kf : Nat)) := ((OnlyRow.setCell _ _ _ _).row HT2.out HNE.out.1).cell (i := 2) (by omega)
                have HB3 : Hid (Below w.heap.size w (w2.setCell ⟨gv, q * 5 + 4, none⟩ (.string tx))) := (OnlyRow.setCell _ _ _ _).below HB2.out (by have := (ownC_lt HO2.out (b := gv) rfl).2; omega)
                have HR3 : Hid ((w2.setCell ⟨gv, q * 5 + 4, none⟩ (.string tx)).rowIs w.heap.size 57 5 (rlF nx)) := (OnlyRow.setCell _ _ _ _).row HR2.out HNE.out.2
                have HO3 : Hid ((w2.setCell ⟨gv, q * 5 + 4, none⟩ (.string tx)).ownsRow (w.heap.size + 1) 57 5 (.slice (some ⟨gv, 0, none⟩) (q + 1) vc9) (setMore out tx).length (rulC (setMore out tx))) := by
                  show World.ownsRow _ _ _ _ _ _ _
                  rw [HLS.out, ← HSM.out]
                  exact own_setN HO2.out (.string tx)
                have q1 : ((q : Int) + 1 - 1).toNat = q := by omega
                have q2 : (q : Int) + 1 - 1 = q := by omega
                go_wp2
                go_roundw
                case rel => exact ⟨7, kf, nx, setMore out tx, HNX, (fun _ => HNS.out), by omega, hkf, by rw [HLS.out]; omega, by rfl, rfl, HB3.out, HR3, HO3.out⟩
                case measure => simp [intOf, h8m]; omega
              · exact absurd h1 he8

end Go.Proofs.YtpclldccjpncdabGreat
