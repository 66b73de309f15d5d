import Derived.Test.YtpclldccjpncdaaRdX
namespace Go.Proofs.Ytpclldccjpncdaa
open Go.RowKit

theorem newC5 (w : World) {B : Nat} (hB : w.heap.size = B) (a b c d e : Value) (t : TypeId) : ∀ (j : Nat) (u : Value), [a, b, c, d, e][j]? = some u → (w.alloc (.cells #[a, b, c, d, e] t)).cell? ((⟨B, 0, none⟩ : Addr).add j) = some u :=
  hB ▸ World.news_of_block (cs := #[a, b, c, d, e]) (t := t) (fr := (0, 0)) (heap_alloc_new w _)
/-- what a chain's reading answers -/
def CR (s : ByteArray) (i : Nat) (L : List Rl) (a : Nat) (er : Int) : Prop :=
  a ≤ s.size ∧ ((er ≠ 0 ∧ ∀ st out, Pre s st i → rd s ⟨st, i, default, out⟩ = ([], er, a)) ∨
    (er = 0 ∧ L ≠ [] ∧ L.length ≤ a - i ∧ i < a ∧ ∃ st', Whole s st' a ∧ ∀ st out, Pre s st i → rd s ⟨st, i, default, out⟩ = rd s ⟨st', a, default, out ++ L⟩))

set_option maxRecDepth 100000 in
set_option maxHeartbeats 2000000 in
theorem readChain_any (s : ByteArray) (i : Nat) (w : World) (hs : s.size ≤ 1000) (hi : i ≤ s.size) :
    Calls Try.prog 51 #[.string s, .int .i64 (i : Nat)] w fun e w' => ∃ (L : List Rl) (v : Value) (a : Nat) (er : Int), e = .returned (.tuple #[v, .int .i64 (a : Nat), .int .i64 er]) ∧ Hid (CR s i L a er) ∧ Hid (w'.ownsRow w.heap.size 70 5 v L.length (rulC L)) ∧ Below w.heap.size w w' := by
  obtain ⟨t0, ht0, hq0, hq1, hq2⟩ := info_parts infoRulC
  have hto := rh_to (s := s) (i := i) hi
  obtain ⟨q, hq⟩ : ∃ q, q = rh s i := ⟨_, rfl⟩
  obtain ⟨⟨hr, hbf, hl, ht, hm⟩, ha, he⟩ := q
  have HC : Hid (∀ w, Calls Try.prog 64 #[.string s, .int .i64 (i : Nat)] w fun e w' => e = .returned (.tuple #[.agg #[.string hr, .int .i64 hbf, .int .i64 hl, .string ht, .string hm], .int .i64 (ha : Nat), .int .i64 he]) ∧ Below w.heap.size w w') := fun w => by
    have := readHead_any s i w hs hi
    rw [← hq] at this
    exact this
  rw [← hq] at hto
  obtain ⟨hto1, hto2, hto3⟩ := hto
  simp only at hto1 hto2 hto3
  have HQ : Hid ((⟨⟨hr, hbf, hl, ht, hm⟩, ha, he⟩ : Rl × Nat × Int) = rh s i) := hq
  clear hq hto3
  by_cases he0 : he = 0
  · subst he0
    have hia := hto2 rfl
    have HCH : Hid (Chain s i ha []) := by
      have := chain_head (s := s) (i := i) (by rw [← HQ.out])
      rw [← HQ.out] at this
      exact this
    clear hto2
    go_enter Try.func51, Try.ntmps51
    go_wp2_with fail
    refine (HC.out _).mono ?_
    rintro e w1 ⟨rfl, hb1⟩
    have HB1 : Hid (Below w.heap.size w w1) := hb1
    have hz1 := hb1.size
    clear hb1
    obtain ⟨W, hW⟩ : ∃ W, W = w1.alloc (.cells #[.string hr, .int .i64 hbf, .int .i64 hl, .string ht, .string hm] 70) := ⟨_, rfl⟩
    have HW : Hid (W = w1.alloc (.cells #[.string hr, .int .i64 hbf, .int .i64 hl, .string ht, .string hm] 70)) := hW
    have HWS : Hid (W.heap.size = w1.heap.size + 1) := by show _ = _; rw [hW]; simp
    have HR : Hid (W.rowIs w1.heap.size 70 5 (fun i => #[Value.string hr, .int .i64 hbf, .int .i64 hl, .string ht, .string hm].getD i undef)) := by show World.rowIs _ _ _ _ _; rw [hW]; exact row_new _ _ _ 5 rfl
    have HBW : Hid (Below w.heap.size w W) := by show Below _ _ _; rw [hW]; exact below_then HB1.out (below_one _)
    clear hW
    go_wp2
    go_loopw [10, 8] (fun v av wr => ∃ (L : List Rl) (a : Nat), Hid (Chain s i a L) ∧ a ≤ s.size ∧ L.length ≤ a - i ∧ i < a ∧ av = .int .i64 (a : Nat) ∧ Below W.heap.size W wr ∧ wr.ownsRow (w1.heap.size + 1) 70 5 v L.length (rulC L)) (fun _ av _ => s.size - (intOf av).toNat)
    case atStart => exact ⟨[], ha, HCH, hto1, by simp, hia, rfl, by rw [HW.out]; exact Below.refl _ _, World.ownsRow_nil _ _ _ _⟩
    case round =>
      obtain ⟨L, a, HCA, has, hLa, hia', rfl, hbel, hown⟩ := hrel
      obtain ⟨vo9, vc9, hv9⟩ := ownC_shape hown
      subst hv9
      have HOW : Hid (wr.ownsRow (w1.heap.size + 1) 70 5 (.slice vo9 L.length vc9) L.length (rulC L)) := hown
      clear hown
      have hsz := hbel.size
      have hszw : w1.heap.size + 1 ≤ wr.heap.size := by rw [← HWS.out]; exact hsz
      have HRr : Hid (wr.rowIs w1.heap.size 70 5 (fun i => #[Value.string hr, .int .i64 hbf, .int .i64 hl, .string ht, .string hm].getD i undef)) := HR.out.of_block (hbel.block _ (by rw [HWS.out]; omega))
      have HBr : Hid (Below w.heap.size w wr) := below_then HBW.out hbel
      have hrt := rr_to (s := s) (i := a) has
      obtain ⟨q, hq⟩ : ∃ q, q = rr s a := ⟨_, rfl⟩
      obtain ⟨⟨rs, be, lv, tx, mo⟩, pl, fe⟩ := q
      have HCR : Hid (∀ w, Calls Try.prog 66 #[.string s, .int .i64 (a : Nat)] w fun e w' => e = .returned (.tuple #[.agg #[.string rs, .int .i64 be, .int .i64 lv, .string tx, .string mo], .int .i64 (pl : Nat), .int .i64 fe]) ∧ Below w.heap.size w w') := fun w => by
        have := readRelation_any s a w hs has
        rw [← hq] at this
        exact this
      rw [← hq] at hrt
      obtain ⟨hrt1, hrt2, _⟩ := hrt
      simp only at hrt1 hrt2
      have HQR : Hid ((⟨⟨rs, be, lv, tx, mo⟩, pl, fe⟩ : Rl × Nat × Int) = rr s a) := hq
      clear hq
      by_cases hL : L = []
      · subst hL
        by_cases hfe : fe = 0
        · subst hfe
          have hpl := hrt2 rfl
          have HCN : Hid (Chain s i pl [Rl.mk hr hbf lv tx mo]) := by
            have := chain_more HCA.out (fun h => absurd rfl h) (by rw [← HQR.out])
            rw [← HQR.out] at this
            unfold addR at this
            rw [if_pos rfl, ← HQ.out] at this
            exact this
          clear hrt2
          go_wp2_with fail
          refine (HCR.out _).mono ?_
          rintro e w2 ⟨rfl, hb2⟩
          have HB2 : Hid (Below W.heap.size W w2) := below_then hbel hb2
          have HO2 : Hid (w2.ownsRow (w1.heap.size + 1) 70 5 (.slice vo9 ([] : List Rl).length vc9) 0 []) := ownC_below HOW.out hb2
          have hz2 := hb2.size
          have HR2 : Hid (w2.rowIs w1.heap.size 70 5 (fun i => #[Value.string hr, .int .i64 hbf, .int .i64 hl, .string ht, .string hm].getD i undef)) := HRr.out.of_block (hb2.block _ (by omega))
          obtain ⟨⟨c0, c1, c2, c3, c4⟩, f0, f1, f2, f3, f4⟩ := row5F HR2.out
          clear hb2
          have g0 : (w2.alloc (.cells #[.string rs, .int .i64 be, .int .i64 lv, .string tx, .string mo] 70)).cell? ⟨w1.heap.size, 0, none⟩ = some (.string hr) := (HR2.out.alloc _).cell (i := 0) (by omega)
          have g1 : (w2.alloc (.cells #[.string hr, .int .i64 be, .int .i64 lv, .string tx, .string mo] 70)).cell? ⟨w1.heap.size, 1, none⟩ = some (.int .i64 hbf) := (HR2.out.alloc _).cell (i := 1) (by omega)
          have HOX : Hid ((w2.alloc (.cells #[.string hr, .int .i64 hbf, .int .i64 lv, .string tx, .string mo] 70)).ownsRow (w1.heap.size + 1) 70 5 (.slice vo9 0 vc9) 0 []) := HO2.out.alloc _
          have HBX : Hid (Below W.heap.size W (w2.alloc (.cells #[.string hr, .int .i64 hbf, .int .i64 lv, .string tx, .string mo] 70))) := below_then HB2.out (below_one _)
          clear c0 c1 c2 c3 c4 f0 f1 f2 f3 f4
          go_wp2_with (first
            | (at_builtin; refine wpList_append_lies _ (by rfl) (.tmp 53) (.tmp 55) 52 (by rfl) (w1.heap.size + 1) 70 t0 (.agg #[.string ByteArray.empty, .int .i64 0, .int .i64 0, .string ByteArray.empty, .string ByteArray.empty]) 5 64 Try.underlying52 ht0 hq0 hq1 hq2 rfl (by omega) _ 0 _ (by rfl) (HOX.out.alloc _) ⟨w2.heap.size + 1, 0, none⟩ 1 1 [.string hr, .int .i64 hbf, .int .i64 lv, .string tx, .string mo] (by rfl) (by rfl) ?d1 ?d2 (by omega) ?d3 ?d5 ?d4 (w2.heap.size + 2) ?d6 ?_))
          case d1 => exact newC5 _ (by simp) _ _ _ _ _ _
          case d2 => intro u hu; simp at hu; rcases hu with rfl | rfl | rfl | rfl | rfl <;> rfl
          case d3 => unfold maxLen; omega
          case d5 => omega
          case d4 => simp; omega
          case d6 => simp
          · intro g3 cap3 w3 hown3 hgrow3 _ _
            have HB3 : Hid (Below W.heap.size W w3) := ownC_grown_below (below_then HBX.out (below_one _)) (by rw [HWS.out]; simp; omega) (HOX.out.alloc _) (by rw [HWS.out]; exact Nat.le_refl _) hgrow3
            have HO3 : Hid (w3.ownsRow (w1.heap.size + 1) 70 5 (.slice (some ⟨g3, 0, none⟩) 1 cap3) 1 (rulC [Rl.mk hr hbf lv tx mo])) := hown3
            clear hown3 hgrow3
            go_wp2
            go_roundw
            case rel => exact ⟨[Rl.mk hr hbf lv tx mo], pl, HCN, hrt1, by simp; omega, by omega, rfl, HB3.out, HO3.out⟩
            case measure => simp [intOf]; omega
        · have HBAD : Hid (CR s i [] pl fe) := ⟨hrt1, .inl ⟨hfe, fun st out hp => by
            have := chain_bad HCA.out (fun h => absurd rfl h) (by rw [← HQR.out]; exact hfe) st out hp
            rw [← HQR.out] at this
            exact this⟩⟩
          have hfe' : (fe == 0) = false := beq_eq_false_iff_ne.2 hfe
          clear hrt2 hfe
          go_wp2_with fail
          refine (HCR.out _).mono ?_
          rintro e w2 ⟨rfl, hb2⟩
          go_wp2
          go_ret3
          exact ⟨[], _, pl, fe, rfl, HBAD, World.ownsRow_nil _ _ _ _, below_then HBr.out (below_then hb2 (below_one _))⟩
      · have hL0 : L.length ≠ 0 := fun h => hL (List.eq_nil_of_length_eq_zero h)
        have hLn : ((L.length : Int) == 0) = false := beq_eq_false_iff_ne.2 (by omega)
        have HL : Hid (L ≠ []) := hL
        clear hL
        obtain ⟨bb, hbb⟩ : ∃ x, x = decide ((tk s a).kind = 3) := ⟨_, rfl⟩
        have HRF : Hid (∀ w, Calls Try.prog 65 #[.string s, .int .i64 (a : Nat)] w fun e w' => e = .returned (.bool bb) ∧ Below w.heap.size w w') := fun w => by rw [hbb]; exact relationFollows_any s a w hs has
        by_cases hk3 : (tk s a).kind = 3
        · have hb3 : bb = true := by rw [hbb]; simp [hk3]
          subst hb3
          clear hbb
          go_wp2_with fail
          refine (HRF.out _).mono ?_
          rintro e w8 ⟨rfl, hb8⟩
          have HB8 : Hid (Below W.heap.size W w8) := below_then hbel hb8
          have HO8 : Hid (w8.ownsRow (w1.heap.size + 1) 70 5 (.slice vo9 L.length vc9) L.length (rulC L)) := ownC_below HOW.out hb8
          have hz8 := hb8.size
          clear hb8
          by_cases hfe : fe = 0
          · subst hfe
            have hpl := hrt2 rfl
            have HCN : Hid (Chain s i pl (L ++ [Rl.mk rs be lv tx mo])) := by
              have := chain_more HCA.out (fun _ => hk3) (by rw [← HQR.out])
              rw [← HQR.out] at this
              unfold addR at this
              rw [if_neg HL.out] at this
              exact this
            clear hrt2 hk3
            go_wp2_with fail
            refine (HCR.out _).mono ?_
            rintro e w2 ⟨rfl, hb2⟩
            have HB2 : Hid (Below W.heap.size W w2) := below_then HB8.out hb2
            have HOX : Hid ((w2.alloc (.cells #[.string rs, .int .i64 be, .int .i64 lv, .string tx, .string mo] 70)).ownsRow (w1.heap.size + 1) 70 5 (.slice vo9 L.length vc9) L.length (rulC L)) := (ownC_below HO8.out hb2).alloc _
            have hz2 := hb2.size
            have HBX : Hid (Below W.heap.size W (w2.alloc (.cells #[.string rs, .int .i64 be, .int .i64 lv, .string tx, .string mo] 70))) := below_then HB2.out (below_one _)
            clear hb2
            go_wp2_with (first
              | (at_builtin; refine wpList_append_lies _ (by rfl) (.tmp 53) (.tmp 55) 52 (by rfl) (w1.heap.size + 1) 70 t0 (.agg #[.string ByteArray.empty, .int .i64 0, .int .i64 0, .string ByteArray.empty, .string ByteArray.empty]) 5 64 Try.underlying52 ht0 hq0 hq1 hq2 rfl (by omega) _ L.length _ (by rfl) (HOX.out.alloc _) ⟨w2.heap.size + 1, 0, none⟩ 1 1 [.string rs, .int .i64 be, .int .i64 lv, .string tx, .string mo] (by rfl) (by rfl) ?d1 ?d2 (by omega) ?d3 ?d5 ?d4 (w2.heap.size + 2) ?d6 ?_))
            case d1 => exact newC5 _ (by simp) _ _ _ _ _ _
            case d2 => intro u hu; simp at hu; rcases hu with rfl | rfl | rfl | rfl | rfl <;> rfl
            case d3 => unfold maxLen; omega
            case d5 => omega
            case d4 => simp; omega
            case d6 => simp
            · intro g3 cap3 w3 hown3 hgrow3 _ _
              have HB3 : Hid (Below W.heap.size W w3) := ownC_grown_below (below_then HBX.out (below_one _)) (by rw [HWS.out]; simp; omega) (HOX.out.alloc _) (by rw [HWS.out]; exact Nat.le_refl _) hgrow3
              have HO3 : Hid (w3.ownsRow (w1.heap.size + 1) 70 5 (.slice (some ⟨g3, 0, none⟩) (L.length + 1) cap3) (L ++ [Rl.mk rs be lv tx mo]).length (rulC (L ++ [Rl.mk rs be lv tx mo]))) := by
                show World.ownsRow _ _ _ _ _ _ _
                rw [rulC_snoc, List.length_append]
                exact hown3
              clear hown3 hgrow3
              go_wp2
              go_roundw
              case rel => exact ⟨L ++ [Rl.mk rs be lv tx mo], pl, HCN, hrt1, by simp; omega, by omega, rfl, HB3.out, HO3.out⟩
              case measure => simp [intOf]; omega
          · have HBAD : Hid (CR s i [] pl fe) := ⟨hrt1, .inl ⟨hfe, fun st out hp => by
              have := chain_bad HCA.out (fun _ => hk3) (by rw [← HQR.out]; exact hfe) st out hp
              rw [← HQR.out] at this
              exact this⟩⟩
            have hfe' : (fe == 0) = false := beq_eq_false_iff_ne.2 hfe
            clear hrt2 hfe hk3
            go_wp2_with fail
            refine (HCR.out _).mono ?_
            rintro e w2 ⟨rfl, hb2⟩
            have HB2 : Hid (Below w.heap.size w w2) := below_then HBW.out (below_then HB8.out hb2)
            clear hb2
            go_wp2
            go_ret3
            exact ⟨[], _, pl, fe, rfl, HBAD, World.ownsRow_nil _ _ _ _, below_then HB2.out (below_one _)⟩
        · have hb3 : bb = false := by rw [hbb]; simp [hk3]
          subst hb3
          have HEND : Hid (CR s i L a 0) := ⟨has, .inr ⟨rfl, HL.out, hLa, hia', chain_end HCA.out HL.out has hk3⟩⟩
          clear hbb hk3
          go_wp2_with fail
          refine (HRF.out _).mono ?_
          rintro e w8 ⟨rfl, hb8⟩
          have HO8 : Hid (w8.ownsRow w.heap.size 70 5 (.slice vo9 L.length vc9) L.length (rulC L)) := ownC_base (ownC_below HOW.out hb8) (by omega)
          have HB8 : Hid (Below w.heap.size w w8) := below_then HBr.out hb8
          clear hb8
          go_wp2
          go_ret3
          exact ⟨L, _, a, 0, rfl, HEND, HO8, HB8.out⟩
  · have HBAD : Hid (CR s i [] ha he) := ⟨hto1, .inl ⟨he0, fun st out hp => by
      have := (rh_rd (out := out) hp.1 hp.2).1 (by rw [← HQ.out]; exact he0)
      rw [← HQ.out] at this
      exact this⟩⟩
    have he' : (he == 0) = false := beq_eq_false_iff_ne.2 he0
    clear hto2 he0
    go_enter Try.func51, Try.ntmps51
    go_wp2_with fail
    refine (HC.out _).mono ?_
    rintro e w1 ⟨rfl, hb1⟩
    go_wp2
    go_ret3
    exact ⟨[], _, ha, he, rfl, HBAD, World.ownsRow_nil _ _ _ _, below_then hb1 (below_one _)⟩

end Go.Proofs.Ytpclldccjpncdaa
