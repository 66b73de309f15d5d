import Derived.Test.YtpclldccjpncdaaRdY
import Derived.Test.YtpclldccjpncdaaRdB
namespace Go.Proofs.Ytpclldccjpncdaa
open Go.RowKit

theorem whole_start {s : ByteArray} {a : Nat} (ha : a ≤ s.size) : Whole s 0 a := by
  refine ⟨ha, .inl rfl, fun h1 h7 => ?_⟩
  generalize (tk s a).kind = k at *
  unfold thn
  repeat' split
  all_goals first | rfl | (exfalso; omega)
theorem whole_skp {s : ByteArray} {st a : Nat} (h : Whole s st a) : Whole s st (skp s a) := by
  refine ⟨skp_le h.1, h.2.1, ?_⟩
  rw [tk_skp]
  exact h.2.2
theorem kind_in {s : ByteArray} {a : Nat} (h : skp s a = a) : (tk s a).kind = 7 ↔ s.size ≤ a := by
  unfold tk
  rw [h]
  exact tkA_end
theorem rdAll_in {s : ByteArray} (h : ¬ 120 < s.size) : rdAll s = rd s ⟨0, skp s 0, default, []⟩ := by
  unfold rdAll
  rw [if_neg h, rd_skp]
theorem rd_whole_end {s : ByteArray} {st a : Nat} {L : List Rl} (hw : Whole s st a) (h : (tk s a).kind = 7) : rd s ⟨st, a, default, L⟩ = (L, 0, 0) := by
  refine rd_end (S := ⟨st, a, default, L⟩) ?_
  show thn st (tk s a).kind = some 8
  rw [h]
  unfold thn
  rw [if_neg (by decide), if_neg (by decide), if_neg (by decide), if_neg (by decide), if_pos rfl, if_pos hw.2.1]

set_option maxRecDepth 100000 in
set_option maxHeartbeats 2000000 in
theorem ruleRead_any (s : ByteArray) (w : World) (hs : s.size ≤ 140737488351232) :
    Calls Try.prog 39 #[.string s] w fun e w' => ∃ (L : List Rl) (v : Value) (a : Nat) (er : Int), e = .returned (.tuple #[v, .int .i64 er, .int .i64 (a : Nat)]) ∧ Hid (rdAll s = (L, er, a) ∧ L.length ≤ 120) ∧ Hid (w'.ownsRow w.heap.size 70 5 v L.length (rulC L)) ∧ Below w.heap.size w w' := by
  obtain ⟨t0, ht0, hq0, hq1, hq2⟩ := info_parts infoRulC
  by_cases h120 : 120 < s.size
  · have HE : Hid (rdAll s = ([], 4, 0) ∧ ([] : List Rl).length ≤ 120) := ⟨by unfold rdAll; rw [if_pos h120], by simp⟩
    go_enter Try.func39, Try.ntmps39
    go_wp2
    go_ret3
    exact ⟨[], _, 0, 4, rfl, HE, World.ownsRow_nil _ _ _ _, Below.refl _ _⟩
  · have hsz : s.size ≤ 120 := by omega
    obtain ⟨a0, ha0⟩ : ∃ a, a = skp s 0 := ⟨_, rfl⟩
    have HS0 : Hid (∀ w, Calls Try.prog 50 #[.string s, .int .i64 0] w fun e w' => e = .returned (.int .i64 (a0 : Nat)) ∧ w' = w) := fun w => by rw [ha0]; exact behindSpaces_any s 0 w hs (Nat.zero_le _)
    have hle0 : a0 ≤ s.size := by rw [ha0]; exact skp_le (Nat.zero_le _)
    have HI0 : Hid (rdAll s = rd s ⟨0, a0, default, []⟩ ∧ Whole s 0 a0) := ⟨by rw [ha0]; exact rdAll_in h120, whole_start hle0⟩
    have HK0 : Hid (skp s a0 = a0) := by show _ = _; rw [ha0, skp_skp]
    clear ha0
    go_enter Try.func39, Try.ntmps39
    go_wp2_with fail
    refine (HS0.out _).mono ?_
    rintro e w1 ⟨rfl, hw1⟩
    obtain rfl := hw1.symm
    clear hw1
    go_wp2
    go_loopw [5, 6] (fun v av wr => ∃ (L : List Rl) (a st : Nat), Hid (rdAll s = rd s ⟨st, a, default, L⟩ ∧ Whole s st a) ∧ Hid (skp s a = a) ∧ a ≤ s.size ∧ L.length ≤ a ∧ av = .int .i64 (a : Nat) ∧ Below w.heap.size w wr ∧ wr.ownsRow w.heap.size 70 5 v L.length (rulC L)) (fun _ av _ => s.size - (intOf av).toNat)
    case atStart => exact ⟨[], a0, 0, HI0, HK0, hle0, by simp, rfl, Below.refl _ _, World.ownsRow_nil _ _ _ _⟩
    case round =>
      obtain ⟨L, a, st, HI, HK, has, hLa, rfl, hbel, hown⟩ := hrel
      obtain ⟨vo9, vc9, hv9⟩ := ownC_shape hown
      subst hv9
      have HOW : Hid (wr.ownsRow w.heap.size 70 5 (.slice vo9 L.length vc9) L.length (rulC L)) := hown
      clear hown
      have hszw := hbel.size
      have HBr : Hid (Below w.heap.size w wr) := hbel
      by_cases hlt : a < s.size
      · have HP : Hid (Pre s st a) := ⟨HI.out.2, fun h => by have := (kind_in HK.out).1 h; omega⟩
        have HCC : Hid (∀ w, Calls Try.prog 51 #[.string s, .int .i64 (a : Nat)] w fun e w' => ∃ (L : List Rl) (v : Value) (pl : Nat) (er : Int), e = .returned (.tuple #[v, .int .i64 (pl : Nat), .int .i64 er]) ∧ Hid (CR s a L pl er) ∧ Hid (w'.ownsRow w.heap.size 70 5 v L.length (rulC L)) ∧ Below w.heap.size w w') := fun w => readChain_any s a w (by omega) has
        go_wp2_with fail
        refine (HCC.out _).mono ?_
        rintro e w2 ⟨C, v2, pl, er, rfl, HCR, HO2, hb2⟩
        have hz2 := hb2.size
        have HB2 : Hid (Below w.heap.size w w2) := below_then hbel hb2
        have hpls := HCR.out.1
        by_cases her : er = 0
        · obtain ⟨hC, hCl, hapl, HN⟩ : C ≠ [] ∧ C.length ≤ pl - a ∧ a < pl ∧ Hid (∃ st', Whole s st' pl ∧ ∀ st out, Pre s st a → rd s ⟨st, a, default, out⟩ = rd s ⟨st', pl, default, out ++ C⟩) := by
            rcases HCR.out.2 with h | h
            · exact absurd her h.1
            · exact ⟨h.2.1, h.2.2.1, h.2.2.2.1, h.2.2.2.2⟩
          subst her
          have hC0 : 0 < C.length := by
            rcases Nat.eq_zero_or_pos C.length with h | h
            · exact absurd (List.eq_nil_of_length_eq_zero h) hC
            · exact h
          obtain ⟨vo, vc, gv, hv2, hva, hvc⟩ := ownC_cells HO2.out
          have hvo := (hva hC0).1
          subst hvo
          subst hv2
          have HOA : Hid (w2.ownsRow w.heap.size 70 5 (.slice vo9 L.length vc9) L.length (rulC L)) := ownC_below HOW.out hb2
          have HNW : Hid (∀ (j : Nat) (u : Value), (rulC C)[j]? = some u → w2.cell? ((⟨gv, 0, none⟩ : Addr).add j) = some u) := fun j u hu => by
            have hj : j < C.length * 5 := by rw [← rulC_len]; exact (List.getElem?_eq_some_iff.1 hu).1
            have := hvc j u hj hu
            by_cases h0 : j = 0
            · subst h0
              simpa [Addr.add] using this
            · simpa [Addr.add, h0] using this
          have HLC : Hid ((rulC C).length = C.length * 5) := rulC_len C
          obtain ⟨a2, ha2⟩ : ∃ x, x = skp s pl := ⟨_, rfl⟩
          have HSP : Hid (∀ w, Calls Try.prog 50 #[.string s, .int .i64 (pl : Nat)] w fun e w' => e = .returned (.int .i64 (a2 : Nat)) ∧ w' = w) := fun w => by rw [ha2]; exact behindSpaces_any s pl w hs hpls
          have hle2 : a2 ≤ s.size := by rw [ha2]; exact skp_le hpls
          have hge2 : pl ≤ a2 := by rw [ha2]; exact skp_ge s pl
          have HK2 : Hid (skp s a2 = a2) := by show _ = _; rw [ha2, skp_skp]
          have HI2 : Hid (∃ st', rdAll s = rd s ⟨st', a2, default, L ++ C⟩ ∧ Whole s st' a2) := by
            obtain ⟨st', h1, h2⟩ := HN.out
            refine ⟨st', ?_, by rw [ha2]; exact whole_skp h1⟩
            rw [HI.out.1, h2 st L HP.out, rd_skp, ← ha2]
          clear hva hvc ha2 hC hb2
          go_wp2_with (first
            | (at_builtin; refine wpList_append_lies _ (by rfl) (.tmp 30) (.tmp 31) 52 (by rfl) w.heap.size 70 t0 (.agg #[.string ByteArray.empty, .int .i64 0, .int .i64 0, .string ByteArray.empty, .string ByteArray.empty]) 5 64 Try.underlying52 ht0 hq0 hq1 hq2 rfl (by omega) _ L.length _ (by rfl) HOA.out ⟨gv, 0, none⟩ C.length vc (rulC C) (by rfl) HLC.out HNW.out ?d2 hC0 ?d3 ?d5 ?d4 w2.heap.size rfl ?_))
          case d2 => exact rulC_one C
          case d3 => unfold maxLen; omega
          case d5 => omega
          case d4 => omega
          · intro g3 cap3 w3 hown3 hgrow3 _ _
            have HB3 : Hid (Below w.heap.size w w3) := ownC_grown_below HB2.out (by omega) HOA.out (Nat.le_refl _) hgrow3
            have HO3 : Hid (w3.ownsRow w.heap.size 70 5 (.slice (some ⟨g3, 0, none⟩) (L.length + C.length) cap3) (L ++ C).length (rulC (L ++ C))) := by
              show World.ownsRow _ _ _ _ _ _ _
              rw [rulC_app, List.length_append]
              exact hown3
            clear hown3 hgrow3
            go_wp2_with fail
            refine (HSP.out _).mono ?_
            rintro e w4 ⟨rfl, hw4⟩
            obtain rfl := hw4.symm
            clear hw4
            go_wp2
            go_roundw
            case rel =>
              obtain ⟨st', h1, h2⟩ := HI2.out
              exact ⟨L ++ C, a2, st', ⟨h1, h2⟩, HK2, hle2, by rw [List.length_append]; omega, rfl, HB3.out, HO3.out⟩
            case measure => simp [intOf]; omega
        · have HE : Hid (rdAll s = ([], er, pl) ∧ ([] : List Rl).length ≤ 120) := by
            rcases HCR.out.2 with h | h
            · exact ⟨by rw [HI.out.1]; exact h.2 st L HP.out, by simp⟩
            · exact absurd h.1 her
          have her' : (er == 0) = false := beq_eq_false_iff_ne.2 her
          clear her hb2
          go_wp2
          go_ret3
          exact ⟨[], _, pl, er, rfl, HE, World.ownsRow_nil _ _ _ _, HB2.out⟩
      · have HE : Hid (rdAll s = (L, 0, 0) ∧ L.length ≤ 120) := ⟨by rw [HI.out.1]; exact rd_whole_end HI.out.2 ((kind_in HK.out).2 (by omega)), by omega⟩
        go_wp2
        go_ret3
        exact ⟨L, _, 0, 0, rfl, HE, HOW, HBr.out⟩

set_option maxHeartbeats 400000 in
theorem read_any (s : ByteArray) (w : World) (hs : s.size ≤ 140737488351232) :
    Calls Try.prog 24 #[.string s] w fun e w' => ∃ (L : List Rl) (v : Value) (a : Nat) (er : Int), e = .returned (.tuple #[v, .int .i64 er, .int .i64 (a : Nat)]) ∧ Hid (rdAll s = (L, er, a) ∧ L.length ≤ 120) ∧ Hid (w'.ownsRow w.heap.size 70 5 v L.length (rulC L)) ∧ Below w.heap.size w w' := by
  have HC : Hid (∀ w, Calls Try.prog 39 #[.string s] w fun e w' => ∃ (L : List Rl) (v : Value) (a : Nat) (er : Int), e = .returned (.tuple #[v, .int .i64 er, .int .i64 (a : Nat)]) ∧ Hid (rdAll s = (L, er, a) ∧ L.length ≤ 120) ∧ Hid (w'.ownsRow w.heap.size 70 5 v L.length (rulC L)) ∧ Below w.heap.size w w') := fun w => ruleRead_any s w hs
  go_enter Try.func24, Try.ntmps24
  go_wp2_with fail
  refine (HC.out _).mono ?_
  rintro e w1 ⟨L, v, a, er, rfl, HE, HO, hb⟩
  go_wp2
  go_ret3
  exact ⟨L, v, a, er, rfl, HE, HO, hb⟩

end Go.Proofs.Ytpclldccjpncdaa
