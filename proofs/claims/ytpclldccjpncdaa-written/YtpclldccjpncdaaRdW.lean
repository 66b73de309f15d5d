import Derived.Test.YtpclldccjpncdaaRdV
namespace Go.Proofs.Ytpclldccjpncdaa
open Go.RowKit

theorem sizeRulC : (Try.prog.info? 70).map (·.size) = some 5 := by kernel_rfl
def rul0 : Nat → Value := fun i => #[Value.string ByteArray.empty, .int .i64 0, .int .i64 0, .string ByteArray.empty, .string ByteArray.empty].getD i undef
theorem fin53d {P : Program} {fn : Func} {p x y : Tmp} {ty : TypeId} {w0 W : World} {B g : Nat} {f : Nat → Value} {v0 v1 v2 v3 v4 v : Value} {d : TypeDesc} {tmps : Array Value} (h : fn.results = #[.cell p ty, .tmp x, .tmp y]) (hp : tmps.getD p undef = .pointer (some ⟨g, 0, none⟩)) (hg : W.rowIs g ty 5 f)
    (hu : P.underlying ty = some d) (hd : (match d with | .struct _ | .array _ _ => true | _ => false) = true) (hi : (P.info? ty).map (·.size) = some 5) (hb : Below B w0 W) (hB : B ≤ g) (hv : v = .tuple #[.agg #[v0, v1, v2, v3, v4], tmps.getD x undef, tmps.getD y undef]) :
    bodyPost P fn (fun e w' => e = .returned v ∧ Below B w0 w') Exit.ret { tmps := tmps, defers := [] } (set5 W g v0 v1 v2 v3 v4).drew := by
  have hr := World.rowIs.drew (((((hg.set 0 v0).set 1 v1).set 2 v2).set 3 v3).set 4 v4)
  have := res53 (P := P) h tmps g _ d hp hr hu hd hi
  exact bodyPost_ret this rfl ⟨by rw [hv]; rfl, ((set5_only W g v0 v1 v2 v3 v4).below hb hB).drew⟩
theorem tok_let (s : ByteArray) (i : Nat) (hs : s.size ≤ 1000) (hi : i ≤ s.size) : ∃ (kd kn : Nat) (tx : ByteArray) (ka kf : Nat), Hid (∀ w, Calls Try.prog 73 #[.string s, .int .i64 (i : Nat)] w fun e w' => e = .returned (.agg #[.int .i64 (kd : Nat), .int .i64 (kn : Nat), .string tx, .int .i64 (ka : Nat), .int .i64 (kf : Nat)]) ∧ Below w.heap.size w w') ∧ Hid (kd = tkK (tk s i) ∧ kn = (tk s i).n ∧ tx = strOfNums (tk s i).tx ∧ ka = (tk s i).at' ∧ kf = tkF (tk s i)) ∧ ka ≤ s.size ∧ kf ≤ s.size ∧ kd ≤ 5 ∧ kn ≤ 3 := by
  obtain ⟨h1, h2, h3, h4, _⟩ := tk_lim hi
  exact ⟨_, _, _, _, _, fun w => tokenAt_any s i w hs hi, ⟨rfl, rfl, rfl, rfl, rfl⟩, h1, h2, h3, h4⟩
theorem part_let (s : ByteArray) (i most : Nat) (hs : s.size ≤ 1000) (hi : i ≤ s.size) (hm : most ≤ 100) : ∃ (pv : ByteArray) (pa : Nat) (pe : Int), Hid (∀ w, Calls Try.prog 74 #[.string s, .int .i64 (i : Nat), .int .i64 (most : Nat)] w fun e w' => e = .returned (.tuple #[.string pv, .int .i64 (pa : Nat), .int .i64 pe]) ∧ Below w.heap.size w w') ∧ Hid (pv = (rp s i most).1 ∧ pa = (rp s i most).2.1 ∧ pe = (rp s i most).2.2) ∧ pa ≤ s.size := by
  obtain ⟨h1, _, _, _⟩ := rp_to (s := s) (i := i) (most := most) hi
  exact ⟨_, _, _, fun w => readPart_any s i most w hs hi hm, ⟨rfl, rfl, rfl⟩, h1⟩

set_option maxRecDepth 100000 in
set_option maxHeartbeats 2000000 in
theorem readHead_any (s : ByteArray) (i : Nat) (w : World) (hs : s.size ≤ 1000) (hi : i ≤ s.size) :
    Calls Try.prog 64 #[.string s, .int .i64 (i : Nat)] w fun e w' => e = .returned (.tuple #[(rh s i).1.v, .int .i64 ((rh s i).2.1 : Nat), .int .i64 (rh s i).2.2]) ∧ Below w.heap.size w w' := by
  obtain ⟨v, hv⟩ : ∃ v, v = Value.tuple #[(rh s i).1.v, .int .i64 ((rh s i).2.1 : Nat), .int .i64 (rh s i).2.2] := ⟨_, rfl⟩
  have HV : Hid (v = Value.tuple #[(rh s i).1.v, .int .i64 ((rh s i).2.1 : Nat), .int .i64 (rh s i).2.2]) := hv
  rw [← hv]
  clear hv
  obtain ⟨kd, kn, tx, ka, kf, HC, HT, b1, b2, b3, b4⟩ := tok_let s i hs hi
  by_cases h1 : (tk s i).kind = 1
  · have hk : kd = 1 := by rw [HT.out.1]; exact (tkK_eq (by omega) (by omega)).2 h1
    have hkf : kf = (tk s i).fin := by rw [HT.out.2.2.2.2]; exact tkF_eq (by omega)
    subst hk
    obtain ⟨kd2, kn2, tx2, ka2, kf2, HC2, HT2, e1, e2, e3, e4⟩ := tok_let s kf hs b2
    by_cases h2 : (tk s kf).kind = 2
    · have hk : kd2 = 2 := by rw [HT2.out.1]; exact (tkK_eq (by omega) (by omega)).2 h2
      have hkf2 : kf2 = (tk s kf).fin := by rw [HT2.out.2.2.2.2]; exact tkF_eq (by omega)
      subst hk
      have hj : rhJ s kf = kf2 := by unfold rhJ; rw [if_pos h2, hkf2]
      have hb : rhB s kf = kn2 := by unfold rhB; rw [if_pos h2, HT2.out.2.1]
      obtain ⟨pv, pa, pe, HP, HPE, p1⟩ := part_let s kf2 6 hs e2 (by omega)
      by_cases hpe : pe = 0
      · have HE : Hid (rh s i = ({ noRl with reset := pv, before := (kn2 : Nat) }, pa, 0)) := by
          show _ = _
          unfold rh
          rw [if_neg (not_not_intro h1), ← hkf, hj, hb, ← HPE.out.1, ← HPE.out.2.1, ← HPE.out.2.2, if_neg (not_not_intro hpe)]
        subst hpe
        clear h1 hkf h2 hkf2 hj hb
        go_enter Try.func64, Try.ntmps64
        go_wp2_with fail
        refine (HC.out _).mono ?_
        rintro e w1 ⟨rfl, hb1⟩
        simp only [size_one] at hb1
        have HR1 : Hid (w1.rowIs w.heap.size 70 5 rul0) := World.rowIs.of_block (row_new _ _ _ 5 rfl) (hb1.block _ (by omega))
        have HB1 : Hid (Below w.heap.size w w1) := below_then (below_one _) (by simp only [size_one]; exact hb1)
        have hz1 : w.heap.size + 1 ≤ w1.heap.size := by have := hb1.size; simpa using this
        clear hb1
        go_wp2_with fail
        refine (HC2.out _).mono ?_
        rintro e w2 ⟨rfl, hb2⟩
        have HR2 : Hid (w2.rowIs w.heap.size 70 5 rul0) := World.rowIs.of_block (HR1.out.alloc _) (hb2.block _ (by simp; omega))
        have HB2 : Hid (Below w.heap.size w w2) := below_then (below_then HB1.out (below_one _)) hb2
        have hz2 : w.heap.size + 1 ≤ w2.heap.size := by have := hb2.size; simp at this; omega
        clear hb2
        go_wp2_with fail
        refine (HP.out _).mono ?_
        rintro e w3 ⟨rfl, hb3⟩
        have HR3 : Hid (w3.rowIs w.heap.size 70 5 rul0) := World.rowIs.of_block (HR2.out.alloc _) (hb3.block _ (by simp; omega))
        have HB3 : Hid (Below w.heap.size w w3) := below_then (below_then HB2.out (below_one _)) hb3
        obtain ⟨⟨c0, c1, c2, c3, c4⟩, f0, f1, f2, f3, f4⟩ := row5F HR3.out
        clear hb3
        go_wp2
        exact fin53 rfl (by rfl) HR3.out Try.underlying70 rfl sizeRulC HB3.out (Nat.le_refl _) (by rw [HV.out, HE.out]; rfl)
      · have HE : Hid (rh s i = (noRl, pa, pe)) := by
          show _ = _
          unfold rh
          rw [if_neg (not_not_intro h1), ← hkf, hj, ← HPE.out.2.1, ← HPE.out.2.2, if_pos hpe]
        have hpe' : (pe == 0) = false := beq_eq_false_iff_ne.2 hpe
        clear h1 hkf h2 hkf2 hj hb hpe
        go_enter Try.func64, Try.ntmps64
        go_wp2_with fail
        refine (HC.out _).mono ?_
        rintro e w1 ⟨rfl, hb1⟩
        simp only [size_one] at hb1
        have HR1 : Hid (w1.rowIs w.heap.size 70 5 rul0) := World.rowIs.of_block (row_new _ _ _ 5 rfl) (hb1.block _ (by omega))
        have HB1 : Hid (Below w.heap.size w w1) := below_then (below_one _) (by simp only [size_one]; exact hb1)
        have hz1 : w.heap.size + 1 ≤ w1.heap.size := by have := hb1.size; simpa using this
        clear hb1
        go_wp2_with fail
        refine (HC2.out _).mono ?_
        rintro e w2 ⟨rfl, hb2⟩
        have HR2 : Hid (w2.rowIs w.heap.size 70 5 rul0) := World.rowIs.of_block (HR1.out.alloc _) (hb2.block _ (by simp; omega))
        have HB2 : Hid (Below w.heap.size w w2) := below_then (below_then HB1.out (below_one _)) hb2
        have hz2 : w.heap.size + 1 ≤ w2.heap.size := by have := hb2.size; simp at this; omega
        clear hb2
        go_wp2_with fail
        refine (HP.out _).mono ?_
        rintro e w3 ⟨rfl, hb3⟩
        have HR3 : Hid (w3.rowIs w.heap.size 70 5 rul0) := World.rowIs.of_block (HR2.out.alloc _) (hb3.block _ (by simp; omega))
        have HB3 : Hid (Below w.heap.size w w3) := below_then (below_then HB2.out (below_one _)) hb3
        obtain ⟨⟨c0, c1, c2, c3, c4⟩, f0, f1, f2, f3, f4⟩ := row5F HR3.out
        clear hb3
        go_wp2
        exact fin53 rfl (by rfl) HR3.out Try.underlying70 rfl sizeRulC HB3.out (Nat.le_refl _) (by rw [HV.out, HE.out]; rfl)
    · have hk : kd2 ≠ 2 := fun h => h2 ((tkK_eq (by omega) (by omega)).1 (by rw [← HT2.out.1]; exact h))
      have hk' : ((kd2 : Int) == 2) = false := beq_eq_false_iff_ne.2 (by omega)
      have hj : rhJ s kf = kf := by unfold rhJ; rw [if_neg h2]
      have hb : rhB s kf = 0 := by unfold rhB; rw [if_neg h2]
      obtain ⟨pv, pa, pe, HP, HPE, p1⟩ := part_let s kf 6 hs b2 (by omega)
      by_cases hpe : pe = 0
      · have HE : Hid (rh s i = ({ noRl with reset := pv, before := 0 }, pa, 0)) := by
          show _ = _
          unfold rh
          rw [if_neg (not_not_intro h1), ← hkf, hj, hb, ← HPE.out.1, ← HPE.out.2.1, ← HPE.out.2.2, if_neg (not_not_intro hpe)]
          rfl
        subst hpe
        clear h1 hkf h2 hj hb hk
        go_enter Try.func64, Try.ntmps64
        go_wp2_with fail
        refine (HC.out _).mono ?_
        rintro e w1 ⟨rfl, hb1⟩
        simp only [size_one] at hb1
        have HR1 : Hid (w1.rowIs w.heap.size 70 5 rul0) := World.rowIs.of_block (row_new _ _ _ 5 rfl) (hb1.block _ (by omega))
        have HB1 : Hid (Below w.heap.size w w1) := below_then (below_one _) (by simp only [size_one]; exact hb1)
        have hz1 : w.heap.size + 1 ≤ w1.heap.size := by have := hb1.size; simpa using this
        clear hb1
        go_wp2_with fail
        refine (HC2.out _).mono ?_
        rintro e w2 ⟨rfl, hb2⟩
        have HR2 : Hid (w2.rowIs w.heap.size 70 5 rul0) := World.rowIs.of_block (HR1.out.alloc _) (hb2.block _ (by simp; omega))
        have HB2 : Hid (Below w.heap.size w w2) := below_then (below_then HB1.out (below_one _)) hb2
        have hz2 : w.heap.size + 1 ≤ w2.heap.size := by have := hb2.size; simp at this; omega
        clear hb2
        go_wp2_with fail
        refine (HP.out _).mono ?_
        rintro e w3 ⟨rfl, hb3⟩
        have HR3 : Hid (w3.rowIs w.heap.size 70 5 rul0) := World.rowIs.of_block (HR2.out.alloc _) (hb3.block _ (by simp; omega))
        have HB3 : Hid (Below w.heap.size w w3) := below_then (below_then HB2.out (below_one _)) hb3
        obtain ⟨⟨c0, c1, c2, c3, c4⟩, f0, f1, f2, f3, f4⟩ := row5F HR3.out
        clear hb3
        go_wp2
        exact fin53 rfl (by rfl) HR3.out Try.underlying70 rfl sizeRulC HB3.out (Nat.le_refl _) (by rw [HV.out, HE.out]; rfl)
      · have HE : Hid (rh s i = (noRl, pa, pe)) := by
          show _ = _
          unfold rh
          rw [if_neg (not_not_intro h1), ← hkf, hj, ← HPE.out.2.1, ← HPE.out.2.2, if_pos hpe]
        have hpe' : (pe == 0) = false := beq_eq_false_iff_ne.2 hpe
        clear h1 hkf h2 hj hb hpe hk
        go_enter Try.func64, Try.ntmps64
        go_wp2_with fail
        refine (HC.out _).mono ?_
        rintro e w1 ⟨rfl, hb1⟩
        simp only [size_one] at hb1
        have HR1 : Hid (w1.rowIs w.heap.size 70 5 rul0) := World.rowIs.of_block (row_new _ _ _ 5 rfl) (hb1.block _ (by omega))
        have HB1 : Hid (Below w.heap.size w w1) := below_then (below_one _) (by simp only [size_one]; exact hb1)
        have hz1 : w.heap.size + 1 ≤ w1.heap.size := by have := hb1.size; simpa using this
        clear hb1
        go_wp2_with fail
        refine (HC2.out _).mono ?_
        rintro e w2 ⟨rfl, hb2⟩
        have HR2 : Hid (w2.rowIs w.heap.size 70 5 rul0) := World.rowIs.of_block (HR1.out.alloc _) (hb2.block _ (by simp; omega))
        have HB2 : Hid (Below w.heap.size w w2) := below_then (below_then HB1.out (below_one _)) hb2
        have hz2 : w.heap.size + 1 ≤ w2.heap.size := by have := hb2.size; simp at this; omega
        clear hb2
        go_wp2_with fail
        refine (HP.out _).mono ?_
        rintro e w3 ⟨rfl, hb3⟩
        have HR3 : Hid (w3.rowIs w.heap.size 70 5 rul0) := World.rowIs.of_block (HR2.out.alloc _) (hb3.block _ (by simp; omega))
        have HB3 : Hid (Below w.heap.size w w3) := below_then (below_then HB2.out (below_one _)) hb3
        obtain ⟨⟨c0, c1, c2, c3, c4⟩, f0, f1, f2, f3, f4⟩ := row5F HR3.out
        clear hb3
        go_wp2
        exact fin53 rfl (by rfl) HR3.out Try.underlying70 rfl sizeRulC HB3.out (Nat.le_refl _) (by rw [HV.out, HE.out]; rfl)
  · have hk : kd ≠ 1 := fun h => h1 ((tkK_eq (by omega) (by omega)).1 (by rw [← HT.out.1]; exact h))
    have hk' : ((kd : Int) == 1) = false := beq_eq_false_iff_ne.2 (by omega)
    have HE : Hid (rh s i = (noRl, ka, 8)) := by
      show _ = _
      unfold rh
      rw [if_pos h1, HT.out.2.2.2.1]
    clear h1 hk
    go_enter Try.func64, Try.ntmps64
    go_wp2_with fail
    refine (HC.out _).mono ?_
    rintro e w1 ⟨rfl, hb1⟩
    simp only [size_one] at hb1
    have HR1 : Hid (w1.rowIs w.heap.size 70 5 rul0) := World.rowIs.of_block (row_new _ _ _ 5 rfl) (hb1.block _ (by omega))
    have HB1 : Hid (Below w.heap.size w w1) := below_then (below_one _) (by simp only [size_one]; exact hb1)
    have hz1 : w.heap.size + 1 ≤ w1.heap.size := by have := hb1.size; simpa using this
    clear hb1
    have HR2 : Hid ((w1.alloc (.cells #[.int .i64 (kd : Nat), .int .i64 (kn : Nat), .string tx, .int .i64 (ka : Nat), .int .i64 (kf : Nat)] 110)).rowIs w.heap.size 70 5 rul0) := HR1.out.alloc _
    have HB2 : Hid (Below w.heap.size w (w1.alloc (.cells #[.int .i64 (kd : Nat), .int .i64 (kn : Nat), .string tx, .int .i64 (ka : Nat), .int .i64 (kf : Nat)] 110))) := below_then HB1.out (below_one _)
    obtain ⟨⟨c0, c1, c2, c3, c4⟩, f0, f1, f2, f3, f4⟩ := row5F HR2.out
    go_wp2
    go_region
    go_wp2
    exact fin53d rfl (by rfl) HR2.out Try.underlying70 rfl sizeRulC HB2.out (Nat.le_refl _) (by rw [HV.out, HE.out]; rfl)

set_option maxRecDepth 100000 in
set_option maxHeartbeats 2000000 in
theorem readRelation_any (s : ByteArray) (i : Nat) (w : World) (hs : s.size ≤ 1000) (hi : i ≤ s.size) :
    Calls Try.prog 66 #[.string s, .int .i64 (i : Nat)] w fun e w' => e = .returned (.tuple #[(rr s i).1.v, .int .i64 ((rr s i).2.1 : Nat), .int .i64 (rr s i).2.2]) ∧ Below w.heap.size w w' := by
  obtain ⟨v, hv⟩ : ∃ v, v = Value.tuple #[(rr s i).1.v, .int .i64 ((rr s i).2.1 : Nat), .int .i64 (rr s i).2.2] := ⟨_, rfl⟩
  have HV : Hid (v = Value.tuple #[(rr s i).1.v, .int .i64 ((rr s i).2.1 : Nat), .int .i64 (rr s i).2.2]) := hv
  rw [← hv]
  clear hv
  obtain ⟨kd, kn, tx, ka, kf, HC, HT, b1, b2, b3, b4⟩ := tok_let s i hs hi
  by_cases h1 : (tk s i).kind = 3
  · have hk : kd = 3 := by rw [HT.out.1]; exact (tkK_eq (by omega) (by omega)).2 h1
    have hkf : kf = (tk s i).fin := by rw [HT.out.2.2.2.2]; exact tkF_eq (by omega)
    have hkn := HT.out.2.1
    subst hk
    obtain ⟨pv, pa, pe, HP, HPE, p1⟩ := part_let s kf 3 hs b2 (by omega)
    by_cases hpe : pe = 0
    · have hrr : rr s i = rr2 s kn pv pa := by
        unfold rr
        rw [if_neg (not_not_intro h1), ← hkf, ← HPE.out.1, ← HPE.out.2.1, ← HPE.out.2.2, if_neg (not_not_intro hpe), ← hkn]
      obtain ⟨kd2, kn2, tx2, ka2, kf2, HC2, HT2, e1, e2, e3, e4⟩ := tok_let s pa hs p1
      subst hpe
      by_cases h2 : (tk s pa).kind = 4
      · have hk : kd2 = 4 := by rw [HT2.out.1]; exact (tkK_eq (by omega) (by omega)).2 h2
        have hkf2 : kf2 = (tk s pa).fin := by rw [HT2.out.2.2.2.2]; exact tkF_eq (by omega)
        subst hk
        obtain ⟨pv2, pa2, pe2, HP2, HPE2, p2⟩ := part_let s kf2 6 hs e2 (by omega)
        by_cases hpe2 : pe2 = 0
        · have HE : Hid (rr s i = ({ noRl with level := (kn : Nat), text := pv, more := pv2 }, pa2, 0)) := by
            show _ = _
            rw [hrr]
            unfold rr2
            rw [if_neg (not_not_intro h2), ← hkf2, ← HPE2.out.1, ← HPE2.out.2.1, ← HPE2.out.2.2, if_neg (not_not_intro hpe2)]
          subst hpe2
          clear h1 hkf h2 hkf2 hkn hrr
          go_enter Try.func66, Try.ntmps66
          go_wp2_with fail
          refine (HC.out _).mono ?_
          rintro e w1 ⟨rfl, hb1⟩
          simp only [size_one] at hb1
          have HR1 : Hid (w1.rowIs w.heap.size 70 5 rul0) := World.rowIs.of_block (row_new _ _ _ 5 rfl) (hb1.block _ (by omega))
          have HB1 : Hid (Below w.heap.size w w1) := below_then (below_one _) (by simp only [size_one]; exact hb1)
          have hz1 : w.heap.size + 1 ≤ w1.heap.size := by have := hb1.size; simpa using this
          clear hb1
          have HS1 : Hid ((w1.alloc (.cells #[.int .i64 (3 : Nat), .int .i64 (kn : Nat), .string tx, .int .i64 (ka : Nat), .int .i64 (kf : Nat)] 110)).rowIs w1.heap.size 110 5 (fun i => #[Value.int .i64 (3 : Nat), .int .i64 (kn : Nat), .string tx, .int .i64 (ka : Nat), .int .i64 (kf : Nat)].getD i undef)) := row_new _ _ _ 5 rfl
          go_wp2_with fail
          refine (HP.out _).mono ?_
          rintro e w2 ⟨rfl, hb2⟩
          have HR2 : Hid (w2.rowIs w.heap.size 70 5 rul0) := World.rowIs.of_block (HR1.out.alloc _) (hb2.block _ (by simp; omega))
          have HB2 : Hid (Below w.heap.size w w2) := below_then (below_then HB1.out (below_one _)) hb2
          have HS2 : Hid (w2.rowIs w1.heap.size 110 5 (fun i => #[Value.int .i64 (3 : Nat), .int .i64 (kn : Nat), .string tx, .int .i64 (ka : Nat), .int .i64 (kf : Nat)].getD i undef)) := World.rowIs.of_block HS1.out (hb2.block _ (by simp))
          have hz2 : w1.heap.size + 1 ≤ w2.heap.size := by have := hb2.size; simp at this; omega
          clear hb2
          go_wp2_with fail
          refine (HC2.out _).mono ?_
          rintro e w3 ⟨rfl, hb3⟩
          have HR3 : Hid (w3.rowIs w.heap.size 70 5 rul0) := World.rowIs.of_block HR2.out (hb3.block _ (by omega))
          have HB3 : Hid (Below w.heap.size w w3) := below_then HB2.out hb3
          have HS3 : Hid (w3.rowIs w1.heap.size 110 5 (fun i => #[Value.int .i64 (3 : Nat), .int .i64 (kn : Nat), .string tx, .int .i64 (ka : Nat), .int .i64 (kf : Nat)].getD i undef)) := World.rowIs.of_block HS2.out (hb3.block _ (by omega))
          have hz3 : w1.heap.size + 1 ≤ w3.heap.size := by have := hb3.size; omega
          clear hb3
          go_wp2_with fail
          refine (HP2.out _).mono ?_
          rintro e w4 ⟨rfl, hb4⟩
          have HR4 : Hid (w4.rowIs w.heap.size 70 5 rul0) := World.rowIs.of_block (HR3.out.alloc _) (hb4.block _ (by simp; omega))
          have HB4 : Hid (Below w.heap.size w w4) := below_then (below_then HB3.out (below_one _)) hb4
          have c1s : w4.cell? ⟨w1.heap.size, 1, none⟩ = some (.int .i64 (kn : Nat)) := (World.rowIs.of_block (HS3.out.alloc _) (hb4.block _ (by simp; omega))).cell (i := 1) (by omega)
          obtain ⟨⟨c0, c1, c2, c3, c4⟩, f0, f1, f2, f3, f4⟩ := row5F HR4.out
          clear hb4
          go_wp2
          exact fin53 rfl (by rfl) HR4.out Try.underlying70 rfl sizeRulC HB4.out (Nat.le_refl _) (by rw [HV.out, HE.out]; rfl)
        · have HE : Hid (rr s i = (noRl, pa2, pe2)) := by
            show _ = _
            rw [hrr]
            unfold rr2
            rw [if_neg (not_not_intro h2), ← hkf2, ← HPE2.out.2.1, ← HPE2.out.2.2, if_pos hpe2]
          have hpe' : (pe2 == 0) = false := beq_eq_false_iff_ne.2 hpe2
          clear h1 hkf h2 hkf2 hkn hrr hpe2
          go_enter Try.func66, Try.ntmps66
          go_wp2_with fail
          refine (HC.out _).mono ?_
          rintro e w1 ⟨rfl, hb1⟩
          simp only [size_one] at hb1
          have HR1 : Hid (w1.rowIs w.heap.size 70 5 rul0) := World.rowIs.of_block (row_new _ _ _ 5 rfl) (hb1.block _ (by omega))
          have HB1 : Hid (Below w.heap.size w w1) := below_then (below_one _) (by simp only [size_one]; exact hb1)
          have hz1 : w.heap.size + 1 ≤ w1.heap.size := by have := hb1.size; simpa using this
          clear hb1
          have HS1 : Hid ((w1.alloc (.cells #[.int .i64 (3 : Nat), .int .i64 (kn : Nat), .string tx, .int .i64 (ka : Nat), .int .i64 (kf : Nat)] 110)).rowIs w1.heap.size 110 5 (fun i => #[Value.int .i64 (3 : Nat), .int .i64 (kn : Nat), .string tx, .int .i64 (ka : Nat), .int .i64 (kf : Nat)].getD i undef)) := row_new _ _ _ 5 rfl
          go_wp2_with fail
          refine (HP.out _).mono ?_
          rintro e w2 ⟨rfl, hb2⟩
          have HR2 : Hid (w2.rowIs w.heap.size 70 5 rul0) := World.rowIs.of_block (HR1.out.alloc _) (hb2.block _ (by simp; omega))
          have HB2 : Hid (Below w.heap.size w w2) := below_then (below_then HB1.out (below_one _)) hb2
          have HS2 : Hid (w2.rowIs w1.heap.size 110 5 (fun i => #[Value.int .i64 (3 : Nat), .int .i64 (kn : Nat), .string tx, .int .i64 (ka : Nat), .int .i64 (kf : Nat)].getD i undef)) := World.rowIs.of_block HS1.out (hb2.block _ (by simp))
          have hz2 : w1.heap.size + 1 ≤ w2.heap.size := by have := hb2.size; simp at this; omega
          clear hb2
          go_wp2_with fail
          refine (HC2.out _).mono ?_
          rintro e w3 ⟨rfl, hb3⟩
          have HR3 : Hid (w3.rowIs w.heap.size 70 5 rul0) := World.rowIs.of_block HR2.out (hb3.block _ (by omega))
          have HB3 : Hid (Below w.heap.size w w3) := below_then HB2.out hb3
          have HS3 : Hid (w3.rowIs w1.heap.size 110 5 (fun i => #[Value.int .i64 (3 : Nat), .int .i64 (kn : Nat), .string tx, .int .i64 (ka : Nat), .int .i64 (kf : Nat)].getD i undef)) := World.rowIs.of_block HS2.out (hb3.block _ (by omega))
          have hz3 : w1.heap.size + 1 ≤ w3.heap.size := by have := hb3.size; omega
          clear hb3
          go_wp2_with fail
          refine (HP2.out _).mono ?_
          rintro e w4 ⟨rfl, hb4⟩
          have HR4 : Hid (w4.rowIs w.heap.size 70 5 rul0) := World.rowIs.of_block (HR3.out.alloc _) (hb4.block _ (by simp; omega))
          have HB4 : Hid (Below w.heap.size w w4) := below_then (below_then HB3.out (below_one _)) hb4
          have c1s : w4.cell? ⟨w1.heap.size, 1, none⟩ = some (.int .i64 (kn : Nat)) := (World.rowIs.of_block (HS3.out.alloc _) (hb4.block _ (by simp; omega))).cell (i := 1) (by omega)
          obtain ⟨⟨c0, c1, c2, c3, c4⟩, f0, f1, f2, f3, f4⟩ := row5F HR4.out
          clear hb4
          go_wp2
          exact fin53 rfl (by rfl) HR4.out Try.underlying70 rfl sizeRulC HB4.out (Nat.le_refl _) (by rw [HV.out, HE.out]; rfl)
      · have hk : kd2 ≠ 4 := fun h => h2 ((tkK_eq (by omega) (by omega)).1 (by rw [← HT2.out.1]; exact h))
        have hk' : ((kd2 : Int) == 4) = false := beq_eq_false_iff_ne.2 (by omega)
        have HE : Hid (rr s i = ({ noRl with level := (kn : Nat), text := pv }, pa, 0)) := by
          show _ = _
          rw [hrr]
          unfold rr2
          rw [if_pos h2]
        clear h1 hkf h2 hkn hrr hk
        go_enter Try.func66, Try.ntmps66
        go_wp2_with fail
        refine (HC.out _).mono ?_
        rintro e w1 ⟨rfl, hb1⟩
        simp only [size_one] at hb1
        have HR1 : Hid (w1.rowIs w.heap.size 70 5 rul0) := World.rowIs.of_block (row_new _ _ _ 5 rfl) (hb1.block _ (by omega))
        have HB1 : Hid (Below w.heap.size w w1) := below_then (below_one _) (by simp only [size_one]; exact hb1)
        have hz1 : w.heap.size + 1 ≤ w1.heap.size := by have := hb1.size; simpa using this
        clear hb1
        have HS1 : Hid ((w1.alloc (.cells #[.int .i64 (3 : Nat), .int .i64 (kn : Nat), .string tx, .int .i64 (ka : Nat), .int .i64 (kf : Nat)] 110)).rowIs w1.heap.size 110 5 (fun i => #[Value.int .i64 (3 : Nat), .int .i64 (kn : Nat), .string tx, .int .i64 (ka : Nat), .int .i64 (kf : Nat)].getD i undef)) := row_new _ _ _ 5 rfl
        go_wp2_with fail
        refine (HP.out _).mono ?_
        rintro e w2 ⟨rfl, hb2⟩
        have HR2 : Hid (w2.rowIs w.heap.size 70 5 rul0) := World.rowIs.of_block (HR1.out.alloc _) (hb2.block _ (by simp; omega))
        have HB2 : Hid (Below w.heap.size w w2) := below_then (below_then HB1.out (below_one _)) hb2
        have HS2 : Hid (w2.rowIs w1.heap.size 110 5 (fun i => #[Value.int .i64 (3 : Nat), .int .i64 (kn : Nat), .string tx, .int .i64 (ka : Nat), .int .i64 (kf : Nat)].getD i undef)) := World.rowIs.of_block HS1.out (hb2.block _ (by simp))
        have hz2 : w1.heap.size + 1 ≤ w2.heap.size := by have := hb2.size; simp at this; omega
        clear hb2
        go_wp2_with fail
        refine (HC2.out _).mono ?_
        rintro e w3 ⟨rfl, hb3⟩
        have HR3 : Hid (w3.rowIs w.heap.size 70 5 rul0) := World.rowIs.of_block HR2.out (hb3.block _ (by omega))
        have HB3 : Hid (Below w.heap.size w w3) := below_then HB2.out hb3
        have HS3 : Hid (w3.rowIs w1.heap.size 110 5 (fun i => #[Value.int .i64 (3 : Nat), .int .i64 (kn : Nat), .string tx, .int .i64 (ka : Nat), .int .i64 (kf : Nat)].getD i undef)) := World.rowIs.of_block HS2.out (hb3.block _ (by omega))
        have hz3 : w1.heap.size + 1 ≤ w3.heap.size := by have := hb3.size; omega
        clear hb3
        have HR4 : Hid ((w3.alloc (.cells #[.int .i64 (kd2 : Nat), .int .i64 (kn2 : Nat), .string tx2, .int .i64 (ka2 : Nat), .int .i64 (kf2 : Nat)] 110)).rowIs w.heap.size 70 5 rul0) := HR3.out.alloc _
        have HB4 : Hid (Below w.heap.size w (w3.alloc (.cells #[.int .i64 (kd2 : Nat), .int .i64 (kn2 : Nat), .string tx2, .int .i64 (ka2 : Nat), .int .i64 (kf2 : Nat)] 110))) := below_then HB3.out (below_one _)
        have c1s : (w3.alloc (.cells #[.int .i64 (kd2 : Nat), .int .i64 (kn2 : Nat), .string tx2, .int .i64 (ka2 : Nat), .int .i64 (kf2 : Nat)] 110)).cell? ⟨w1.heap.size, 1, none⟩ = some (.int .i64 (kn : Nat)) := (HS3.out.alloc _).cell (i := 1) (by omega)
        obtain ⟨⟨c0, c1, c2, c3, c4⟩, f0, f1, f2, f3, f4⟩ := row5F HR4.out
        go_wp2
        exact fin53 rfl (by rfl) HR4.out Try.underlying70 rfl sizeRulC HB4.out (Nat.le_refl _) (by rw [HV.out, HE.out]; rfl)
    · have HE : Hid (rr s i = (noRl, pa, pe)) := by
        show _ = _
        unfold rr
        rw [if_neg (not_not_intro h1), ← hkf, ← HPE.out.2.1, ← HPE.out.2.2, if_pos hpe]
      have hpe' : (pe == 0) = false := beq_eq_false_iff_ne.2 hpe
      clear h1 hkf hkn hpe
      go_enter Try.func66, Try.ntmps66
      go_wp2_with fail
      refine (HC.out _).mono ?_
      rintro e w1 ⟨rfl, hb1⟩
      simp only [size_one] at hb1
      have HR1 : Hid (w1.rowIs w.heap.size 70 5 rul0) := World.rowIs.of_block (row_new _ _ _ 5 rfl) (hb1.block _ (by omega))
      have HB1 : Hid (Below w.heap.size w w1) := below_then (below_one _) (by simp only [size_one]; exact hb1)
      have hz1 : w.heap.size + 1 ≤ w1.heap.size := by have := hb1.size; simpa using this
      clear hb1
      have HS1 : Hid ((w1.alloc (.cells #[.int .i64 (3 : Nat), .int .i64 (kn : Nat), .string tx, .int .i64 (ka : Nat), .int .i64 (kf : Nat)] 110)).rowIs w1.heap.size 110 5 (fun i => #[Value.int .i64 (3 : Nat), .int .i64 (kn : Nat), .string tx, .int .i64 (ka : Nat), .int .i64 (kf : Nat)].getD i undef)) := row_new _ _ _ 5 rfl
      go_wp2_with fail
      refine (HP.out _).mono ?_
      rintro e w2 ⟨rfl, hb2⟩
      have HR2 : Hid (w2.rowIs w.heap.size 70 5 rul0) := World.rowIs.of_block (HR1.out.alloc _) (hb2.block _ (by simp; omega))
      have HB2 : Hid (Below w.heap.size w w2) := below_then (below_then HB1.out (below_one _)) hb2
      have HS2 : Hid (w2.rowIs w1.heap.size 110 5 (fun i => #[Value.int .i64 (3 : Nat), .int .i64 (kn : Nat), .string tx, .int .i64 (ka : Nat), .int .i64 (kf : Nat)].getD i undef)) := World.rowIs.of_block HS1.out (hb2.block _ (by simp))
      have hz2 : w1.heap.size + 1 ≤ w2.heap.size := by have := hb2.size; simp at this; omega
      clear hb2
      obtain ⟨⟨c0, c1, c2, c3, c4⟩, f0, f1, f2, f3, f4⟩ := row5F HR2.out
      go_wp2
      exact fin53 rfl (by rfl) HR2.out Try.underlying70 rfl sizeRulC HB2.out (Nat.le_refl _) (by rw [HV.out, HE.out]; rfl)
  · have hk : kd ≠ 3 := fun h => h1 ((tkK_eq (by omega) (by omega)).1 (by rw [← HT.out.1]; exact h))
    have hk' : ((kd : Int) == 3) = false := beq_eq_false_iff_ne.2 (by omega)
    have HE : Hid (rr s i = (noRl, ka, 8)) := by
      show _ = _
      unfold rr
      rw [if_pos h1, HT.out.2.2.2.1]
    clear h1 hk
    go_enter Try.func66, Try.ntmps66
    go_wp2_with fail
    refine (HC.out _).mono ?_
    rintro e w1 ⟨rfl, hb1⟩
    simp only [size_one] at hb1
    have HR1 : Hid (w1.rowIs w.heap.size 70 5 rul0) := World.rowIs.of_block (row_new _ _ _ 5 rfl) (hb1.block _ (by omega))
    have HB1 : Hid (Below w.heap.size w w1) := below_then (below_one _) (by simp only [size_one]; exact hb1)
    have hz1 : w.heap.size + 1 ≤ w1.heap.size := by have := hb1.size; simpa using this
    clear hb1
    have HR2 : Hid ((w1.alloc (.cells #[.int .i64 (kd : Nat), .int .i64 (kn : Nat), .string tx, .int .i64 (ka : Nat), .int .i64 (kf : Nat)] 110)).rowIs w.heap.size 70 5 rul0) := HR1.out.alloc _
    have HB2 : Hid (Below w.heap.size w (w1.alloc (.cells #[.int .i64 (kd : Nat), .int .i64 (kn : Nat), .string tx, .int .i64 (ka : Nat), .int .i64 (kf : Nat)] 110))) := below_then HB1.out (below_one _)
    obtain ⟨⟨c0, c1, c2, c3, c4⟩, f0, f1, f2, f3, f4⟩ := row5F HR2.out
    go_wp2
    go_region
    go_wp2
    exact fin53d rfl (by rfl) HR2.out Try.underlying70 rfl sizeRulC HB2.out (Nat.le_refl _) (by rw [HV.out, HE.out]; rfl)

end Go.Proofs.Ytpclldccjpncdaa
