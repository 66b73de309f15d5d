import Derived.Test.YtpclldccjpncdabB09
namespace Go.Proofs.Ytpclldccjpncdab
open Go.RowKit

theorem sizeRulC : (Try.prog.info? 48).map (·.size) = some 5 := by kernel_rfl
def rul0 : Nat → Value := fun i => #[Value.string ByteArray.empty, .int .i64 0, .int .i64 0, .string ByteArray.empty, .string ByteArray.empty].getD i undef
theorem fin53d {P : Program} {fn : Func} {p x y : Tmp} {ty : TypeId} {w0 W : World} {B g : Nat} {f : Nat → Value} {v0 v1 v2 v3 v4 v : Value} {d : TypeDesc} {tmps : Array Value} (h : fn.results = #[.cell p ty, .tmp x, .tmp y]) (hp : tmps.getD p undef = .pointer (some ⟨g, 0, none⟩)) (hg : W.rowIs g ty 5 f)
    (hu : P.underlying ty = some d) (hd : (match d with | .struct _ | .array _ _ => true | _ => false) = true) (hi : (P.info? ty).map (·.size) = some 5) (hb : Below B w0 W) (hB : B ≤ g) (hv : v = .tuple #[.agg #[v0, v1, v2, v3, v4], tmps.getD x undef, tmps.getD y undef]) :
    bodyPost P fn (fun e w' => e = .returned v ∧ Below B w0 w') Exit.ret { tmps := tmps, defers := [] } (set5 W g v0 v1 v2 v3 v4).drew := by
  have hr := World.rowIs.drew (((((hg.set 0 v0).set 1 v1).set 2 v2).set 3 v3).set 4 v4)
  have := res53 (P := P) h tmps g _ d hp hr hu hd hi
  exact bodyPost_ret this rfl ⟨by rw [hv]; rfl, ((set5_only W g v0 v1 v2 v3 v4).below hb hB).drew⟩
theorem tok_let (s : ByteArray) (i : Nat) (hs : s.size ≤ 1000) (hi : i ≤ s.size) : ∃ (kd kn : Nat) (tx : ByteArray) (ka kf : Nat), Hid (∀ w, Calls Try.prog 81 #[.string s, .int .i64 (i : Nat)] w fun e w' => e = .returned (.agg #[.int .i64 (kd : Nat), .int .i64 (kn : Nat), .string tx, .int .i64 (ka : Nat), .int .i64 (kf : Nat)]) ∧ Below w.heap.size w w') ∧ Hid (kd = tkK (tk s i) ∧ kn = (tk s i).n ∧ tx = strOfNums (tk s i).tx ∧ ka = (tk s i).at' ∧ kf = tkF (tk s i)) ∧ ka ≤ s.size ∧ kf ≤ s.size ∧ kd ≤ 5 ∧ kn ≤ 3 := by
  obtain ⟨h1, h2, h3, h4, _⟩ := tk_lim hi
  exact ⟨_, _, _, _, _, fun w => tokenAt_any s i w hs hi, ⟨rfl, rfl, rfl, rfl, rfl⟩, h1, h2, h3, h4⟩
theorem part_let (s : ByteArray) (i most : Nat) (hs : s.size ≤ 1000) (hi : i ≤ s.size) (hm : most ≤ 100) : ∃ (pv : ByteArray) (pa : Nat) (pe : Int), Hid (∀ w, Calls Try.prog 82 #[.string s, .int .i64 (i : Nat), .int .i64 (most : Nat)] w fun e w' => e = .returned (.tuple #[.string pv, .int .i64 (pa : Nat), .int .i64 pe]) ∧ Below w.heap.size w w') ∧ Hid (pv = (rp s i most).1 ∧ pa = (rp s i most).2.1 ∧ pe = (rp s i most).2.2) ∧ pa ≤ s.size := by
  obtain ⟨h1, _, _, _⟩ := rp_to (s := s) (i := i) (most := most) hi
  exact ⟨_, _, _, fun w => readPart_any s i most w hs hi hm, ⟨rfl, rfl, rfl⟩, h1⟩

set_option maxRecDepth 100000 in
set_option maxHeartbeats 2000000 in
theorem readHead_any (s : ByteArray) (i : Nat) (w : World) (hs : s.size ≤ 1000) (hi : i ≤ s.size) :
    Calls Try.prog 74 #[.string s, .int .i64 (i : Nat)] w fun e w' => e = .returned (.tuple #[(rh s i).1.v, .int .i64 ((rh s i).2.1 : Nat), .int .i64 (rh s i).2.2]) ∧ Below w.heap.size w w' := by
  obtain ⟨v, hv⟩ : ∃ v, v = Value.tuple #[(rh s i).1.v, .int .i64 ((rh s i).2.1 : Nat), .int .i64 (rh s i).2.2] := ⟨_, rfl⟩
  have HV : Hid (v = Value.tuple #[(rh s i).1.v, .int .i64 ((rh s i).2.1 : Nat), .int .i64 (rh s i).2.2]) := hv
  rw [← hv]
  clear hv
  obtain ⟨kd, kn, tx, ka, kf, HC, HT, b1, b2, b3, b4⟩ := tok_let s i hs hi
  by_cases h1 : (tk s i).kind = 1
  · have hk : kd = 1 := by rw [HT.out.1]; exact (tkK_eq (by omega) (by omega)).2 h1
    have hkf : kf = (tk s i).fin := by rw [HT.out.2.2.2.2]; exact tkF_eq (by omega)
    subst hk
    obtain ⟨kd2, kn2, tx2, ka2, kf2, HC2, HT2, e1, e2, e3, e4⟩ := tok_let s kf hs b2
    by_cases h2 : (tk s kf).kind = 2
    · have hk : kd2 = 2 := by rw [HT2.out.1]; exact (tkK_eq (by omega) (by omega)).2 h2
      have hkf2 : kf2 = (tk s kf).fin := by rw [HT2.out.2.2.2.2]; exact tkF_eq (by omega)
      subst hk
      have hj : rhJ s kf = kf2 := by unfold rhJ; rw [if_pos h2, hkf2]
      have hb : rhB s kf = kn2 := by unfold rhB; rw [if_pos h2, HT2.out.2.1]
      obtain ⟨pv, pa, pe, HP, HPE, p1⟩ := part_let s kf2 6 hs e2 (by omega)
      by_cases hpe : pe = 0
      · have HE : Hid (rh s i = ({ noRl with reset := pv, before := (kn2 : Nat) }, pa, 0)) := by
          show _ = _
          unfold rh
          rw [if_neg (not_not_intro h1), ← hkf, hj, hb, ← HPE.out.1, ← HPE.out.2.1, ← HPE.out.2.2, if_neg (not_not_intro hpe)]
        subst hpe
        clear h1 hkf h2 hkf2 hj hb
        go_enter Try.func74, Try.ntmps74
        go_wp2_with fail
        refine (HC.out _).mono ?_
        rintro e w1 ⟨rfl, hb1⟩
        simp only [size_one] at hb1
        have HR1 : Hid (w1.rowIs w.heap.size 48 5 rul0) := World.rowIs.of_block (row_new _ _ _ 5 rfl) (hb1.block _ (by omega))
        have HB1 : Hid (Below w.heap.size w w1) := below_then (below_one _) (by simp only [size_one]; exact hb1)
        have hz1 : w.heap.size + 1 ≤ w1.heap.size := by have := hb1.size; simpa using this
        clear hb1
        go_wp2_with fail
        refine (HC2.out _).mono ?_
        rintro e w2 ⟨rfl, hb2⟩
        have HR2 : Hid (w2.rowIs w.heap.size 48 5 rul0) := World.rowIs.of_block (HR1.out.alloc _) (hb2.block _ (by simp; omega))
        have HB2 : Hid (Below w.heap.size w w2) := below_then (below_then HB1.out (below_one _)) hb2
        have hz2 : w.heap.size + 1 ≤ w2.heap.size := by have := hb2.size; simp at this; omega
        clear hb2
        go_wp2_with fail
        refine (HP.out _).mono ?_
        rintro e w3 ⟨rfl, hb3⟩
        have HR3 : Hid (w3.rowIs w.heap.size 48 5 rul0) := World.rowIs.of_block (HR2.out.alloc _) (hb3.block _ (by simp; omega))
        have HB3 : Hid (Below w.heap.size w w3) := below_then (below_then HB2.out (below_one _)) hb3
        obtain ⟨⟨c0, c1, c2, c3, c4⟩, f0, f1, f2, f3, f4⟩ := row5F HR3.out
        clear hb3
        go_wp2
        exact fin53 rfl (by rfl) HR3.out Try.underlying48 rfl sizeRulC HB3.out (Nat.le_refl _) (by rw [HV.out, HE.out]; rfl)
      · have HE : Hid (rh s i = (noRl, pa, pe)) := by
          show _ = _
          unfold rh
          rw [if_neg (not_not_intro h1), ← hkf, hj, ← HPE.out.2.1, ← HPE.out.2.2, if_pos hpe]
        have hpe' : (pe == 0) = false := beq_eq_false_iff_ne.2 hpe
        clear h1 hkf h2 hkf2 hj hb hpe
        go_enter Try.func74, Try.ntmps74
        go_wp2_with fail
        refine (HC.out _).mono ?_
        rintro e w1 ⟨rfl, hb1⟩
        simp only [size_one] at hb1
        have HR1 : Hid (w1.rowIs w.heap.size 48 5 rul0) := World.rowIs.of_block (row_new _ _ _ 5 rfl) (hb1.block _ (by omega))
        have HB1 : Hid (Below w.heap.size w w1) := below_then (below_one _) (by simp only [size_one]; exact hb1)
        have hz1 : w.heap.size + 1 ≤ w1.heap.size := by have := hb1.size; simpa using this
        clear hb1
        go_wp2_with fail
        refine (HC2.out _).mono ?_
        rintro e w2 ⟨rfl, hb2⟩
        have HR2 : Hid (w2.rowIs w.heap.size 48 5 rul0) := World.rowIs.of_block (HR1.out.alloc _) (hb2.block _ (by simp; omega))
        have HB2 : Hid (Below w.heap.size w w2) := below_then (below_then HB1.out (below_one _)) hb2
        have hz2 : w.heap.size + 1 ≤ w2.heap.size := by have := hb2.size; simp at this; omega
        clear hb2
        go_wp2_with fail
        refine (HP.out _).mono ?_
        rintro e w3 ⟨rfl, hb3⟩
        have HR3 : Hid (w3.rowIs w.heap.size 48 5 rul0) := World.rowIs.of_block (HR2.out.alloc _) (hb3.block _ (by simp; omega))
        have HB3 : Hid (Below w.heap.size w w3) := below_then (below_then HB2.out (below_one _)) hb3
        obtain ⟨⟨c0, c1, c2, c3, c4⟩, f0, f1, f2, f3, f4⟩ := row5F HR3.out
        clear hb3
        go_wp2
        exact fin53 rfl (by rfl) HR3.out Try.underlying48 rfl sizeRulC HB3.out (Nat.le_refl _) (by rw [HV.out, HE.out]; rfl)
    · have hk : kd2 ≠ 2 := fun h => h2 ((tkK_eq (by omega) (by omega)).1 (by rw [← HT2.out.1]; exact h))
      have hk' : ((kd2 : Int) == 2) = false := beq_eq_false_iff_ne.2 (by omega)
      have hj : rhJ s kf = kf := by unfold rhJ; rw [if_neg h2]
      have hb : rhB s kf = 0 := by unfold rhB; rw [if_neg h2]
      obtain ⟨pv, pa, pe, HP, HPE, p1⟩ := part_let s kf 6 hs b2 (by omega)
      by_cases hpe : pe = 0
      · have HE : Hid (rh s i = ({ noRl with reset := pv, before := 0 }, pa, 0)) := by
          show _ = _
          unfold rh
          rw [if_neg (not_not_intro h1), ← hkf, hj, hb, ← HPE.out.1, ← HPE.out.2.1, ← HPE.out.2.2, if_neg (not_not_intro hpe)]
          rfl
        subst hpe
        clear h1 hkf h2 hj hb hk
        go_enter Try.func74, Try.ntmps74
        go_wp2_with fail
        refine (HC.out _).mono ?_
        rintro e w1 ⟨rfl, hb1⟩
        simp only [size_one] at hb1
        have HR1 : Hid (w1.rowIs w.heap.size 48 5 rul0) := World.rowIs.of_block (row_new _ _ _ 5 rfl) (hb1.block _ (by omega))
        have HB1 : Hid (Below w.heap.size w w1) := below_then (below_one _) (by simp only [size_one]; exact hb1)
        have hz1 : w.heap.size + 1 ≤ w1.heap.size := by have := hb1.size; simpa using this
        clear hb1
        go_wp2_with fail
        refine (HC2.out _).mono ?_
        rintro e w2 ⟨rfl, hb2⟩
        have HR2 : Hid (w2.rowIs w.heap.size 48 5 rul0) := World.rowIs.of_block (HR1.out.alloc _) (hb2.block _ (by simp; omega))
        have HB2 : Hid (Below w.heap.size w w2) := below_then (below_then HB1.out (below_one _)) hb2
        have hz2 : w.heap.size + 1 ≤ w2.heap.size := by have := hb2.size; simp at this; omega
        clear hb2
        go_wp2_with fail
        refine (HP.out _).mono ?_
        rintro e w3 ⟨rfl, hb3⟩
        have HR3 : Hid (w3.rowIs w.heap.size 48 5 rul0) := World.rowIs.of_block (HR2.out.alloc _) (hb3.block _ (by simp; omega))
        have HB3 : Hid (Below w.heap.size w w3) := below_then (below_then HB2.out (below_one _)) hb3
        obtain ⟨⟨c0, c1, c2, c3, c4⟩, f0, f1, f2, f3, f4⟩ := row5F HR3.out
        clear hb3
        go_wp2
        exact fin53 rfl (by rfl) HR3.out Try.underlying48 rfl sizeRulC HB3.out (Nat.le_refl _) (by rw [HV.out, HE.out]; rfl)
      · have HE : Hid (rh s i = (noRl, pa, pe)) := by
          show _ = _
          unfold rh
          rw [if_neg (not_not_intro h1), ← hkf, hj, ← HPE.out.2.1, ← HPE.out.2.2, if_pos hpe]
        have hpe' : (pe == 0) = false := beq_eq_false_iff_ne.2 hpe
        clear h1 hkf h2 hj hb hpe hk
        go_enter Try.func74, Try.ntmps74
        go_wp2_with fail
        refine (HC.out _).mono ?_
        rintro e w1 ⟨rfl, hb1⟩
        simp only [size_one] at hb1
        have HR1 : Hid (w1.rowIs w.heap.size 48 5 rul0) := World.rowIs.of_block (row_new _ _ _ 5 rfl) (hb1.block _ (by omega))
        have HB1 : Hid (Below w.heap.size w w1) := below_then (below_one _) (by simp only [size_one]; exact hb1)
        have hz1 : w.heap.size + 1 ≤ w1.heap.size := by have := hb1.size; simpa using this
        clear hb1
        go_wp2_with fail
        refine (HC2.out _).mono ?_
        rintro e w2 ⟨rfl, hb2⟩
        have HR2 : Hid (w2.rowIs w.heap.size 48 5 rul0) := World.rowIs.of_block (HR1.out.alloc _) (hb2.block _ (by simp; omega))
        have HB2 : Hid (Below w.heap.size w w2) := below_then (below_then HB1.out (below_one _)) hb2
        have hz2 : w.heap.size + 1 ≤ w2.heap.size := by have := hb2.size; simp at this; omega
        clear hb2
        go_wp2_with fail
        refine (HP.out _).mono ?_
        rintro e w3 ⟨rfl, hb3⟩
        have HR3 : Hid (w3.rowIs w.heap.size 48 5 rul0) := World.rowIs.of_block (HR2.out.alloc _) (hb3.block _ (by simp; omega))
        have HB3 : Hid (Below w.heap.size w w3) := below_then (below_then HB2.out (below_one _)) hb3
        obtain ⟨⟨c0, c1, c2, c3, c4⟩, f0, f1, f2, f3, f4⟩ := row5F HR3.out
        clear hb3
        go_wp2
        exact fin53 rfl (by rfl) HR3.out Try.underlying48 rfl sizeRulC HB3.out (Nat.le_refl _) (by rw [HV.out, HE.out]; rfl)
  · have hk : kd ≠ 1 := fun h => h1 ((tkK_eq (by omega) (by omega)).1 (by rw [← HT.out.1]; exact h))
    have hk' : ((kd : Int) == 1) = false := beq_eq_false_iff_ne.2 (by omega)
    have HE : Hid (rh s i = (noRl, ka, 8)) := by
      show _ = _
      unfold rh
      rw [if_pos h1, HT.out.2.2.2.1]
    clear h1 hk
    go_enter Try.func74, Try.ntmps74
    go_wp2_with fail
    refine (HC.out _).mono ?_
    rintro e w1 ⟨rfl, hb1⟩
    simp only [size_one] at hb1
    have HR1 : Hid (w1.rowIs w.heap.size 48 5 rul0) := World.rowIs.of_block (row_new _ _ _ 5 rfl) (hb1.block _ (by omega))
    have HB1 : Hid (Below w.heap.size w w1) := below_then (below_one _) (by simp only [size_one]; exact hb1)
    have hz1 : w.heap.size + 1 ≤ w1.heap.size := by have := hb1.size; simpa using this
    clear hb1
    have HR2 : Hid ((w1.alloc (.cells #[.int .i64 (kd : Nat), .int .i64 (kn : Nat), .string tx, .int .i64 (ka : Nat), .int .i64 (kf : Nat)] 121)).rowIs w.heap.size 48 5 rul0) := HR1.out.alloc _
    have HB2 : Hid (Below w.heap.size w (w1.alloc (.cells #[.int .i64 (kd : Nat), .int .i64 (kn : Nat), .string tx, .int .i64 (ka : Nat), .int .i64 (kf : Nat)] 121))) := below_then HB1.out (below_one _)
    obtain ⟨⟨c0, c1, c2, c3, c4⟩, f0, f1, f2, f3, f4⟩ := row5F HR2.out
    go_wp2
    go_region
    go_wp2
    exact fin53d rfl (by rfl) HR2.out Try.underlying48 rfl sizeRulC HB2.out (Nat.le_refl _) (by rw [HV.out, HE.out]; rfl)

set_option maxRecDepth 100000 in
set_option maxHeartbeats 2000000 in
theorem readRelation_any (s : ByteArray) (i : Nat) (w : World) (hs : s.size ≤ 1000) (hi : i ≤ s.size) :
    Calls Try.prog 76 #[.string s, .int .i64 (i : Nat)] w fun e w' => e = .returned (.tuple #[(rr s i).1.v, .int .i64 ((rr s i).2.1 : Nat), .int .i64 (rr s i).2.2]) ∧ Below w.heap.size w w' := by
  obtain ⟨v, hv⟩ : ∃ v, v = Value.tuple #[(rr s i).1.v, .int .i64 ((rr s i).2.1 : Nat), .int .i64 (rr s i).2.2] := ⟨_, rfl⟩
  have HV : Hid (v = Value.tuple #[(rr s i).1.v, .int .i64 ((rr s i).2.1 : Nat), .int .i64 (rr s i).2.2]) := hv
  rw [← hv]
  clear hv
  obtain ⟨kd, kn, tx, ka, kf, HC, HT, b1, b2, b3, b4⟩ := tok_let s i hs hi
  by_cases h1 : (tk s i).kind = 3
  · have hk : kd = 3 := by rw [HT.out.1]; exact (tkK_eq (by omega) (by omega)).2 h1
    have hkf : kf = (tk s i).fin := by rw [HT.out.2.2.2.2]; exact tkF_eq (by omega)
    have hkn := HT.out.2.1
    subst hk
    obtain ⟨pv, pa, pe, HP, HPE, p1⟩ := part_let s kf 3 hs b2 (by omega)
    by_cases hpe : pe = 0
    · have hrr : rr s i = rr2 s kn pv pa := by
        unfold rr
        rw [if_neg (not_not_intro h1), ← hkf, ← HPE.out.1, ← HPE.out.2.1, ← HPE.out.2.2, if_neg (not_not_intro hpe), ← hkn]
      obtain ⟨kd2, kn2, tx2, ka2, kf2, HC2, HT2, e1, e2, e3, e4⟩ := tok_let s pa hs p1
      subst hpe
      by_cases h2 : (tk s pa).kind = 4
      · have hk : kd2 = 4 := by rw [HT2.out.1]; exact (tkK_eq (by omega) (by omega)).2 h2
        have hkf2 : kf2 = (tk s pa).fin := by rw [HT2.out.2.2.2.2]; exact tkF_eq (by omega)
        subst hk
        obtain ⟨pv2, pa2, pe2, HP2, HPE2, p2⟩ := part_let s kf2 6 hs e2 (by omega)
        by_cases hpe2 : pe2 = 0
        · have HE : Hid (rr s i = ({ noRl with level := (kn : Nat), text := pv, more := pv2 }, pa2, 0)) := by
            show _ = _
            rw [hrr]
            unfold rr2
            rw [if_neg (not_not_intro h2), ← hkf2, ← HPE2.out.1, ← HPE2.out.2.1, ← HPE2.out.2.2, if_neg (not_not_intro hpe2)]
          subst hpe2
          clear h1 hkf h2 hkf2 hkn hrr
          go_enter Try.func76, Try.ntmps76
          go_wp2_with fail
          refine (HC.out _).mono ?_
          rintro e w1 ⟨rfl, hb1⟩
          simp only [size_one] at hb1
          have HR1 : Hid (w1.rowIs w.heap.size 48 5 rul0) := World.rowIs.of_block (row_new _ _ _ 5 rfl) (hb1.block _ (by omega))
          have HB1 : Hid (Below w.heap.size w w1) := below_then (below_one _) (by simp only [size_one]; exact hb1)
          have hz1 : w.heap.size + 1 ≤ w1.heap.size := by have := hb1.size; simpa using this
          clear hb1
          have HS1 : Hid ((w1.alloc (.cells #[.int .i64 (3 : Nat), .int .i64 (kn : Nat), .string tx, .int .i64 (ka : Nat), .int .i64 (kf : Nat)] 121)).rowIs w1.heap.size 121 5 (fun i => #[Value.int .i64 (3 : Nat), .int .i64 (kn : Nat), .string tx, .int .i64 (ka : Nat), .int .i64 (kf : Nat)].getD i undef)) := row_new _ _ _ 5 rfl
          go_wp2_with fail
          refine (HP.out _).mono ?_
          rintro e w2 ⟨rfl, hb2⟩
          have HR2 : Hid (w2.rowIs w.heap.size 48 5 rul0) := World.rowIs.of_block (HR1.out.alloc _) (hb2.block _ (by simp; omega))
          have HB2 : Hid (Below w.heap.size w w2) := below_then (below_then HB1.out (below_one _)) hb2
          have HS2 : Hid (w2.rowIs w1.heap.size 121 5 (fun i => #[Value.int .i64 (3 : Nat), .int .i64 (kn : Nat), .string tx, .int .i64 (ka : Nat), .int .i64 (kf : Nat)].getD i undef)) := World.rowIs.of_block HS1.out (hb2.block _ (by simp))
          have hz2 : w1.heap.size + 1 ≤ w2.heap.size := by have := hb2.size; simp at this; omega
          clear hb2
          go_wp2_with fail
          refine (HC2.out _).mono ?_
          rintro e w3 ⟨rfl, hb3⟩
          have HR3 : Hid (w3.rowIs w.heap.size 48 5 rul0) := World.rowIs.of_block HR2.out (hb3.block _ (by omega))
          have HB3 : Hid (Below w.heap.size w w3) := below_then HB2.out hb3
          have HS3 : Hid (w3.rowIs w1.heap.size 121 5 (fun i => #[Value.int .i64 (3 : Nat), .int .i64 (kn : Nat), .string tx, .int .i64 (ka : Nat), .int .i64 (kf : Nat)].getD i undef)) := World.rowIs.of_block HS2.out (hb3.block _ (by omega))
          have hz3 : w1.heap.size + 1 ≤ w3.heap.size := by have := hb3.size; omega
          clear hb3
          go_wp2_with fail
          refine (HP2.out _).mono ?_
          rintro e w4 ⟨rfl, hb4⟩
          have HR4 : Hid (w4.rowIs w.heap.size 48 5 rul0) := World.rowIs.of_block (HR3.out.alloc _) (hb4.block _ (by simp; omega))
          have HB4 : Hid (Below w.heap.size w w4) := below_then (below_then HB3.out (below_one _)) hb4
          have c1s : w4.cell? ⟨w1.heap.size, 1, none⟩ = some (.int .i64 (kn : Nat)) := (World.rowIs.of_block (HS3.out.alloc _) (hb4.block _ (by simp; omega))).cell (i := 1) (by omega)
          obtain ⟨⟨c0, c1, c2, c3, c4⟩, f0, f1, f2, f3, f4⟩ := row5F HR4.out
          clear hb4
          go_wp2
          exact fin53 rfl (by rfl) HR4.out Try.underlying48 rfl sizeRulC HB4.out (Nat.le_refl _) (by rw [HV.out, HE.out]; rfl)
        · have HE : Hid (rr s i = (noRl, pa2, pe2)) := by
            show _ = _
            rw [hrr]
            unfold rr2
            rw [if_neg (not_not_intro h2), ← hkf2, ← HPE2.out.2.1, ← HPE2.out.2.2, if_pos hpe2]
          have hpe' : (pe2 == 0) = false := beq_eq_false_iff_ne.2 hpe2
          clear h1 hkf h2 hkf2 hkn hrr hpe2
          go_enter Try.func76, Try.ntmps76
          go_wp2_with fail
          refine (HC.out _).mono ?_
          rintro e w1 ⟨rfl, hb1⟩
          simp only [size_one] at hb1
          have HR1 : Hid (w1.rowIs w.heap.size 48 5 rul0) := World.rowIs.of_block (row_new _ _ _ 5 rfl) (hb1.block _ (by omega))
          have HB1 : Hid (Below w.heap.size w w1) := below_then (below_one _) (by simp only [size_one]; exact hb1)
          have hz1 : w.heap.size + 1 ≤ w1.heap.size := by have := hb1.size; simpa using this
          clear hb1
          have HS1 : Hid ((w1.alloc (.cells #[.int .i64 (3 : Nat), .int .i64 (kn : Nat), .string tx, .int .i64 (ka : Nat), .int .i64 (kf : Nat)] 121)).rowIs w1.heap.size 121 5 (fun i => #[Value.int .i64 (3 : Nat), .int .i64 (kn : Nat), .string tx, .int .i64 (ka : Nat), .int .i64 (kf : Nat)].getD i undef)) := row_new _ _ _ 5 rfl
          go_wp2_with fail
          refine (HP.out _).mono ?_
          rintro e w2 ⟨rfl, hb2⟩
          have HR2 : Hid (w2.rowIs w.heap.size 48 5 rul0) := World.rowIs.of_block (HR1.out.alloc _) (hb2.block _ (by simp; omega))
          have HB2 : Hid (Below w.heap.size w w2) := below_then (below_then HB1.out (below_one _)) hb2
          have HS2 : Hid (w2.rowIs w1.heap.size 121 5 (fun i => #[Value.int .i64 (3 : Nat), .int .i64 (kn : Nat), .string tx, .int .i64 (ka : Nat), .int .i64 (kf : Nat)].getD i undef)) := World.rowIs.of_block HS1.out (hb2.block _ (by simp))
          have hz2 : w1.heap.size + 1 ≤ w2.heap.size := by have := hb2.size; simp at this; omega
          clear hb2
          go_wp2_with fail
          refine (HC2.out _).mono ?_
          rintro e w3 ⟨rfl, hb3⟩
          have HR3 : Hid (w3.rowIs w.heap.size 48 5 rul0) := World.rowIs.of_block HR2.out (hb3.block _ (by omega))
          have HB3 : Hid (Below w.heap.size w w3) := below_then HB2.out hb3
          have HS3 : Hid (w3.rowIs w1.heap.size 121 5 (fun i => #[Value.int .i64 (3 : Nat), .int .i64 (kn : Nat), .string tx, .int .i64 (ka : Nat), .int .i64 (kf : Nat)].getD i undef)) := World.rowIs.of_block HS2.out (hb3.block _ (by omega))
          have hz3 : w1.heap.size + 1 ≤ w3.heap.size := by have := hb3.size; omega
          clear hb3
          go_wp2_with fail
          refine (HP2.out _).mono ?_
          rintro e w4 ⟨rfl, hb4⟩
          have HR4 : Hid (w4.rowIs w.heap.size 48 5 rul0) := World.rowIs.of_block (HR3.out.alloc _) (hb4.block _ (by simp; omega))
          have HB4 : Hid (Below w.heap.size w w4) := below_then (below_then HB3.out (below_one _)) hb4
          have c1s : w4.cell? ⟨w1.heap.size, 1, none⟩ = some (.int .i64 (kn : Nat)) := (World.rowIs.of_block (HS3.out.alloc _) (hb4.block _ (by simp; omega))).cell (i := 1) (by omega)
          obtain ⟨⟨c0, c1, c2, c3, c4⟩, f0, f1, f2, f3, f4⟩ := row5F HR4.out
          clear hb4
          go_wp2
          exact fin53 rfl (by rfl) HR4.out Try.underlying48 rfl sizeRulC HB4.out (Nat.le_refl _) (by rw [HV.out, HE.out]; rfl)
      · have hk : kd2 ≠ 4 := fun h => h2 ((tkK_eq (by omega) (by omega)).1 (by rw [← HT2.out.1]; exact h))
        have hk' : ((kd2 : Int) == 4) = false := beq_eq_false_iff_ne.2 (by omega)
        have HE : Hid (rr s i = ({ noRl with level := (kn : Nat), text := pv }, pa, 0)) := by
          show _ = _
          rw [hrr]
          unfold rr2
          rw [if_pos h2]
        clear h1 hkf h2 hkn hrr hk
        go_enter Try.func76, Try.ntmps76
        go_wp2_with fail
        refine (HC.out _).mono ?_
        rintro e w1 ⟨rfl, hb1⟩
        simp only [size_one] at hb1
        have HR1 : Hid (w1.rowIs w.heap.size 48 5 rul0) := World.rowIs.of_block (row_new _ _ _ 5 rfl) (hb1.block _ (by omega))
        have HB1 : Hid (Below w.heap.size w w1) := below_then (below_one _) (by simp only [size_one]; exact hb1)
        have hz1 : w.heap.size + 1 ≤ w1.heap.size := by have := hb1.size; simpa using this
        clear hb1
        have HS1 : Hid ((w1.alloc (.cells #[.int .i64 (3 : Nat), .int .i64 (kn : Nat), .string tx, .int .i64 (ka : Nat), .int .i64 (kf : Nat)] 121)).rowIs w1.heap.size 121 5 (fun i => #[Value.int .i64 (3 : Nat), .int .i64 (kn : Nat), .string tx, .int .i64 (ka : Nat), .int .i64 (kf : Nat)].getD i undef)) := row_new _ _ _ 5 rfl
        go_wp2_with fail
        refine (HP.out _).mono ?_
        rintro e w2 ⟨rfl, hb2⟩
        have HR2 : Hid (w2.rowIs w.heap.size 48 5 rul0) := World.rowIs.of_block (HR1.out.alloc _) (hb2.block _ (by simp; omega))
        have HB2 : Hid (Below w.heap.size w w2) := below_then (below_then HB1.out (below_one _)) hb2
        have HS2 : Hid (w2.rowIs w1.heap.size 121 5 (fun i => #[Value.int .i64 (3 : Nat), .int .i64 (kn : Nat), .string tx, .int .i64 (ka : Nat), .int .i64 (kf : Nat)].getD i undef)) := World.rowIs.of_block HS1.out (hb2.block _ (by simp))
        have hz2 : w1.heap.size + 1 ≤ w2.heap.size := by have := hb2.size; simp at this; omega
        clear hb2
        go_wp2_with fail
        refine (HC2.out _).mono ?_
        rintro e w3 ⟨rfl, hb3⟩
        have HR3 : Hid (w3.rowIs w.heap.size 48 5 rul0) := World.rowIs.of_block HR2.out (hb3.block _ (by omega))
        have HB3 : Hid (Below w.heap.size w w3) := below_then HB2.out hb3
        have HS3 : Hid (w3.rowIs w1.heap.size 121 5 (fun i => #[Value.int .i64 (3 : Nat), .int .i64 (kn : Nat), .string tx, .int .i64 (ka : Nat), .int .i64 (kf : Nat)].getD i undef)) := World.rowIs.of_block HS2.out (hb3.block _ (by omega))
        have hz3 : w1.heap.size + 1 ≤ w3.heap.size := by have := hb3.size; omega
        clear hb3
        have HR4 : Hid ((w3.alloc (.cells #[.int .i64 (kd2 : Nat), .int .i64 (kn2 : Nat), .string tx2, .int .i64 (ka2 : Nat), .int .i64 (kf2 : Nat)] 121)).rowIs w.heap.size 48 5 rul0) := HR3.out.alloc _
        have HB4 : Hid (Below w.heap.size w (w3.alloc (.cells #[.int .i64 (kd2 : Nat), .int .i64 (kn2 : Nat), .string tx2, .int .i64 (ka2 : Nat), .int .i64 (kf2 : Nat)] 121))) := below_then HB3.out (below_one _)
        have c1s : (w3.alloc (.cells #[.int .i64 (kd2 : Nat), .int .i64 (kn2 : Nat), .string tx2, .int .i64 (ka2 : Nat), .int .i64 (kf2 : Nat)] 121)).cell? ⟨w1.heap.size, 1, none⟩ = some (.int .i64 (kn : Nat)) := (HS3.out.alloc _).cell (i := 1) (by omega)
        obtain ⟨⟨c0, c1, c2, c3, c4⟩, f0, f1, f2, f3, f4⟩ := row5F HR4.out
        go_wp2
        exact fin53 rfl (by rfl) HR4.out Try.underlying48 rfl sizeRulC HB4.out (Nat.le_refl _) (by rw [HV.out, HE.out]; rfl)
    · have HE : Hid (rr s i = (noRl, pa, pe)) := by
        show _ = _
        unfold rr
        rw [if_neg (not_not_intro h1), ← hkf, ← HPE.out.2.1, ← HPE.out.2.2, if_pos hpe]
      have hpe' : (pe == 0) = false := beq_eq_false_iff_ne.2 hpe
      clear h1 hkf hkn hpe
      go_enter Try.func76, Try.ntmps76
      go_wp2_with fail
      refine (HC.out _).mono ?_
      rintro e w1 ⟨rfl, hb1⟩
      simp only [size_one] at hb1
      have HR1 : Hid (w1.rowIs w.heap.size 48 5 rul0) := World.rowIs.of_block (row_new _ _ _ 5 rfl) (hb1.block _ (by omega))
      have HB1 : Hid (Below w.heap.size w w1) := below_then (below_one _) (by simp only [size_one]; exact hb1)
      have hz1 : w.heap.size + 1 ≤ w1.heap.size := by have := hb1.size; simpa using this
      clear hb1
      have HS1 : Hid ((w1.alloc (.cells #[.int .i64 (3 : Nat), .int .i64 (kn : Nat), .string tx, .int .i64 (ka : Nat), .int .i64 (kf : Nat)] 121)).rowIs w1.heap.size 121 5 (fun i => #[Value.int .i64 (3 : Nat), .int .i64 (kn : Nat), .string tx, .int .i64 (ka : Nat), .int .i64 (kf : Nat)].getD i undef)) := row_new _ _ _ 5 rfl
      go_wp2_with fail
      refine (HP.out _).mono ?_
      rintro e w2 ⟨rfl, hb2⟩
      have HR2 : Hid (w2.rowIs w.heap.size 48 5 rul0) := World.rowIs.of_block (HR1.out.alloc _) (hb2.block _ (by simp; omega))
      have HB2 : Hid (Below w.heap.size w w2) := below_then (below_then HB1.out (below_one _)) hb2
      have HS2 : Hid (w2.rowIs w1.heap.size 121 5 (fun i => #[Value.int .i64 (3 : Nat), .int .i64 (kn : Nat), .string tx, .int .i64 (ka : Nat), .int .i64 (kf : Nat)].getD i undef)) := World.rowIs.of_block HS1.out (hb2.block _ (by simp))
      have hz2 : w1.heap.size + 1 ≤ w2.heap.size := by have := hb2.size; simp at this; omega
      clear hb2
      obtain ⟨⟨c0, c1, c2, c3, c4⟩, f0, f1, f2, f3, f4⟩ := row5F HR2.out
      go_wp2
      exact fin53 rfl (by rfl) HR2.out Try.underlying48 rfl sizeRulC HB2.out (Nat.le_refl _) (by rw [HV.out, HE.out]; rfl)
  · have hk : kd ≠ 3 := fun h => h1 ((tkK_eq (by omega) (by omega)).1 (by rw [← HT.out.1]; exact h))
    have hk' : ((kd : Int) == 3) = false := beq_eq_false_iff_ne.2 (by omega)
    have HE : Hid (rr s i = (noRl, ka, 8)) := by
      show _ = _
      unfold rr
      rw [if_pos h1, HT.out.2.2.2.1]
    clear h1 hk
    go_enter Try.func76, Try.ntmps76
    go_wp2_with fail
    refine (HC.out _).mono ?_
    rintro e w1 ⟨rfl, hb1⟩
    simp only [size_one] at hb1
    have HR1 : Hid (w1.rowIs w.heap.size 48 5 rul0) := World.rowIs.of_block (row_new _ _ _ 5 rfl) (hb1.block _ (by omega))
    have HB1 : Hid (Below w.heap.size w w1) := below_then (below_one _) (by simp only [size_one]; exact hb1)
    have hz1 : w.heap.size + 1 ≤ w1.heap.size := by have := hb1.size; simpa using this
    clear hb1
    have HR2 : Hid ((w1.alloc (.cells #[.int .i64 (kd : Nat), .int .i64 (kn : Nat), .string tx, .int .i64 (ka : Nat), .int .i64 (kf : Nat)] 121)).rowIs w.heap.size 48 5 rul0) := HR1.out.alloc _
    have HB2 : Hid (Below w.heap.size w (w1.alloc (.cells #[.int .i64 (kd : Nat), .int .i64 (kn : Nat), .string tx, .int .i64 (ka : Nat), .int .i64 (kf : Nat)] 121))) := below_then HB1.out (below_one _)
    obtain ⟨⟨c0, c1, c2, c3, c4⟩, f0, f1, f2, f3, f4⟩ := row5F HR2.out
    go_wp2
    go_region
    go_wp2
    exact fin53d rfl (by rfl) HR2.out Try.underlying48 rfl sizeRulC HB2.out (Nat.le_refl _) (by rw [HV.out, HE.out]; rfl)

end Go.Proofs.Ytpclldccjpncdab

namespace Go.Proofs.Ytpclldccjpncdab
open Go.RowKit

theorem infoRulC : (Try.prog.info? 48).map (fun i => (i.zero, i.size, i.bytes)) = some (some (.agg #[.string ByteArray.empty, .int .i64 0, .int .i64 0, .string ByteArray.empty, .string ByteArray.empty]), 5, 64) := by kernel_rfl
def Rl.cs (x : Rl) : List Value := [.string x.reset, .int .i64 x.before, .int .i64 x.level, .string x.text, .string x.more]
/-- rules, cell by cell -/
def rulC (l : List Rl) : List Value := l.flatMap Rl.cs
theorem rulC_snoc (l : List Rl) (x : Rl) : rulC (l ++ [x]) = rulC l ++ x.cs := by simp [rulC]
theorem rulC_app (l l' : List Rl) : rulC (l ++ l') = rulC l ++ rulC l' := by simp [rulC]
theorem rulC_len : ∀ l : List Rl, (rulC l).length = l.length * 5
  | [] => rfl
  | x :: l => by
    have := rulC_len l
    show (x.cs ++ rulC l).length = _
    rw [List.length_append, this, List.length_cons]
    show 5 + _ = _
    omega
theorem rulC_at : ∀ (l : List Rl) (i : Nat), i < l.length → ∀ k, k < 5 → (rulC l)[i * 5 + k]? = (l.getD i default).cs[k]?
  | [], i, h, _, _ => by simp at h
  | x :: l, 0, _, k, hk => by
    show (x.cs ++ rulC l)[0 * 5 + k]? = _
    rw [List.getElem?_append_left (by show _ < 5; omega), Nat.zero_mul, Nat.zero_add]
    rfl
  | x :: l, i + 1, h, k, hk => by
    have h' : i < l.length := by simpa using h
    show (x.cs ++ rulC l)[(i + 1) * 5 + k]? = _
    rw [List.getElem?_append_right (by show 5 ≤ _; omega)]
    rw [show (i + 1) * 5 + k - x.cs.length = i * 5 + k by show _ - 5 = _; omega, rulC_at l i h' k hk]
    rfl
theorem rulC_one (l : List Rl) : ∀ u ∈ rulC l, u.oneCell' = true := fun u hu => by
  rw [rulC, List.mem_flatMap] at hu
  obtain ⟨x, _, hx⟩ := hu
  simp only [Rl.cs, List.mem_cons, List.not_mem_nil, or_false] at hx
  rcases hx with rfl | rfl | rfl | rfl | rfl <;> rfl
/-- no text of the rule is long -/
def Rl.small (x : Rl) : Prop := x.reset.size ≤ 1000 ∧ x.text.size ≤ 1000 ∧ x.more.size ≤ 1000
theorem small_none : (default : Rl).small := ⟨Nat.zero_le _, Nat.zero_le _, Nat.zero_le _⟩
theorem small_more {l : List Rl} {m : ByteArray} (hl : ∀ x ∈ l, x.small) (hm : m.size ≤ 1000) : ∀ x ∈ setMore l m, x.small := fun x hx => by
  unfold setMore at hx
  rcases List.mem_append.1 hx with h | h
  · exact hl x (List.dropLast_subset l h)
  · cases hq : l.getLast? with
    | none => rw [hq] at h; simp at h
    | some y =>
      rw [hq] at h
      simp at h
      subst h
      have := hl y (List.mem_of_getLast? hq)
      exact ⟨this.1, this.2.1, hm⟩
theorem small_adv {S : St} {st' : Nat} {t : Tk} (ht : t.tx.length ≤ 1000) (hn : S.nx.small) (ho : ∀ x ∈ S.out, x.small) : (adv S st' t).nx.small ∧ ∀ x ∈ (adv S st' t).out, x.small := by
  have hz : (strOfNums t.tx).size ≤ 1000 := by rw [strOfNums_size]; exact ht
  unfold adv
  repeat' split
  · exact ⟨hn, ho⟩
  · exact ⟨⟨hz, hn.2.1, hn.2.2⟩, ho⟩
  · exact ⟨hn, ho⟩
  · refine ⟨small_none, fun x hx => ?_⟩
    rcases List.mem_append.1 hx with h | h
    · exact ho x h
    · simp at h
      subst h
      exact ⟨hn.1, hz, hn.2.2⟩
  · exact ⟨hn, small_more ho hz⟩
  · exact ⟨hn, ho⟩
theorem rd_small {s : ByteArray} (hs : s.size ≤ 1000) : ∀ k (S : St), s.size - S.i ≤ k → S.nx.small → (∀ x ∈ S.out, x.small) → ∀ x ∈ (rd s S).1, x.small := by
  intro k
  induction k with
  | zero =>
    intro S hk hn ho
    cases ht : thn S.st (tk s S.i).kind with
    | none => rw [rd_bad ht]; simp
    | some st' =>
      by_cases hl : lim st' < (tk s S.i).tx.length
      · rw [rd_part ht hl]; simp
      · by_cases h8 : st' = 8
        · subst h8
          rw [rd_end ht]
          exact ho
        · have := tk_to (s := s) (i := S.i) (thn_go ht h8).1
          omega
  | succ k ih =>
    intro S hk hn ho
    cases ht : thn S.st (tk s S.i).kind with
    | none => rw [rd_bad ht]; simp
    | some st' =>
      by_cases hl : lim st' < (tk s S.i).tx.length
      · rw [rd_part ht hl]; simp
      · by_cases h8 : st' = 8
        · subst h8
          rw [rd_end ht]
          exact ho
        · have h1 := tk_to (s := s) (i := S.i) (thn_go ht h8).1
          have h2 : (tk s S.i).tx.length ≤ 1000 := Nat.le_trans tkA_len hs
          have h3 := small_adv (st' := st') h2 hn ho
          rw [rd_step ht hl h8]
          exact ih _ (by rw [adv_i]; omega) h3.1 h3.2
theorem rdAll_small (s : ByteArray) : ∀ x ∈ (rdAll s).1, x.small := by
  unfold rdAll
  split
  · simp
  · exact rd_small (by omega) _ _ (Nat.le_refl _) small_none (by simp)
theorem rules_in {w : World} {base : Nat} {v : Value} {l : List Rl} (ho : w.ownsRow base 48 5 v l.length (rulC l)) (hn : l.length ≤ 1000) (hl : ∀ x ∈ l, x.small) : ∃ ao b cap, v = .slice ao l.length cap ∧ RulesIn w.heap.size w ao l.length b 0 (fun i => l.getD i default) := by
  obtain ⟨vo, vc, gv, rfl, ha, hc⟩ := ownC_cells ho
  have cell : ∀ i, i < l.length → ∀ k u, k < 5 → (l.getD i default).cs[k]? = some u → w.cell? ⟨gv, 0 + i * 5 + k, none⟩ = some u := fun i hi k u hk hu => by
    rw [Nat.zero_add]
    exact hc _ u (by omega) (by rw [rulC_at l i hi k hk]; exact hu)
  refine ⟨vo, gv, vc, rfl, fun h => (ha h).1, fun h => (ha h).2.1, fun i hi => cell i hi 0 _ (by omega) rfl, fun i hi => cell i hi 1 _ (by omega) rfl, fun i hi => cell i hi 2 _ (by omega) rfl, fun i hi => cell i hi 3 _ (by omega) rfl, fun i hi => cell i hi 4 _ (by omega) rfl, by omega, fun i hi => ?_⟩
  have hm : l.getD i default ∈ l := by rw [List.getD_eq_getElem?_getD, List.getElem?_eq_getElem hi]; exact List.getElem_mem hi
  have := hl _ hm
  exact ⟨by have := this.1; omega, by have := this.2.1; omega, by have := this.2.2; omega⟩

/-! a chain -/
theorem rr_reset (s : ByteArray) (i : Nat) : (rr s i).1.reset = { data := #[] } ∧ (rr s i).1.before = 0 := by
  unfold rr rr2
  repeat' split
  all_goals exact ⟨rfl, rfl⟩
theorem rh_rest (s : ByteArray) (i : Nat) : (rh s i).1.more = { data := #[] } ∧ (rh s i).1.text = { data := #[] } ∧ (rh s i).1.level = 0 := by
  unfold rh
  repeat' split
  all_goals exact ⟨rfl, rfl, rfl⟩
def Pre (s : ByteArray) (st i : Nat) : Prop := Whole s st i ∧ (tk s i).kind ≠ 7
/-- what is read from i to a -/
def Chain (s : ByteArray) (i a : Nat) (L : List Rl) : Prop :=
  (L = [] ∧ ∀ st out, Pre s st i → rd s ⟨st, i, default, out⟩ = rd s ⟨3, a, (rh s i).1, out⟩) ∨
  (L ≠ [] ∧ ∃ st', (st' = 7 ∨ (st' = 5 ∧ (tk s a).kind ≠ 4)) ∧ ∀ st out, Pre s st i → rd s ⟨st, i, default, out⟩ = rd s ⟨st', a, default, out ++ L⟩)
theorem chain_head {s : ByteArray} {i : Nat} (h : (rh s i).2.2 = 0) : Chain s i (rh s i).2.1 [] := .inl ⟨rfl, fun _ _ hp => (rh_rd hp.1 hp.2).2 h⟩
/-- what one more relation makes of it -/
def addR (s : ByteArray) (i : Nat) (L : List Rl) (r : Rl) : Rl := if L = [] then { r with reset := (rh s i).1.reset, before := (rh s i).1.before } else r
theorem chain_more {s : ByteArray} {i a : Nat} {L : List Rl} (h : Chain s i a L) (hk : L ≠ [] → (tk s a).kind = 3) (he : (rr s a).2.2 = 0) : Chain s i (rr s a).2.1 (L ++ [addR s i L (rr s a).1]) := by
  right
  refine ⟨by simp, ?_⟩
  rcases h with ⟨rfl, h⟩ | ⟨hne, st', hst, h⟩
  · refine ⟨rrS s a, ((rr_rd (s := s) (st := 3) (i := a) (nx := (rh s i).1) (out := []) (.inl rfl) (rh_rest s i).1).2 he).1, fun st out hp => ?_⟩
    rw [h st out hp, ((rr_rd (s := s) (st := 3) (i := a) (nx := (rh s i).1) (out := out) (.inl rfl) (rh_rest s i).1).2 he).2]
    unfold addR
    rw [if_pos rfl]
    rfl
  · have hs3 : st' = 3 ∨ ((st' = 5 ∨ st' = 7) ∧ (tk s a).kind = 3) := .inr ⟨by omega, hk hne⟩
    refine ⟨rrS s a, ((rr_rd (s := s) (st := st') (i := a) (nx := default) (out := []) hs3 rfl).2 he).1, fun st out hp => ?_⟩
    rw [h st out hp, ((rr_rd (s := s) (st := st') (i := a) (nx := default) (out := out ++ L) hs3 rfl).2 he).2]
    unfold addR
    rw [if_neg hne, List.append_assoc]
    have : (rr s a).1 = { (rr s a).1 with reset := (default : Rl).reset, before := (default : Rl).before } := by
      obtain ⟨h1, h2⟩ := rr_reset s a
      generalize (rr s a).1 = x at h1 h2
      obtain ⟨x0, x1, x2, x3, x4⟩ := x
      simp only at h1 h2
      rw [h1, h2]
      rfl
    rw [← this]
theorem chain_bad {s : ByteArray} {i a : Nat} {L : List Rl} (h : Chain s i a L) (hk : L ≠ [] → (tk s a).kind = 3) (he : (rr s a).2.2 ≠ 0) : ∀ st out, Pre s st i → rd s ⟨st, i, default, out⟩ = ([], (rr s a).2.2, (rr s a).2.1) := fun st out hp => by
  rcases h with ⟨rfl, h⟩ | ⟨hne, st', hst, h⟩
  · rw [h st out hp]
    exact (rr_rd (.inl rfl) (rh_rest s i).1).1 he
  · rw [h st out hp]
    exact (rr_rd (.inr ⟨by omega, hk hne⟩) rfl).1 he
/-- a chain's end -/
theorem chain_end {s : ByteArray} {i a : Nat} {L : List Rl} (h : Chain s i a L) (hL : L ≠ []) (ha : a ≤ s.size) (hk : (tk s a).kind ≠ 3) : ∃ st', Whole s st' a ∧ ∀ st out, Pre s st i → rd s ⟨st, i, default, out⟩ = rd s ⟨st', a, default, out ++ L⟩ := by
  rcases h with ⟨rfl, h⟩ | ⟨hne, st', hst, h⟩
  · exact absurd rfl hL
  · refine ⟨st', ⟨ha, by omega, fun h1 h7 => ?_⟩, h⟩
    generalize (tk s a).kind = k at *
    unfold thn
    repeat' split
    all_goals first | rfl | (exfalso; omega)

end Go.Proofs.Ytpclldccjpncdab

namespace Go.Proofs.Ytpclldccjpncdab
open Go.RowKit

theorem newC5 (w : World) {B : Nat} (hB : w.heap.size = B) (a b c d e : Value) (t : TypeId) : ∀ (j : Nat) (u : Value), [a, b, c, d, e][j]? = some u → (w.alloc (.cells #[a, b, c, d, e] t)).cell? ((⟨B, 0, none⟩ : Addr).add j) = some u :=
  hB ▸ World.news_of_block (cs := #[a, b, c, d, e]) (t := t) (fr := (0, 0)) (heap_alloc_new w _)
/-- what a chain's reading answers -/
def CR (s : ByteArray) (i : Nat) (L : List Rl) (a : Nat) (er : Int) : Prop :=
  a ≤ s.size ∧ ((er ≠ 0 ∧ ∀ st out, Pre s st i → rd s ⟨st, i, default, out⟩ = ([], er, a)) ∨
    (er = 0 ∧ L ≠ [] ∧ L.length ≤ a - i ∧ i < a ∧ ∃ st', Whole s st' a ∧ ∀ st out, Pre s st i → rd s ⟨st, i, default, out⟩ = rd s ⟨st', a, default, out ++ L⟩))

set_option maxRecDepth 100000 in
set_option maxHeartbeats 2000000 in
theorem readChain_any (s : ByteArray) (i : Nat) (w : World) (hs : s.size ≤ 1000) (hi : i ≤ s.size) :
    Calls Try.prog 56 #[.string s, .int .i64 (i : Nat)] w fun e w' => ∃ (L : List Rl) (v : Value) (a : Nat) (er : Int), e = .returned (.tuple #[v, .int .i64 (a : Nat), .int .i64 er]) ∧ Hid (CR s i L a er) ∧ Hid (w'.ownsRow w.heap.size 48 5 v L.length (rulC L)) ∧ Below w.heap.size w w' := by
  obtain ⟨t0, ht0, hq0, hq1, hq2⟩ := info_parts infoRulC
  have hto := rh_to (s := s) (i := i) hi
  obtain ⟨q, hq⟩ : ∃ q, q = rh s i := ⟨_, rfl⟩
  obtain ⟨⟨hr, hbf, hl, ht, hm⟩, ha, he⟩ := q
  have HC : Hid (∀ w, Calls Try.prog 74 #[.string s, .int .i64 (i : Nat)] w fun e w' => e = .returned (.tuple #[.agg #[.string hr, .int .i64 hbf, .int .i64 hl, .string ht, .string hm], .int .i64 (ha : Nat), .int .i64 he]) ∧ Below w.heap.size w w') := fun w => by
    have := readHead_any s i w hs hi
    rw [← hq] at this
    exact this
  rw [← hq] at hto
  obtain ⟨hto1, hto2, hto3⟩ := hto
  simp only at hto1 hto2 hto3
  have HQ : Hid ((⟨⟨hr, hbf, hl, ht, hm⟩, ha, he⟩ : Rl × Nat × Int) = rh s i) := hq
  clear hq hto3
  by_cases he0 : he = 0
  · subst he0
    have hia := hto2 rfl
    have HCH : Hid (Chain s i ha []) := by
      have := chain_head (s := s) (i := i) (by rw [← HQ.out])
      rw [← HQ.out] at this
      exact this
    clear hto2
    go_enter Try.func56, Try.ntmps56
    go_wp2_with fail
    refine (HC.out _).mono ?_
    rintro e w1 ⟨rfl, hb1⟩
    have HB1 : Hid (Below w.heap.size w w1) := hb1
    have hz1 := hb1.size
    clear hb1
    obtain ⟨W, hW⟩ : ∃ W, W = w1.alloc (.cells #[.string hr, .int .i64 hbf, .int .i64 hl, .string ht, .string hm] 48) := ⟨_, rfl⟩
    have HW : Hid (W = w1.alloc (.cells #[.string hr, .int .i64 hbf, .int .i64 hl, .string ht, .string hm] 48)) := hW
    have HWS : Hid (W.heap.size = w1.heap.size + 1) := by show _ = _; rw [hW]; simp
    have HR : Hid (W.rowIs w1.heap.size 48 5 (fun i => #[Value.string hr, .int .i64 hbf, .int .i64 hl, .string ht, .string hm].getD i undef)) := by show World.rowIs _ _ _ _ _; rw [hW]; exact row_new _ _ _ 5 rfl
    have HBW : Hid (Below w.heap.size w W) := by show Below _ _ _; rw [hW]; exact below_then HB1.out (below_one _)
    clear hW
    go_wp2
    go_loopw [10, 8] (fun v av wr => ∃ (L : List Rl) (a : Nat), Hid (Chain s i a L) ∧ a ≤ s.size ∧ L.length ≤ a - i ∧ i < a ∧ av = .int .i64 (a : Nat) ∧ Below W.heap.size W wr ∧ wr.ownsRow (w1.heap.size + 1) 48 5 v L.length (rulC L)) (fun _ av _ => s.size - (intOf av).toNat)
    case atStart => exact ⟨[], ha, HCH, hto1, by simp, hia, rfl, by rw [HW.out]; exact Below.refl _ _, World.ownsRow_nil _ _ _ _⟩
    case round =>
      obtain ⟨L, a, HCA, has, hLa, hia', rfl, hbel, hown⟩ := hrel
      obtain ⟨vo9, vc9, hv9⟩ := ownC_shape hown
      subst hv9
      have HOW : Hid (wr.ownsRow (w1.heap.size + 1) 48 5 (.slice vo9 L.length vc9) L.length (rulC L)) := hown
      clear hown
      have hsz := hbel.size
      have hszw : w1.heap.size + 1 ≤ wr.heap.size := by rw [← HWS.out]; exact hsz
      have HRr : Hid (wr.rowIs w1.heap.size 48 5 (fun i => #[Value.string hr, .int .i64 hbf, .int .i64 hl, .string ht, .string hm].getD i undef)) := HR.out.of_block (hbel.block _ (by rw [HWS.out]; omega))
      have HBr : Hid (Below w.heap.size w wr) := below_then HBW.out hbel
      have hrt := rr_to (s := s) (i := a) has
      obtain ⟨q, hq⟩ : ∃ q, q = rr s a := ⟨_, rfl⟩
      obtain ⟨⟨rs, be, lv, tx, mo⟩, pl, fe⟩ := q
      have HCR : Hid (∀ w, Calls Try.prog 76 #[.string s, .int .i64 (a : Nat)] w fun e w' => e = .returned (.tuple #[.agg #[.string rs, .int .i64 be, .int .i64 lv, .string tx, .string mo], .int .i64 (pl : Nat), .int .i64 fe]) ∧ Below w.heap.size w w') := fun w => by
        have := readRelation_any s a w hs has
        rw [← hq] at this
        exact this
      rw [← hq] at hrt
      obtain ⟨hrt1, hrt2, _⟩ := hrt
      simp only at hrt1 hrt2
      have HQR : Hid ((⟨⟨rs, be, lv, tx, mo⟩, pl, fe⟩ : Rl × Nat × Int) = rr s a) := hq
      clear hq
      by_cases hL : L = []
      · subst hL
        by_cases hfe : fe = 0
        · subst hfe
          have hpl := hrt2 rfl
          have HCN : Hid (Chain s i pl [Rl.mk hr hbf lv tx mo]) := by
            have := chain_more HCA.out (fun h => absurd rfl h) (by rw [← HQR.out])
            rw [← HQR.out] at this
            unfold addR at this
            rw [if_pos rfl, ← HQ.out] at this
            exact this
          clear hrt2
          go_wp2_with fail
          refine (HCR.out _).mono ?_
          rintro e w2 ⟨rfl, hb2⟩
          have HB2 : Hid (Below W.heap.size W w2) := below_then hbel hb2
          have HO2 : Hid (w2.ownsRow (w1.heap.size + 1) 48 5 (.slice vo9 ([] : List Rl).length vc9) 0 []) := ownC_below HOW.out hb2
          have hz2 := hb2.size
          have HR2 : Hid (w2.rowIs w1.heap.size 48 5 (fun i => #[Value.string hr, .int .i64 hbf, .int .i64 hl, .string ht, .string hm].getD i undef)) := HRr.out.of_block (hb2.block _ (by omega))
          obtain ⟨⟨c0, c1, c2, c3, c4⟩, f0, f1, f2, f3, f4⟩ := row5F HR2.out
          clear hb2
          have g0 : (w2.alloc (.cells #[.string rs, .int .i64 be, .int .i64 lv, .string tx, .string mo] 48)).cell? ⟨w1.heap.size, 0, none⟩ = some (.string hr) := (HR2.out.alloc _).cell (i := 0) (by omega)
          have g1 : (w2.alloc (.cells #[.string hr, .int .i64 be, .int .i64 lv, .string tx, .string mo] 48)).cell? ⟨w1.heap.size, 1, none⟩ = some (.int .i64 hbf) := (HR2.out.alloc _).cell (i := 1) (by omega)
          have HOX : Hid ((w2.alloc (.cells #[.string hr, .int .i64 hbf, .int .i64 lv, .string tx, .string mo] 48)).ownsRow (w1.heap.size + 1) 48 5 (.slice vo9 0 vc9) 0 []) := HO2.out.alloc _
          have HBX : Hid (Below W.heap.size W (w2.alloc (.cells #[.string hr, .int .i64 hbf, .int .i64 lv, .string tx, .string mo] 48))) := below_then HB2.out (below_one _)
          clear c0 c1 c2 c3 c4 f0 f1 f2 f3 f4
          go_wp2_with (first
            | (at_builtin; refine wpList_append_lies _ (by rfl) (.tmp 53) (.tmp 55) 29 (by rfl) (w1.heap.size + 1) 48 t0 (.agg #[.string ByteArray.empty, .int .i64 0, .int .i64 0, .string ByteArray.empty, .string ByteArray.empty]) 5 64 Try.underlying29 ht0 hq0 hq1 hq2 rfl (by omega) _ 0 _ (by rfl) (HOX.out.alloc _) ⟨w2.heap.size + 1, 0, none⟩ 1 1 [.string hr, .int .i64 hbf, .int .i64 lv, .string tx, .string mo] (by rfl) (by rfl) ?d1 ?d2 (by omega) ?d3 ?d5 ?d4 (w2.heap.size + 2) ?d6 ?_))
          case d1 => exact newC5 _ (by simp) _ _ _ _ _ _
          case d2 => intro u hu; simp at hu; rcases hu with rfl | rfl | rfl | rfl | rfl <;> rfl
          case d3 => unfold maxLen; omega
          case d5 => omega
          case d4 => simp; omega
          case d6 => simp
          · intro g3 cap3 w3 hown3 hgrow3 _ _
            have HB3 : Hid (Below W.heap.size W w3) := ownC_grown_below (below_then HBX.out (below_one _)) (by rw [HWS.out]; simp; omega) (HOX.out.alloc _) (by rw [HWS.out]; exact Nat.le_refl _) hgrow3
            have HO3 : Hid (w3.ownsRow (w1.heap.size + 1) 48 5 (.slice (some ⟨g3, 0, none⟩) 1 cap3) 1 (rulC [Rl.mk hr hbf lv tx mo])) := hown3
            clear hown3 hgrow3
            go_wp2
            go_roundw
            case rel => exact ⟨[Rl.mk hr hbf lv tx mo], pl, HCN, hrt1, by simp; omega, by omega, rfl, HB3.out, HO3.out⟩
            case measure => simp [intOf]; omega
        · have HBAD : Hid (CR s i [] pl fe) := ⟨hrt1, .inl ⟨hfe, fun st out hp => by
            have := chain_bad HCA.out (fun h => absurd rfl h) (by rw [← HQR.out]; exact hfe) st out hp
            rw [← HQR.out] at this
            exact this⟩⟩
          have hfe' : (fe == 0) = false := beq_eq_false_iff_ne.2 hfe
          clear hrt2 hfe
          go_wp2_with fail
          refine (HCR.out _).mono ?_
          rintro e w2 ⟨rfl, hb2⟩
          go_wp2
          go_ret3
          exact ⟨[], _, pl, fe, rfl, HBAD, World.ownsRow_nil _ _ _ _, below_then HBr.out (below_then hb2 (below_one _))⟩
      · have hL0 : L.length ≠ 0 := fun h => hL (List.eq_nil_of_length_eq_zero h)
        have hLn : ((L.length : Int) == 0) = false := beq_eq_false_iff_ne.2 (by omega)
        have HL : Hid (L ≠ []) := hL
        clear hL
        obtain ⟨bb, hbb⟩ : ∃ x, x = decide ((tk s a).kind = 3) := ⟨_, rfl⟩
        have HRF : Hid (∀ w, Calls Try.prog 75 #[.string s, .int .i64 (a : Nat)] w fun e w' => e = .returned (.bool bb) ∧ Below w.heap.size w w') := fun w => by rw [hbb]; exact relationFollows_any s a w hs has
        by_cases hk3 : (tk s a).kind = 3
        · have hb3 : bb = true := by rw [hbb]; simp [hk3]
          subst hb3
          clear hbb
          go_wp2_with fail
          refine (HRF.out _).mono ?_
          rintro e w8 ⟨rfl, hb8⟩
          have HB8 : Hid (Below W.heap.size W w8) := below_then hbel hb8
          have HO8 : Hid (w8.ownsRow (w1.heap.size + 1) 48 5 (.slice vo9 L.length vc9) L.length (rulC L)) := ownC_below HOW.out hb8
          have hz8 := hb8.size
          clear hb8
          by_cases hfe : fe = 0
          · subst hfe
            have hpl := hrt2 rfl
            have HCN : Hid (Chain s i pl (L ++ [Rl.mk rs be lv tx mo])) := by
              have := chain_more HCA.out (fun _ => hk3) (by rw [← HQR.out])
              rw [← HQR.out] at this
              unfold addR at this
              rw [if_neg HL.out] at this
              exact this
            clear hrt2 hk3
            go_wp2_with fail
            refine (HCR.out _).mono ?_
            rintro e w2 ⟨rfl, hb2⟩
            have HB2 : Hid (Below W.heap.size W w2) := below_then HB8.out hb2
            have HOX : Hid ((w2.alloc (.cells #[.string rs, .int .i64 be, .int .i64 lv, .string tx, .string mo] 48)).ownsRow (w1.heap.size + 1) 48 5 (.slice vo9 L.length vc9) L.length (rulC L)) := (ownC_below HO8.out hb2).alloc _
            have hz2 := hb2.size
            have HBX : Hid (Below W.heap.size W (w2.alloc (.cells #[.string rs, .int .i64 be, .int .i64 lv, .string tx, .string mo] 48))) := below_then HB2.out (below_one _)
            clear hb2
            go_wp2_with (first
              | (at_builtin; refine wpList_append_lies _ (by rfl) (.tmp 53) (.tmp 55) 29 (by rfl) (w1.heap.size + 1) 48 t0 (.agg #[.string ByteArray.empty, .int .i64 0, .int .i64 0, .string ByteArray.empty, .string ByteArray.empty]) 5 64 Try.underlying29 ht0 hq0 hq1 hq2 rfl (by omega) _ L.length _ (by rfl) (HOX.out.alloc _) ⟨w2.heap.size + 1, 0, none⟩ 1 1 [.string rs, .int .i64 be, .int .i64 lv, .string tx, .string mo] (by rfl) (by rfl) ?d1 ?d2 (by omega) ?d3 ?d5 ?d4 (w2.heap.size + 2) ?d6 ?_))
            case d1 => exact newC5 _ (by simp) _ _ _ _ _ _
            case d2 => intro u hu; simp at hu; rcases hu with rfl | rfl | rfl | rfl | rfl <;> rfl
            case d3 => unfold maxLen; omega
            case d5 => omega
            case d4 => simp; omega
            case d6 => simp
            · intro g3 cap3 w3 hown3 hgrow3 _ _
              have HB3 : Hid (Below W.heap.size W w3) := ownC_grown_below (below_then HBX.out (below_one _)) (by rw [HWS.out]; simp; omega) (HOX.out.alloc _) (by rw [HWS.out]; exact Nat.le_refl _) hgrow3
              have HO3 : Hid (w3.ownsRow (w1.heap.size + 1) 48 5 (.slice (some ⟨g3, 0, none⟩) (L.length + 1) cap3) (L ++ [Rl.mk rs be lv tx mo]).length (rulC (L ++ [Rl.mk rs be lv tx mo]))) := by
                show World.ownsRow _ _ _ _ _ _ _
                rw [rulC_snoc, List.length_append]
                exact hown3
              clear hown3 hgrow3
              go_wp2
              go_roundw
              case rel => exact ⟨L ++ [Rl.mk rs be lv tx mo], pl, HCN, hrt1, by simp; omega, by omega, rfl, HB3.out, HO3.out⟩
              case measure => simp [intOf]; omega
          · have HBAD : Hid (CR s i [] pl fe) := ⟨hrt1, .inl ⟨hfe, fun st out hp => by
              have := chain_bad HCA.out (fun _ => hk3) (by rw [← HQR.out]; exact hfe) st out hp
              rw [← HQR.out] at this
              exact this⟩⟩
            have hfe' : (fe == 0) = false := beq_eq_false_iff_ne.2 hfe
            clear hrt2 hfe hk3
            go_wp2_with fail
            refine (HCR.out _).mono ?_
            rintro e w2 ⟨rfl, hb2⟩
            have HB2 : Hid (Below w.heap.size w w2) := below_then HBW.out (below_then HB8.out hb2)
            clear hb2
            go_wp2
            go_ret3
            exact ⟨[], _, pl, fe, rfl, HBAD, World.ownsRow_nil _ _ _ _, below_then HB2.out (below_one _)⟩
        · have hb3 : bb = false := by rw [hbb]; simp [hk3]
          subst hb3
          have HEND : Hid (CR s i L a 0) := ⟨has, .inr ⟨rfl, HL.out, hLa, hia', chain_end HCA.out HL.out has hk3⟩⟩
          clear hbb hk3
          go_wp2_with fail
          refine (HRF.out _).mono ?_
          rintro e w8 ⟨rfl, hb8⟩
          have HO8 : Hid (w8.ownsRow w.heap.size 48 5 (.slice vo9 L.length vc9) L.length (rulC L)) := ownC_base (ownC_below HOW.out hb8) (by omega)
          have HB8 : Hid (Below w.heap.size w w8) := below_then HBr.out hb8
          clear hb8
          go_wp2
          go_ret3
          exact ⟨L, _, a, 0, rfl, HEND, HO8, HB8.out⟩
  · have HBAD : Hid (CR s i [] ha he) := ⟨hto1, .inl ⟨he0, fun st out hp => by
      have := (rh_rd (out := out) hp.1 hp.2).1 (by rw [← HQ.out]; exact he0)
      rw [← HQ.out] at this
      exact this⟩⟩
    have he' : (he == 0) = false := beq_eq_false_iff_ne.2 he0
    clear hto2 he0
    go_enter Try.func56, Try.ntmps56
    go_wp2_with fail
    refine (HC.out _).mono ?_
    rintro e w1 ⟨rfl, hb1⟩
    go_wp2
    go_ret3
    exact ⟨[], _, ha, he, rfl, HBAD, World.ownsRow_nil _ _ _ _, below_then hb1 (below_one _)⟩

end Go.Proofs.Ytpclldccjpncdab

namespace Go.Proofs.Ytpclldccjpncdab
open Go.RowKit

theorem whole_start {s : ByteArray} {a : Nat} (ha : a ≤ s.size) : Whole s 0 a := by
  refine ⟨ha, .inl rfl, fun h1 h7 => ?_⟩
  generalize (tk s a).kind = k at *
  unfold thn
  repeat' split
  all_goals first | rfl | (exfalso; omega)
theorem whole_skp {s : ByteArray} {st a : Nat} (h : Whole s st a) : Whole s st (skp s a) := by
  refine ⟨skp_le h.1, h.2.1, ?_⟩
  rw [tk_skp]
  exact h.2.2
theorem kind_in {s : ByteArray} {a : Nat} (h : skp s a = a) : (tk s a).kind = 7 ↔ s.size ≤ a := by
  unfold tk
  rw [h]
  exact tkA_end
theorem rdAll_in {s : ByteArray} (h : ¬ 120 < s.size) : rdAll s = rd s ⟨0, skp s 0, default, []⟩ := by
  unfold rdAll
  rw [if_neg h, rd_skp]
theorem rd_whole_end {s : ByteArray} {st a : Nat} {L : List Rl} (hw : Whole s st a) (h : (tk s a).kind = 7) : rd s ⟨st, a, default, L⟩ = (L, 0, 0) := by
  refine rd_end (S := ⟨st, a, default, L⟩) ?_
  show thn st (tk s a).kind = some 8
  rw [h]
  unfold thn
  rw [if_neg (by decide), if_neg (by decide), if_neg (by decide), if_neg (by decide), if_pos rfl, if_pos hw.2.1]

set_option maxRecDepth 100000 in
set_option maxHeartbeats 2000000 in
theorem ruleRead_any (s : ByteArray) (w : World) (hs : s.size ≤ 140737488351232) :
    Calls Try.prog 39 #[.string s] w fun e w' => ∃ (L : List Rl) (v : Value) (a : Nat) (er : Int), e = .returned (.tuple #[v, .int .i64 er, .int .i64 (a : Nat)]) ∧ Hid (rdAll s = (L, er, a) ∧ L.length ≤ 120) ∧ Hid (w'.ownsRow w.heap.size 48 5 v L.length (rulC L)) ∧ Below w.heap.size w w' := by
  obtain ⟨t0, ht0, hq0, hq1, hq2⟩ := info_parts infoRulC
  by_cases h120 : 120 < s.size
  · have HE : Hid (rdAll s = ([], 4, 0) ∧ ([] : List Rl).length ≤ 120) := ⟨by unfold rdAll; rw [if_pos h120], by simp⟩
    go_enter Try.func39, Try.ntmps39
    go_wp2
    go_ret3
    exact ⟨[], _, 0, 4, rfl, HE, World.ownsRow_nil _ _ _ _, Below.refl _ _⟩
  · have hsz : s.size ≤ 120 := by omega
    obtain ⟨a0, ha0⟩ : ∃ a, a = skp s 0 := ⟨_, rfl⟩
    have HS0 : Hid (∀ w, Calls Try.prog 55 #[.string s, .int .i64 0] w fun e w' => e = .returned (.int .i64 (a0 : Nat)) ∧ w' = w) := fun w => by rw [ha0]; exact behindSpaces_any s 0 w hs (Nat.zero_le _)
    have hle0 : a0 ≤ s.size := by rw [ha0]; exact skp_le (Nat.zero_le _)
    have HI0 : Hid (rdAll s = rd s ⟨0, a0, default, []⟩ ∧ Whole s 0 a0) := ⟨by rw [ha0]; exact rdAll_in h120, whole_start hle0⟩
    have HK0 : Hid (skp s a0 = a0) := by show _ = _; rw [ha0, skp_skp]
    clear ha0
    go_enter Try.func39, Try.ntmps39
    go_wp2_with fail
    refine (HS0.out _).mono ?_
    rintro e w1 ⟨rfl, hw1⟩
    obtain rfl := hw1.symm
    clear hw1
    go_wp2
    go_loopw [5, 6] (fun v av wr => ∃ (L : List Rl) (a st : Nat), Hid (rdAll s = rd s ⟨st, a, default, L⟩ ∧ Whole s st a) ∧ Hid (skp s a = a) ∧ a ≤ s.size ∧ L.length ≤ a ∧ av = .int .i64 (a : Nat) ∧ Below w.heap.size w wr ∧ wr.ownsRow w.heap.size 48 5 v L.length (rulC L)) (fun _ av _ => s.size - (intOf av).toNat)
    case atStart => exact ⟨[], a0, 0, HI0, HK0, hle0, by simp, rfl, Below.refl _ _, World.ownsRow_nil _ _ _ _⟩
    case round =>
      obtain ⟨L, a, st, HI, HK, has, hLa, rfl, hbel, hown⟩ := hrel
      obtain ⟨vo9, vc9, hv9⟩ := ownC_shape hown
      subst hv9
      have HOW : Hid (wr.ownsRow w.heap.size 48 5 (.slice vo9 L.length vc9) L.length (rulC L)) := hown
      clear hown
      have hszw := hbel.size
      have HBr : Hid (Below w.heap.size w wr) := hbel
      by_cases hlt : a < s.size
      · have HP : Hid (Pre s st a) := ⟨HI.out.2, fun h => by have := (kind_in HK.out).1 h; omega⟩
        have HCC : Hid (∀ w, Calls Try.prog 56 #[.string s, .int .i64 (a : Nat)] w fun e w' => ∃ (L : List Rl) (v : Value) (pl : Nat) (er : Int), e = .returned (.tuple #[v, .int .i64 (pl : Nat), .int .i64 er]) ∧ Hid (CR s a L pl er) ∧ Hid (w'.ownsRow w.heap.size 48 5 v L.length (rulC L)) ∧ Below w.heap.size w w') := fun w => readChain_any s a w (by omega) has
        go_wp2_with fail
        refine (HCC.out _).mono ?_
        rintro e w2 ⟨C, v2, pl, er, rfl, HCR, HO2, hb2⟩
        have hz2 := hb2.size
        have HB2 : Hid (Below w.heap.size w w2) := below_then hbel hb2
        have hpls := HCR.out.1
        by_cases her : er = 0
        · obtain ⟨hC, hCl, hapl, HN⟩ : C ≠ [] ∧ C.length ≤ pl - a ∧ a < pl ∧ Hid (∃ st', Whole s st' pl ∧ ∀ st out, Pre s st a → rd s ⟨st, a, default, out⟩ = rd s ⟨st', pl, default, out ++ C⟩) := by
            rcases HCR.out.2 with h | h
            · exact absurd her h.1
            · exact ⟨h.2.1, h.2.2.1, h.2.2.2.1, h.2.2.2.2⟩
          subst her
          have hC0 : 0 < C.length := by
            rcases Nat.eq_zero_or_pos C.length with h | h
            · exact absurd (List.eq_nil_of_length_eq_zero h) hC
            · exact h
          obtain ⟨vo, vc, gv, hv2, hva, hvc⟩ := ownC_cells HO2.out
          have hvo := (hva hC0).1
          subst hvo
          subst hv2
          have HOA : Hid (w2.ownsRow w.heap.size 48 5 (.slice vo9 L.length vc9) L.length (rulC L)) := ownC_below HOW.out hb2
          have HNW : Hid (∀ (j : Nat) (u : Value), (rulC C)[j]? = some u → w2.cell? ((⟨gv, 0, none⟩ : Addr).add j) = some u) := fun j u hu => by
            have hj : j < C.length * 5 := by rw [← rulC_len]; exact (List.getElem?_eq_some_iff.1 hu).1
            have := hvc j u hj hu
            by_cases h0 : j = 0
            · subst h0
              simpa [Addr.add] using this
            · simpa [Addr.add, h0] using this
          have HLC : Hid ((rulC C).length = C.length * 5) := rulC_len C
          obtain ⟨a2, ha2⟩ : ∃ x, x = skp s pl := ⟨_, rfl⟩
          have HSP : Hid (∀ w, Calls Try.prog 55 #[.string s, .int .i64 (pl : Nat)] w fun e w' => e = .returned (.int .i64 (a2 : Nat)) ∧ w' = w) := fun w => by rw [ha2]; exact behindSpaces_any s pl w hs hpls
          have hle2 : a2 ≤ s.size := by rw [ha2]; exact skp_le hpls
          have hge2 : pl ≤ a2 := by rw [ha2]; exact skp_ge s pl
          have HK2 : Hid (skp s a2 = a2) := by show _ = _; rw [ha2, skp_skp]
          have HI2 : Hid (∃ st', rdAll s = rd s ⟨st', a2, default, L ++ C⟩ ∧ Whole s st' a2) := by
            obtain ⟨st', h1, h2⟩ := HN.out
            refine ⟨st', ?_, by rw [ha2]; exact whole_skp h1⟩
            rw [HI.out.1, h2 st L HP.out, rd_skp, ← ha2]
          clear hva hvc ha2 hC hb2
          go_wp2_with (first
            | (at_builtin; refine wpList_append_lies _ (by rfl) (.tmp 30) (.tmp 31) 29 (by rfl) w.heap.size 48 t0 (.agg #[.string ByteArray.empty, .int .i64 0, .int .i64 0, .string ByteArray.empty, .string ByteArray.empty]) 5 64 Try.underlying29 ht0 hq0 hq1 hq2 rfl (by omega) _ L.length _ (by rfl) HOA.out ⟨gv, 0, none⟩ C.length vc (rulC C) (by rfl) HLC.out HNW.out ?d2 hC0 ?d3 ?d5 ?d4 w2.heap.size rfl ?_))
          case d2 => exact rulC_one C
          case d3 => unfold maxLen; omega
          case d5 => omega
          case d4 => omega
          · intro g3 cap3 w3 hown3 hgrow3 _ _
            have HB3 : Hid (Below w.heap.size w w3) := ownC_grown_below HB2.out (by omega) HOA.out (Nat.le_refl _) hgrow3
            have HO3 : Hid (w3.ownsRow w.heap.size 48 5 (.slice (some ⟨g3, 0, none⟩) (L.length + C.length) cap3) (L ++ C).length (rulC (L ++ C))) := by
              show World.ownsRow _ _ _ _ _ _ _
              rw [rulC_app, List.length_append]
              exact hown3
            clear hown3 hgrow3
            go_wp2_with fail
            refine (HSP.out _).mono ?_
            rintro e w4 ⟨rfl, hw4⟩
            obtain rfl := hw4.symm
            clear hw4
            go_wp2
            go_roundw
            case rel =>
              obtain ⟨st', h1, h2⟩ := HI2.out
              exact ⟨L ++ C, a2, st', ⟨h1, h2⟩, HK2, hle2, by rw [List.length_append]; omega, rfl, HB3.out, HO3.out⟩
            case measure => simp [intOf]; omega
        · have HE : Hid (rdAll s = ([], er, pl) ∧ ([] : List Rl).length ≤ 120) := by
            rcases HCR.out.2 with h | h
            · exact ⟨by rw [HI.out.1]; exact h.2 st L HP.out, by simp⟩
            · exact absurd h.1 her
          have her' : (er == 0) = false := beq_eq_false_iff_ne.2 her
          clear her hb2
          go_wp2
          go_ret3
          exact ⟨[], _, pl, er, rfl, HE, World.ownsRow_nil _ _ _ _, HB2.out⟩
      · have HE : Hid (rdAll s = (L, 0, 0) ∧ L.length ≤ 120) := ⟨by rw [HI.out.1]; exact rd_whole_end HI.out.2 ((kind_in HK.out).2 (by omega)), by omega⟩
        go_wp2
        go_ret3
        exact ⟨L, _, 0, 0, rfl, HE, HOW, HBr.out⟩

end Go.Proofs.Ytpclldccjpncdab
