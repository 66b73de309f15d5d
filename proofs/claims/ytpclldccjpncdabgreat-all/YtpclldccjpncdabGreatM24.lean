import Derived.Test.YtpclldccjpncdabGreatM23
namespace Go.Proofs.YtpclldccjpncdabGreat
open Go.RowKit

theorem tkK_eq {s : ByteArray} {i : Nat} {k : Nat} (h1 : 1 ≤ k) (h5 : k ≤ 5) : tkK (tk s i) = k ↔ (tk s i).kind = k := by
  unfold tkK
  constructor
  · intro h
    split at h
    · exact h
    · omega
  · intro h
    rw [h, if_pos (by omega)]
theorem tkF_eq {s : ByteArray} {i : Nat} (h : (tk s i).kind ≤ 5) : tkF (tk s i) = (tk s i).fin := by unfold tkF; rw [if_pos (by omega)]
theorem tk_lim {s : ByteArray} {i : Nat} (hi : i ≤ s.size) : (tk s i).at' ≤ s.size ∧ tkF (tk s i) ≤ s.size ∧ tkK (tk s i) ≤ 5 ∧ (tk s i).n ≤ 3 ∧ (tk s i).tx.length ≤ s.size := by
  refine ⟨by rw [tk_at]; exact skp_le hi, ?_, ?_, tkA_n s _, tkA_len⟩
  · unfold tkF
    split
    · next h => exact (tk_to (by omega)).2.1
    · omega
  · unfold tkK
    split <;> omega

set_option maxRecDepth 100000 in
set_option maxHeartbeats 2000000 in
theorem readPart_any (s : ByteArray) (i most : Nat) (w : World) (hs : s.size ≤ 1000) (hi : i ≤ s.size) (_hm : most ≤ 100) :
    Calls Tryz.prog 123 #[.string s, .int .i64 (i : Nat), .int .i64 (most : Nat)] w fun e w' => e = .returned (.tuple #[.string (rp s i most).1, .int .i64 ((rp s i most).2.1 : Nat), .int .i64 (rp s i most).2.2]) ∧ Below w.heap.size w w' := by
  have hlim := tk_lim hi
  obtain ⟨t, ht⟩ : ∃ t, t = tk s i := ⟨_, rfl⟩
  obtain ⟨kd, hkd⟩ : ∃ x, x = tkK (tk s i) := ⟨_, rfl⟩
  obtain ⟨kn, hkn⟩ : ∃ x, x = (tk s i).n := ⟨_, rfl⟩
  obtain ⟨tx, htx⟩ : ∃ x, x = strOfNums (tk s i).tx := ⟨_, rfl⟩
  obtain ⟨ka, hka⟩ : ∃ x, x = (tk s i).at' := ⟨_, rfl⟩
  obtain ⟨kf, hkf⟩ : ∃ x, x = tkF (tk s i) := ⟨_, rfl⟩
  have HC : Hid (∀ w, Calls Tryz.prog 122 #[.string s, .int .i64 (i : Nat)] w fun e w' => e = .returned (.agg #[.int .i64 (kd : Nat), .int .i64 (kn : Nat), .string tx, .int .i64 (ka : Nat), .int .i64 (kf : Nat)]) ∧ Below w.heap.size w w') := fun w => by rw [hkd, hkn, htx, hka, hkf]; exact tokenAt_any s i w hs hi
  have hts : tx.size = (tk s i).tx.length := by rw [htx, strOfNums_size]
  obtain ⟨pv, hpv⟩ : ∃ x, x = (rp s i most).1 := ⟨_, rfl⟩
  obtain ⟨pa, hpa⟩ : ∃ x, x = (rp s i most).2.1 := ⟨_, rfl⟩
  obtain ⟨pe, hpe⟩ : ∃ x, x = (rp s i most).2.2 := ⟨_, rfl⟩
  rw [← hpv, ← hpa, ← hpe]
  by_cases h5 : (tk s i).kind = 5
  · have hk5 : kd = 5 := by rw [hkd]; exact (tkK_eq (by omega) (by omega)).2 h5
    subst hk5
    by_cases hl : most < (tk s i).tx.length
    · have HE : Hid (pv = { data := #[] } ∧ pa = ka ∧ pe = 9) := by
        show _ ∧ _
        rw [hpv, hpa, hpe, hka]
        unfold rp
        rw [if_neg (not_not_intro h5), if_pos hl]
        exact ⟨rfl, rfl, rfl⟩
      have htl : most < tx.size := by omega
      have htl2 : tx.size ≤ 1000 := by omega
      clear hlim ht hkd hkn htx hka hkf hpv hpa hpe h5 hl hts
      go_enter Tryz.func123, Tryz.ntmps123
      go_wp2_with fail
      refine (HC.out _).mono ?_
      rintro e w1 ⟨rfl, hb1⟩
      go_wp2
      go_region
      all_goals
        go_wp2
        go_ret3
        exact ⟨by rw [HE.out.1, HE.out.2.1, HE.out.2.2]; rfl, (below_then hb1 (below_one _)).drew⟩
    · have HE : Hid (pv = tx ∧ pa = kf ∧ pe = 0) := by
        show _ ∧ _
        rw [hpv, hpa, hpe, htx, hkf, tkF_eq (by omega)]
        unfold rp
        rw [if_neg (not_not_intro h5), if_neg hl]
        exact ⟨rfl, rfl, rfl⟩
      have htl : tx.size ≤ most := by omega
      clear hlim ht hkd hkn htx hka hkf hpv hpa hpe h5 hl hts
      go_enter Tryz.func123, Tryz.ntmps123
      go_wp2_with fail
      refine (HC.out _).mono ?_
      rintro e w1 ⟨rfl, hb1⟩
      go_wp2
      go_region
      all_goals
        go_wp2
        go_ret3
        exact ⟨by rw [HE.out.1, HE.out.2.1, HE.out.2.2]; rfl, (below_then hb1 (below_one _)).drew⟩
  · have hk5 : kd ≠ 5 := fun h => h5 ((tkK_eq (by omega) (by omega)).1 (by rw [← hkd]; exact h))
    have hk5' : ((kd : Int) == 5) = false := beq_eq_false_iff_ne.2 (by omega)
    have HE : Hid (pv = { data := #[] } ∧ pa = ka ∧ pe = 8) := by
      show _ ∧ _
      rw [hpv, hpa, hpe, hka]
      unfold rp
      rw [if_pos h5]
      exact ⟨rfl, rfl, rfl⟩
    clear hlim ht hkd hkn htx hka hkf hpv hpa hpe h5 hts hk5
    go_enter Tryz.func123, Tryz.ntmps123
    go_wp2_with fail
    refine (HC.out _).mono ?_
    rintro e w1 ⟨rfl, hb1⟩
    go_wp2
    go_region
    all_goals
      go_wp2
      go_ret3
      exact ⟨by rw [HE.out.1, HE.out.2.1, HE.out.2.2]; rfl, (below_then hb1 (below_one _)).drew⟩

set_option maxHeartbeats 1000000 in
theorem relationFollows_any (s : ByteArray) (i : Nat) (w : World) (hs : s.size ≤ 1000) (hi : i ≤ s.size) :
    Calls Tryz.prog 105 #[.string s, .int .i64 (i : Nat)] w fun e w' => e = .returned (.bool (decide ((tk s i).kind = 3))) ∧ Below w.heap.size w w' := by
  obtain ⟨kd, hkd⟩ : ∃ x, x = tkK (tk s i) := ⟨_, rfl⟩
  obtain ⟨kn, hkn⟩ : ∃ x, x = (tk s i).n := ⟨_, rfl⟩
  obtain ⟨tx, htx⟩ : ∃ x, x = strOfNums (tk s i).tx := ⟨_, rfl⟩
  obtain ⟨ka, hka⟩ : ∃ x, x = (tk s i).at' := ⟨_, rfl⟩
  obtain ⟨kf, hkf⟩ : ∃ x, x = tkF (tk s i) := ⟨_, rfl⟩
  have HC : Hid (∀ w, Calls Tryz.prog 122 #[.string s, .int .i64 (i : Nat)] w fun e w' => e = .returned (.agg #[.int .i64 (kd : Nat), .int .i64 (kn : Nat), .string tx, .int .i64 (ka : Nat), .int .i64 (kf : Nat)]) ∧ Below w.heap.size w w') := fun w => by rw [hkd, hkn, htx, hka, hkf]; exact tokenAt_any s i w hs hi
  obtain ⟨bb, hbb⟩ : ∃ x, x = decide ((tk s i).kind = 3) := ⟨_, rfl⟩
  rw [← hbb]
  by_cases h3 : (tk s i).kind = 3
  · have hk3 : kd = 3 := by rw [hkd]; exact (tkK_eq (by omega) (by omega)).2 h3
    have hb3 : bb = true := by rw [hbb]; simp [h3]
    subst hk3
    subst hb3
    clear hkd hkn htx hka hkf hbb h3
    go_enter Tryz.func105, Tryz.ntmps105
    go_wp2_with fail
    refine (HC.out _).mono ?_
    rintro e w1 ⟨rfl, hb1⟩
    go_wp2
    go_ret
    exact ⟨rfl, below_then hb1 (below_one _)⟩
  · have hk3 : kd ≠ 3 := fun h => h3 ((tkK_eq (by omega) (by omega)).1 (by rw [← hkd]; exact h))
    have hk3' : ((kd : Int) == 3) = false := beq_eq_false_iff_ne.2 (by omega)
    have hb3 : bb = false := by rw [hbb]; simp [h3]
    subst hb3
    clear hkd hkn htx hka hkf hbb h3 hk3
    go_enter Tryz.func105, Tryz.ntmps105
    go_wp2_with fail
    refine (HC.out _).mono ?_
    rintro e w1 ⟨rfl, hb1⟩
    go_wp2
    go_ret
    exact ⟨rfl, below_then hb1 (below_one _)⟩

end Go.Proofs.YtpclldccjpncdabGreat

namespace Go.Proofs.YtpclldccjpncdabGreat
open Go.RowKit

theorem sizeRulC : (Tryz.prog.info? 57).map (·.size) = some 5 := by kernel_rfl
def rul0 : Nat → Value := fun i => #[Value.string ByteArray.empty, .int .i64 0, .int .i64 0, .string ByteArray.empty, .string ByteArray.empty].getD i undef
theorem fin53d {P : Program} {fn : Func} {p x y : Tmp} {ty : TypeId} {w0 W : World} {B g : Nat} {f : Nat → Value} {v0 v1 v2 v3 v4 v : Value} {d : TypeDesc} {tmps : Array Value} (h : fn.results = #[.cell p ty, .tmp x, .tmp y]) (hp : tmps.getD p undef = .pointer (some ⟨g, 0, none⟩)) (hg : W.rowIs g ty 5 f)
    (hu : P.underlying ty = some d) (hd : (match d with | .struct _ | .array _ _ => true | _ => false) = true) (hi : (P.info? ty).map (·.size) = some 5) (hb : Below B w0 W) (hB : B ≤ g) (hv : v = .tuple #[.agg #[v0, v1, v2, v3, v4], tmps.getD x undef, tmps.getD y undef]) :
    bodyPost P fn (fun e w' => e = .returned v ∧ Below B w0 w') Exit.ret { tmps := tmps, defers := [] } (set5 W g v0 v1 v2 v3 v4).drew := by
  have hr := World.rowIs.drew (((((hg.set 0 v0).set 1 v1).set 2 v2).set 3 v3).set 4 v4)
  have := res53 (P := P) h tmps g _ d hp hr hu hd hi
  exact bodyPost_ret this rfl ⟨by rw [hv]; rfl, ((set5_only W g v0 v1 v2 v3 v4).below hb hB).drew⟩
theorem tok_let (s : ByteArray) (i : Nat) (hs : s.size ≤ 1000) (hi : i ≤ s.size) : ∃ (kd kn : Nat) (tx : ByteArray) (ka kf : Nat), Hid (∀ w, Calls Tryz.prog 122 #[.string s, .int .i64 (i : Nat)] w fun e w' => e = .returned (.agg #[.int .i64 (kd : Nat), .int .i64 (kn : Nat), .string tx, .int .i64 (ka : Nat), .int .i64 (kf : Nat)]) ∧ Below w.heap.size w w') ∧ Hid (kd = tkK (tk s i) ∧ kn = (tk s i).n ∧ tx = strOfNums (tk s i).tx ∧ ka = (tk s i).at' ∧ kf = tkF (tk s i)) ∧ ka ≤ s.size ∧ kf ≤ s.size ∧ kd ≤ 5 ∧ kn ≤ 3 := by
  obtain ⟨h1, h2, h3, h4, _⟩ := tk_lim hi
  exact ⟨_, _, _, _, _, fun w => tokenAt_any s i w hs hi, ⟨rfl, rfl, rfl, rfl, rfl⟩, h1, h2, h3, h4⟩
theorem part_let (s : ByteArray) (i most : Nat) (hs : s.size ≤ 1000) (hi : i ≤ s.size) (hm : most ≤ 100) : ∃ (pv : ByteArray) (pa : Nat) (pe : Int), Hid (∀ w, Calls Tryz.prog 123 #[.string s, .int .i64 (i : Nat), .int .i64 (most : Nat)] w fun e w' => e = .returned (.tuple #[.string pv, .int .i64 (pa : Nat), .int .i64 pe]) ∧ Below w.heap.size w w') ∧ Hid (pv = (rp s i most).1 ∧ pa = (rp s i most).2.1 ∧ pe = (rp s i most).2.2) ∧ pa ≤ s.size := by
  obtain ⟨h1, _, _, _⟩ := rp_to (s := s) (i := i) (most := most) hi
  exact ⟨_, _, _, fun w => readPart_any s i most w hs hi hm, ⟨rfl, rfl, rfl⟩, h1⟩

set_option maxRecDepth 100000 in
set_option maxHeartbeats 2000000 in
theorem readHead_any (s : ByteArray) (i : Nat) (w : World) (hs : s.size ≤ 1000) (hi : i ≤ s.size) :
    Calls Tryz.prog 104 #[.string s, .int .i64 (i : Nat)] w fun e w' => e = .returned (.tuple #[(rh s i).1.v, .int .i64 ((rh s i).2.1 : Nat), .int .i64 (rh s i).2.2]) ∧ Below w.heap.size w w' := by
  obtain ⟨v, hv⟩ : ∃ v, v = Value.tuple #[(rh s i).1.v, .int .i64 ((rh s i).2.1 : Nat), .int .i64 (rh s i).2.2] := ⟨_, rfl⟩
  have HV : Hid (v = Value.tuple #[(rh s i).1.v, .int .i64 ((rh s i).2.1 : Nat), .int .i64 (rh s i).2.2]) := hv
  rw [← hv]
  clear hv
  obtain ⟨kd, kn, tx, ka, kf, HC, HT, b1, b2, b3, b4⟩ := tok_let s i hs hi
  by_cases h1 : (tk s i).kind = 1
  · have hk : kd = 1 := by rw [HT.out.1]; exact (tkK_eq (by omega) (by omega)).2 h1
    have hkf : kf = (tk s i).fin := by rw [HT.out.2.2.2.2]; exact tkF_eq (by omega)
    subst hk
    obtain ⟨kd2, kn2, tx2, ka2, kf2, HC2, HT2, e1, e2, e3, e4⟩ := tok_let s kf hs b2
    by_cases h2 : (tk s kf).kind = 2
    · have hk : kd2 = 2 := by rw [HT2.out.1]; exact (tkK_eq (by omega) (by omega)).2 h2
      have hkf2 : kf2 = (tk s kf).fin := by rw [HT2.out.2.2.2.2]; exact tkF_eq (by omega)
      subst hk
      have hj : rhJ s kf = kf2 := by unfold rhJ; rw [if_pos h2, hkf2]
      have hb : rhB s kf = kn2 := by unfold rhB; rw [if_pos h2, HT2.out.2.1]
      obtain ⟨pv, pa, pe, HP, HPE, p1⟩ := part_let s kf2 6 hs e2 (by omega)
      by_cases hpe : pe = 0
      · have HE : Hid (rh s i = ({ noRl with reset := pv, before := (kn2 : Nat) }, pa, 0)) := by
          show _ = _
          unfold rh
          rw [if_neg (not_not_intro h1), ← hkf, hj, hb, ← HPE.out.1, ← HPE.out.2.1, ← HPE.out.2.2, if_neg (not_not_intro hpe)]
        subst hpe
        clear h1 hkf h2 hkf2 hj hb
        go_enter Tryz.func104, Tryz.ntmps104
        go_wp2_with fail
        refine (HC.out _).mono ?_
        rintro e w1 ⟨rfl, hb1⟩
        simp only [size_one] at hb1
        have HR1 : Hid (w1.rowIs w.heap.size 57 5 rul0) := World.rowIs.of_block (row_new _ _ _ 5 rfl) (hb1.block _ (by omega))
        have HB1 : Hid (Below w.heap.size w w1) := below_then (below_one _) (by simp only [size_one]; exact hb1)
        have hz1 : w.heap.size + 1 ≤ w1.heap.size := by have := hb1.size; simpa using this
        clear hb1
        go_wp2_with fail
        refine (HC2.out _).mono ?_
        rintro e w2 ⟨rfl, hb2⟩
        have HR2 : Hid (w2.rowIs w.heap.size 57 5 rul0) := World.rowIs.of_block (HR1.out.alloc _) (hb2.block _ (by simp; omega))
        have HB2 : Hid (Below w.heap.size w w2) := below_then (below_then HB1.out (below_one _)) hb2
        have hz2 : w.heap.size + 1 ≤ w2.heap.size := by have := hb2.size; simp at this; omega
        clear hb2
        go_wp2_with fail
        refine (HP.out _).mono ?_
        rintro e w3 ⟨rfl, hb3⟩
        have HR3 : Hid (w3.rowIs w.heap.size 57 5 rul0) := World.rowIs.of_block (HR2.out.alloc _) (hb3.block _ (by simp; omega))
        have HB3 : Hid (Below w.heap.size w w3) := below_then (below_then HB2.out (below_one _)) hb3
        obtain ⟨⟨c0, c1, c2, c3, c4⟩, f0, f1, f2, f3, f4⟩ := row5F HR3.out
        clear hb3
        go_wp2
        exact fin53 rfl (by rfl) HR3.out Tryz.underlying57 rfl sizeRulC HB3.out (Nat.le_refl _) (by rw [HV.out, HE.out]; rfl)
      · have HE : Hid (rh s i = (noRl, pa, pe)) := by
          show _ = _
          unfold rh
          rw [if_neg (not_not_intro h1), ← hkf, hj, ← HPE.out.2.1, ← HPE.out.2.2, if_pos hpe]
        have hpe' : (pe == 0) = false := beq_eq_false_iff_ne.2 hpe
        clear h1 hkf h2 hkf2 hj hb hpe
        go_enter Tryz.func104, Tryz.ntmps104
        go_wp2_with fail
        refine (HC.out _).mono ?_
        rintro e w1 ⟨rfl, hb1⟩
        simp only [size_one] at hb1
        have HR1 : Hid (w1.rowIs w.heap.size 57 5 rul0) := World.rowIs.of_block (row_new _ _ _ 5 rfl) (hb1.block _ (by omega))
        have HB1 : Hid (Below w.heap.size w w1) := below_then (below_one _) (by simp only [size_one]; exact hb1)
        have hz1 : w.heap.size + 1 ≤ w1.heap.size := by have := hb1.size; simpa using this
        clear hb1
        go_wp2_with fail
        refine (HC2.out _).mono ?_
        rintro e w2 ⟨rfl, hb2⟩
        have HR2 : Hid (w2.rowIs w.heap.size 57 5 rul0) := World.rowIs.of_block (HR1.out.alloc _) (hb2.block _ (by simp; omega))
        have HB2 : Hid (Below w.heap.size w w2) := below_then (below_then HB1.out (below_one _)) hb2
        have hz2 : w.heap.size + 1 ≤ w2.heap.size := by have := hb2.size; simp at this; omega
        clear hb2
        go_wp2_with fail
        refine (HP.out _).mono ?_
        rintro e w3 ⟨rfl, hb3⟩
        have HR3 : Hid (w3.rowIs w.heap.size 57 5 rul0) := World.rowIs.of_block (HR2.out.alloc _) (hb3.block _ (by simp; omega))
        have HB3 : Hid (Below w.heap.size w w3) := below_then (below_then HB2.out (below_one _)) hb3
        obtain ⟨⟨c0, c1, c2, c3, c4⟩, f0, f1, f2, f3, f4⟩ := row5F HR3.out
        clear hb3
        go_wp2
        exact fin53 rfl (by rfl) HR3.out Tryz.underlying57 rfl sizeRulC HB3.out (Nat.le_refl _) (by rw [HV.out, HE.out]; rfl)
    · have hk : kd2 ≠ 2 := fun h => h2 ((tkK_eq (by omega) (by omega)).1 (by rw [← HT2.out.1]; exact h))
      have hk' : ((kd2 : Int) == 2) = false := beq_eq_false_iff_ne.2 (by omega)
      have hj : rhJ s kf = kf := by unfold rhJ; rw [if_neg h2]
      have hb : rhB s kf = 0 := by unfold rhB; rw [if_neg h2]
      obtain ⟨pv, pa, pe, HP, HPE, p1⟩ := part_let s kf 6 hs b2 (by omega)
      by_cases hpe : pe = 0
      · have HE : Hid (rh s i = ({ noRl with reset := pv, before := 0 }, pa, 0)) := by
          show _ = _
          unfold rh
          rw [if_neg (not_not_intro h1), ← hkf, hj, hb, ← HPE.out.1, ← HPE.out.2.1, ← HPE.out.2.2, if_neg (not_not_intro hpe)]
          rfl
        subst hpe
        clear h1 hkf h2 hj hb hk
        go_enter Tryz.func104, Tryz.ntmps104
        go_wp2_with fail
        refine (HC.out _).mono ?_
        rintro e w1 ⟨rfl, hb1⟩
        simp only [size_one] at hb1
        have HR1 : Hid (w1.rowIs w.heap.size 57 5 rul0) := World.rowIs.of_block (row_new _ _ _ 5 rfl) (hb1.block _ (by omega))
        have HB1 : Hid (Below w.heap.size w w1) := below_then (below_one _) (by simp only [size_one]; exact hb1)
        have hz1 : w.heap.size + 1 ≤ w1.heap.size := by have := hb1.size; simpa using this
        clear hb1
        go_wp2_with fail
        refine (HC2.out _).mono ?_
        rintro e w2 ⟨rfl, hb2⟩
        have HR2 : Hid (w2.rowIs w.heap.size 57 5 rul0) := World.rowIs.of_block (HR1.out.alloc _) (hb2.block _ (by simp; omega))
        have HB2 : Hid (Below w.heap.size w w2) := below_then (below_then HB1.out (below_one _)) hb2
        have hz2 : w.heap.size + 1 ≤ w2.heap.size := by have := hb2.size; simp at this; omega
        clear hb2
        go_wp2_with fail
        refine (HP.out _).mono ?_
        rintro e w3 ⟨rfl, hb3⟩
        have HR3 : Hid (w3.rowIs w.heap.size 57 5 rul0) := World.rowIs.of_block (HR2.out.alloc _) (hb3.block _ (by simp; omega))
        have HB3 : Hid (Below w.heap.size w w3) := below_then (below_then HB2.out (below_one _)) hb3
        obtain ⟨⟨c0, c1, c2, c3, c4⟩, f0, f1, f2, f3, f4⟩ := row5F HR3.out
        clear hb3
        go_wp2
        exact fin53 rfl (by rfl) HR3.out Tryz.underlying57 rfl sizeRulC HB3.out (Nat.le_refl _) (by rw [HV.out, HE.out]; rfl)
      · have HE : Hid (rh s i = (noRl, pa, pe)) := by
          show _ = _
          unfold rh
          rw [if_neg (not_not_intro h1), ← hkf, hj, ← HPE.out.2.1, ← HPE.out.2.2, if_pos hpe]
        have hpe' : (pe == 0) = false := beq_eq_false_iff_ne.2 hpe
        clear h1 hkf h2 hj hb hpe hk
        go_enter Tryz.func104, Tryz.ntmps104
        go_wp2_with fail
        refine (HC.out _).mono ?_
        rintro e w1 ⟨rfl, hb1⟩
        simp only [size_one] at hb1
        have HR1 : Hid (w1.rowIs w.heap.size 57 5 rul0) := World.rowIs.of_block (row_new _ _ _ 5 rfl) (hb1.block _ (by omega))
        have HB1 : Hid (Below w.heap.size w w1) := below_then (below_one _) (by simp only [size_one]; exact hb1)
        have hz1 : w.heap.size + 1 ≤ w1.heap.size := by have := hb1.size; simpa using this
        clear hb1
        go_wp2_with fail
        refine (HC2.out _).mono ?_
        rintro e w2 ⟨rfl, hb2⟩
        have HR2 : Hid (w2.rowIs w.heap.size 57 5 rul0) := World.rowIs.of_block (HR1.out.alloc _) (hb2.block _ (by simp; omega))
        have HB2 : Hid (Below w.heap.size w w2) := below_then (below_then HB1.out (below_one _)) hb2
        have hz2 : w.heap.size + 1 ≤ w2.heap.size := by have := hb2.size; simp at this; omega
        clear hb2
        go_wp2_with fail
        refine (HP.out _).mono ?_
        rintro e w3 ⟨rfl, hb3⟩
        have HR3 : Hid (w3.rowIs w.heap.size 57 5 rul0) := World.rowIs.of_block (HR2.out.alloc _) (hb3.block _ (by simp; omega))
        have HB3 : Hid (Below w.heap.size w w3) := below_then (below_then HB2.out (below_one _)) hb3
        obtain ⟨⟨c0, c1, c2, c3, c4⟩, f0, f1, f2, f3, f4⟩ := row5F HR3.out
        clear hb3
        go_wp2
        exact fin53 rfl (by rfl) HR3.out Tryz.underlying57 rfl sizeRulC HB3.out (Nat.le_refl _) (by rw [HV.out, HE.out]; rfl)
  · have hk : kd ≠ 1 := fun h => h1 ((tkK_eq (by omega) (by omega)).1 (by rw [← HT.out.1]; exact h))
    have hk' : ((kd : Int) == 1) = false := beq_eq_false_iff_ne.2 (by omega)
    have HE : Hid (rh s i = (noRl, ka, 8)) := by
      show _ = _
      unfold rh
      rw [if_pos h1, HT.out.2.2.2.1]
    clear h1 hk
    go_enter Tryz.func104, Tryz.ntmps104
    go_wp2_with fail
    refine (HC.out _).mono ?_
    rintro e w1 ⟨rfl, hb1⟩
    simp only [size_one] at hb1
    have HR1 : Hid (w1.rowIs w.heap.size 57 5 rul0) := World.rowIs.of_block (row_new _ _ _ 5 rfl) (hb1.block _ (by omega))
    have HB1 : Hid (Below w.heap.size w w1) := below_then (below_one _) (by simp only [size_one]; exact hb1)
    have hz1 : w.heap.size + 1 ≤ w1.heap.size := by have := hb1.size; simpa using this
    clear hb1
    have HR2 : Hid ((w1.alloc (.cells #[.int .i64 (kd : Nat), .int .i64 (kn : Nat), .string tx, .int .i64 (ka : Nat), .int .i64 (kf : Nat)] 160)).rowIs w.heap.size 57 5 rul0) := HR1.out.alloc _
    have HB2 : Hid (Below w.heap.size w (w1.alloc (.cells #[.int .i64 (kd : Nat), .int .i64 (kn : Nat), .string tx, .int .i64 (ka : Nat), .int .i64 (kf : Nat)] 160))) := below_then HB1.out (below_one _)
    obtain ⟨⟨c0, c1, c2, c3, c4⟩, f0, f1, f2, f3, f4⟩ := row5F HR2.out
    go_wp2
    go_region
    go_wp2
    exact fin53d rfl (by rfl) HR2.out Tryz.underlying57 rfl sizeRulC HB2.out (Nat.le_refl _) (by rw [HV.out, HE.out]; rfl)

set_option maxRecDepth 100000 in
set_option maxHeartbeats 2000000 in
theorem readRelation_any (s : ByteArray) (i : Nat) (w : World) (hs : s.size ≤ 1000) (hi : i ≤ s.size) :
    Calls Tryz.prog 106 #[.string s, .int .i64 (i : Nat)] w fun e w' => e = .returned (.tuple #[(rr s i).1.v, .int .i64 ((rr s i).2.1 : Nat), .int .i64 (rr s i).2.2]) ∧ Below w.heap.size w w' := by
  obtain ⟨v, hv⟩ : ∃ v, v = Value.tuple #[(rr s i).1.v, .int .i64 ((rr s i).2.1 : Nat), .int .i64 (rr s i).2.2] := ⟨_, rfl⟩
  have HV : Hid (v = Value.tuple #[(rr s i).1.v, .int .i64 ((rr s i).2.1 : Nat), .int .i64 (rr s i).2.2]) := hv
  rw [← hv]
  clear hv
  obtain ⟨kd, kn, tx, ka, kf, HC, HT, b1, b2, b3, b4⟩ := tok_let s i hs hi
  by_cases h1 : (tk s i).kind = 3
  · have hk : kd = 3 := by rw [HT.out.1]; exact (tkK_eq (by omega) (by omega)).2 h1
    have hkf : kf = (tk s i).fin := by rw [HT.out.2.2.2.2]; exact tkF_eq (by omega)
    have hkn := HT.out.2.1
    subst hk
    obtain ⟨pv, pa, pe, HP, HPE, p1⟩ := part_let s kf 3 hs b2 (by omega)
    by_cases hpe : pe = 0
    · have hrr : rr s i = rr2 s kn pv pa := by
        unfold rr
        rw [if_neg (not_not_intro h1), ← hkf, ← HPE.out.1, ← HPE.out.2.1, ← HPE.out.2.2, if_neg (not_not_intro hpe), ← hkn]
      obtain ⟨kd2, kn2, tx2, ka2, kf2, HC2, HT2, e1, e2, e3, e4⟩ := tok_let s pa hs p1
      subst hpe
      by_cases h2 : (tk s pa).kind = 4
      · have hk : kd2 = 4 := by rw [HT2.out.1]; exact (tkK_eq (by omega) (by omega)).2 h2
        have hkf2 : kf2 = (tk s pa).fin := by rw [HT2.out.2.2.2.2]; exact tkF_eq (by omega)
        subst hk
        obtain ⟨pv2, pa2, pe2, HP2, HPE2, p2⟩ := part_let s kf2 6 hs e2 (by omega)
        by_cases hpe2 : pe2 = 0
        · have HE : Hid (rr s i = ({ noRl with level := (kn : Nat), text := pv, more := pv2 }, pa2, 0)) := by
            show _ = _
            rw [hrr]
            unfold rr2
            rw [if_neg (not_not_intro h2), ← hkf2, ← HPE2.out.1, ← HPE2.out.2.1, ← HPE2.out.2.2, if_neg (not_not_intro hpe2)]
          subst hpe2
          clear h1 hkf h2 hkf2 hkn hrr
          go_enter Tryz.func106, Tryz.ntmps106
          go_wp2_with fail
          refine (HC.out _).mono ?_
          rintro e w1 ⟨rfl, hb1⟩
          simp only [size_one] at hb1
          have HR1 : Hid (w1.rowIs w.heap.size 57 5 rul0) := World.rowIs.of_block (row_new _ _ _ 5 rfl) (hb1.block _ (by omega))
          have HB1 : Hid (Below w.heap.size w w1) := below_then (below_one _) (by simp only [size_one]; exact hb1)
          have hz1 : w.heap.size + 1 ≤ w1.heap.size := by have := hb1.size; simpa using this
          clear hb1
          have HS1 : Hid ((w1.alloc (.cells #[.int .i64 (3 : Nat), .int .i64 (kn : Nat), .string tx, .int .i64 (ka : Nat), .int .i64 (kf : Nat)] 160)).rowIs w1.heap.size 160 5 (fun i => #[Value.int .i64 (3 : Nat), .int .i64 (kn : Nat), .string tx, .int .i64 (ka : Nat), .int .i64 (kf : Nat)].getD i undef)) := row_new _ _ _ 5 rfl
          go_wp2_with fail
          refine (HP.out _).mono ?_
          rintro e w2 ⟨rfl, hb2⟩
          have HR2 : Hid (w2.rowIs w.heap.size 57 5 rul0) := World.rowIs.of_block (HR1.out.alloc _) (hb2.block _ (by simp; omega))
          have HB2 : Hid (Below w.heap.size w w2) := below_then (below_then HB1.out (below_one _)) hb2
          have HS2 : Hid (w2.rowIs w1.heap.size 160 5 (fun i => #[Value.int .i64 (3 : Nat), .int .i64 (kn : Nat), .string tx, .int .i64 (ka : Nat), .int .i64 (kf : Nat)].getD i undef)) := World.rowIs.of_block HS1.out (hb2.block _ (by simp))
          have hz2 : w1.heap.size + 1 ≤ w2.heap.size := by have := hb2.size; simp at this; omega
          clear hb2
          go_wp2_with fail
          refine (HC2.out _).mono ?_
          rintro e w3 ⟨rfl, hb3⟩
          have HR3 : Hid (w3.rowIs w.heap.size 57 5 rul0) := World.rowIs.of_block HR2.out (hb3.block _ (by omega))
          have HB3 : Hid (Below w.heap.size w w3) := below_then HB2.out hb3
          have HS3 : Hid (w3.rowIs w1.heap.size 160 5 (fun i => #[Value.int .i64 (3 : Nat), .int .i64 (kn : Nat), .string tx, .int .i64 (ka : Nat), .int .i64 (kf : Nat)].getD i undef)) := World.rowIs.of_block HS2.out (hb3.block _ (by omega))
          have hz3 : w1.heap.size + 1 ≤ w3.heap.size := by have := hb3.size; omega
          clear hb3
          go_wp2_with fail
          refine (HP2.out _).mono ?_
          rintro e w4 ⟨rfl, hb4⟩
          have HR4 : Hid (w4.rowIs w.heap.size 57 5 rul0) := World.rowIs.of_block (HR3.out.alloc _) (hb4.block _ (by simp; omega))
          have HB4 : Hid (Below w.heap.size w w4) := below_then (below_then HB3.out (below_one _)) hb4
          have c1s : w4.cell? ⟨w1.heap.size, 1, none⟩ = some (.int .i64 (kn : Nat)) := (World.rowIs.of_block (HS3.out.alloc _) (hb4.block _ (by simp; omega))).cell (i := 1) (by omega)
          obtain ⟨⟨c0, c1, c2, c3, c4⟩, f0, f1, f2, f3, f4⟩ := row5F HR4.out
          clear hb4
          go_wp2
          exact fin53 rfl (by rfl) HR4.out Tryz.underlying57 rfl sizeRulC HB4.out (Nat.le_refl _) (by rw [HV.out, HE.out]; rfl)
        · have HE : Hid (rr s i = (noRl, pa2, pe2)) := by
            show _ = _
            rw [hrr]
            unfold rr2
            rw [if_neg (not_not_intro h2), ← hkf2, ← HPE2.out.2.1, ← HPE2.out.2.2, if_pos hpe2]
          have hpe' : (pe2 == 0) = false := beq_eq_false_iff_ne.2 hpe2
          clear h1 hkf h2 hkf2 hkn hrr hpe2
          go_enter Tryz.func106, Tryz.ntmps106
          go_wp2_with fail
          refine (HC.out _).mono ?_
          rintro e w1 ⟨rfl, hb1⟩
          simp only [size_one] at hb1
          have HR1 : Hid (w1.rowIs w.heap.size 57 5 rul0) := World.rowIs.of_block (row_new _ _ _ 5 rfl) (hb1.block _ (by omega))
          have HB1 : Hid (Below w.heap.size w w1) := below_then (below_one _) (by simp only [size_one]; exact hb1)
          have hz1 : w.heap.size + 1 ≤ w1.heap.size := by have := hb1.size; simpa using this
          clear hb1
          have HS1 : Hid ((w1.alloc (.cells #[.int .i64 (3 : Nat), .int .i64 (kn : Nat), .string tx, .int .i64 (ka : Nat), .int .i64 (kf : Nat)] 160)).rowIs w1.heap.size 160 5 (fun i => #[Value.int .i64 (3 : Nat), .int .i64 (kn : Nat), .string tx, .int .i64 (ka : Nat), .int .i64 (kf : Nat)].getD i undef)) := row_new _ _ _ 5 rfl
          go_wp2_with fail
          refine (HP.out _).mono ?_
          rintro e w2 ⟨rfl, hb2⟩
          have HR2 : Hid (w2.rowIs w.heap.size 57 5 rul0) := World.rowIs.of_block (HR1.out.alloc _) (hb2.block _ (by simp; omega))
          have HB2 : Hid (Below w.heap.size w w2) := below_then (below_then HB1.out (below_one _)) hb2
          have HS2 : Hid (w2.rowIs w1.heap.size 160 5 (fun i => #[Value.int .i64 (3 : Nat), .int .i64 (kn : Nat), .string tx, .int .i64 (ka : Nat), .int .i64 (kf : Nat)].getD i undef)) := World.rowIs.of_block HS1.out (hb2.block _ (by simp))
          have hz2 : w1.heap.size + 1 ≤ w2.heap.size := by have := hb2.size; simp at this; omega
          clear hb2
          go_wp2_with fail
          refine (HC2.out _).mono ?_
          rintro e w3 ⟨rfl, hb3⟩
          have HR3 : Hid (w3.rowIs w.heap.size 57 5 rul0) := World.rowIs.of_block HR2.out (hb3.block _ (by omega))
          have HB3 : Hid (Below w.heap.size w w3) := below_then HB2.out hb3
          have HS3 : Hid (w3.rowIs w1.heap.size 160 5 (fun i => #[Value.int .i64 (3 : Nat), .int .i64 (kn : Nat), .string tx, .int .i64 (ka : Nat), .int .i64 (kf : Nat)].getD i undef)) := World.rowIs.of_block HS2.out (hb3.block _ (by omega))
          have hz3 : w1.heap.size + 1 ≤ w3.heap.size := by have := hb3.size; omega
          clear hb3
          go_wp2_with fail
          refine (HP2.out _).mono ?_
          rintro e w4 ⟨rfl, hb4⟩
          have HR4 : Hid (w4.rowIs w.heap.size 57 5 rul0) := World.rowIs.of_block (HR3.out.alloc _) (hb4.block _ (by simp; omega))
          have HB4 : Hid (Below w.heap.size w w4) := below_then (below_then HB3.out (below_one _)) hb4
          have c1s : w4.cell? ⟨w1.heap.size, 1, none⟩ = some (.int .i64 (kn : Nat)) := (World.rowIs.of_block (HS3.out.alloc _) (hb4.block _ (by simp; omega))).cell (i := 1) (by omega)
          obtain ⟨⟨c0, c1, c2, c3, c4⟩, f0, f1, f2, f3, f4⟩ := row5F HR4.out
          clear hb4
          go_wp2
          exact fin53 rfl (by rfl) HR4.out Tryz.underlying57 rfl sizeRulC HB4.out (Nat.le_refl _) (by rw [HV.out, HE.out]; rfl)
      · have hk : kd2 ≠ 4 := fun h => h2 ((tkK_eq (by omega) (by omega)).1 (by rw [← HT2.out.1]; exact h))
        have hk' : ((kd2 : Int) == 4) = false := beq_eq_false_iff_ne.2 (by omega)
        have HE : Hid (rr s i = ({ noRl with level := (kn : Nat), text := pv }, pa, 0)) := by
          show _ = _
          rw [hrr]
          unfold rr2
          rw [if_pos h2]
        clear h1 hkf h2 hkn hrr hk
        go_enter Tryz.func106, Tryz.ntmps106
        go_wp2_with fail
        refine (HC.out _).mono ?_
        rintro e w1 ⟨rfl, hb1⟩
        simp only [size_one] at hb1
        have HR1 : Hid (w1.rowIs w.heap.size 57 5 rul0) := World.rowIs.of_block (row_new _ _ _ 5 rfl) (hb1.block _ (by omega))
        have HB1 : Hid (Below w.heap.size w w1) := below_then (below_one _) (by simp only [size_one]; exact hb1)
        have hz1 : w.heap.size + 1 ≤ w1.heap.size := by have := hb1.size; simpa using this
        clear hb1
        have HS1 : Hid ((w1.alloc (.cells #[.int .i64 (3 : Nat), .int .i64 (kn : Nat), .string tx, .int .i64 (ka : Nat), .int .i64 (kf : Nat)] 160)).rowIs w1.heap.size 160 5 (fun i => #[Value.int .i64 (3 : Nat), .int .i64 (kn : Nat), .string tx, .int .i64 (ka : Nat), .int .i64 (kf : Nat)].getD i undef)) := row_new _ _ _ 5 rfl
        go_wp2_with fail
        refine (HP.out _).mono ?_
        rintro e w2 ⟨rfl, hb2⟩
        have HR2 : Hid (w2.rowIs w.heap.size 57 5 rul0) := World.rowIs.of_block (HR1.out.alloc _) (hb2.block _ (by simp; omega))
        have HB2 : Hid (Below w.heap.size w w2) := below_then (below_then HB1.out (below_one _)) hb2
        have HS2 : Hid (w2.rowIs w1.heap.size 160 5 (fun i => #[Value.int .i64 (3 : Nat), .int .i64 (kn : Nat), .string tx, .int .i64 (ka : Nat), .int .i64 (kf : Nat)].getD i undef)) := World.rowIs.of_block HS1.out (hb2.block _ (by simp))
        have hz2 : w1.heap.size + 1 ≤ w2.heap.size := by have := hb2.size; simp at this; omega
        clear hb2
        go_wp2_with fail
        refine (HC2.out _).mono ?_
        rintro e w3 ⟨rfl, hb3⟩
        have HR3 : Hid (w3.rowIs w.heap.size 57 5 rul0) := World.rowIs.of_block HR2.out (hb3.block _ (by omega))
        have HB3 : Hid (Below w.heap.size w w3) := below_then HB2.out hb3
        have HS3 : Hid (w3.rowIs w1.heap.size 160 5 (fun i => #[Value.int .i64 (3 : Nat), .int .i64 (kn : Nat), .string tx, .int .i64 (ka : Nat), .int .i64 (kf : Nat)].getD i undef)) := World.rowIs.of_block HS2.out (hb3.block _ (by omega))
        have hz3 : w1.heap.size + 1 ≤ w3.heap.size := by have := hb3.size; omega
        clear hb3
        have HR4 : Hid ((w3.alloc (.cells #[.int .i64 (kd2 : Nat), .int .i64 (kn2 : Nat), .string tx2, .int .i64 (ka2 : Nat), .int .i64 (kf2 : Nat)] 160)).rowIs w.heap.size 57 5 rul0) := HR3.out.alloc _
        have HB4 : Hid (Below w.heap.size w (w3.alloc (.cells #[.int .i64 (kd2 : Nat), .int .i64 (kn2 : Nat), .string tx2, .int .i64 (ka2 : Nat), .int .i64 (kf2 : Nat)] 160))) := below_then HB3.out (below_one _)
        have c1s : (w3.alloc (.cells #[.int .i64 (kd2 : Nat), .int .i64 (kn2 : Nat), .string tx2, .int .i64 (ka2 : Nat), .int .i64 (kf2 : Nat)] 160)).cell? ⟨w1.heap.size, 1, none⟩ = some (.int .i64 (kn : Nat)) := (HS3.out.alloc _).cell (i := 1) (by omega)
        obtain ⟨⟨c0, c1, c2, c3, c4⟩, f0, f1, f2, f3, f4⟩ := row5F HR4.out
        go_wp2
        exact fin53 rfl (by rfl) HR4.out Tryz.underlying57 rfl sizeRulC HB4.out (Nat.le_refl _) (by rw [HV.out, HE.out]; rfl)
    · have HE : Hid (rr s i = (noRl, pa, pe)) := by
        show _ = _
        unfold rr
        rw [if_neg (not_not_intro h1), ← hkf, ← HPE.out.2.1, ← HPE.out.2.2, if_pos hpe]
      have hpe' : (pe == 0) = false := beq_eq_false_iff_ne.2 hpe
      clear h1 hkf hkn hpe
      go_enter Tryz.func106, Tryz.ntmps106
      go_wp2_with fail
      refine (HC.out _).mono ?_
      rintro e w1 ⟨rfl, hb1⟩
      simp only [size_one] at hb1
      have HR1 : Hid (w1.rowIs w.heap.size 57 5 rul0) := World.rowIs.of_block (row_new _ _ _ 5 rfl) (hb1.block _ (by omega))
      have HB1 : Hid (Below w.heap.size w w1) := below_then (below_one _) (by simp only [size_one]; exact hb1)
      have hz1 : w.heap.size + 1 ≤ w1.heap.size := by have := hb1.size; simpa using this
      clear hb1
      have HS1 : Hid ((w1.alloc (.cells #[.int .i64 (3 : Nat), .int .i64 (kn : Nat), .string tx, .int .i64 (ka : Nat), .int .i64 (kf : Nat)] 160)).rowIs w1.heap.size 160 5 (fun i => #[Value.int .i64 (3 : Nat), .int .i64 (kn : Nat), .string tx, .int .i64 (ka : Nat), .int .i64 (kf : Nat)].getD i undef)) := row_new _ _ _ 5 rfl
      go_wp2_with fail
      refine (HP.out _).mono ?_
      rintro e w2 ⟨rfl, hb2⟩
      have HR2 : Hid (w2.rowIs w.heap.size 57 5 rul0) := World.rowIs.of_block (HR1.out.alloc _) (hb2.block _ (by simp; omega))
      have HB2 : Hid (Below w.heap.size w w2) := below_then (below_then HB1.out (below_one _)) hb2
      have HS2 : Hid (w2.rowIs w1.heap.size 160 5 (fun i => #[Value.int .i64 (3 : Nat), .int .i64 (kn : Nat), .string tx, .int .i64 (ka : Nat), .int .i64 (kf : Nat)].getD i undef)) := World.rowIs.of_block HS1.out (hb2.block _ (by simp))
      have hz2 : w1.heap.size + 1 ≤ w2.heap.size := by have := hb2.size; simp at this; omega
      clear hb2
      obtain ⟨⟨c0, c1, c2, c3, c4⟩, f0, f1, f2, f3, f4⟩ := row5F HR2.out
      go_wp2
      exact fin53 rfl (by rfl) HR2.out Tryz.underlying57 rfl sizeRulC HB2.out (Nat.le_refl _) (by rw [HV.out, HE.out]; rfl)
  · have hk : kd ≠ 3 := fun h => h1 ((tkK_eq (by omega) (by omega)).1 (by rw [← HT.out.1]; exact h))
    have hk' : ((kd : Int) == 3) = false := beq_eq_false_iff_ne.2 (by omega)
    have HE : Hid (rr s i = (noRl, ka, 8)) := by
      show _ = _
      unfold rr
      rw [if_pos h1, HT.out.2.2.2.1]
    clear h1 hk
    go_enter Tryz.func106, Tryz.ntmps106
    go_wp2_with fail
    refine (HC.out _).mono ?_
    rintro e w1 ⟨rfl, hb1⟩
    simp only [size_one] at hb1
    have HR1 : Hid (w1.rowIs w.heap.size 57 5 rul0) := World.rowIs.of_block (row_new _ _ _ 5 rfl) (hb1.block _ (by omega))
    have HB1 : Hid (Below w.heap.size w w1) := below_then (below_one _) (by simp only [size_one]; exact hb1)
    have hz1 : w.heap.size + 1 ≤ w1.heap.size := by have := hb1.size; simpa using this
    clear hb1
    have HR2 : Hid ((w1.alloc (.cells #[.int .i64 (kd : Nat), .int .i64 (kn : Nat), .string tx, .int .i64 (ka : Nat), .int .i64 (kf : Nat)] 160)).rowIs w.heap.size 57 5 rul0) := HR1.out.alloc _
    have HB2 : Hid (Below w.heap.size w (w1.alloc (.cells #[.int .i64 (kd : Nat), .int .i64 (kn : Nat), .string tx, .int .i64 (ka : Nat), .int .i64 (kf : Nat)] 160))) := below_then HB1.out (below_one _)
    obtain ⟨⟨c0, c1, c2, c3, c4⟩, f0, f1, f2, f3, f4⟩ := row5F HR2.out
    go_wp2
    go_region
    go_wp2
    exact fin53d rfl (by rfl) HR2.out Tryz.underlying57 rfl sizeRulC HB2.out (Nat.le_refl _) (by rw [HV.out, HE.out]; rfl)

end Go.Proofs.YtpclldccjpncdabGreat

namespace Go.Proofs.YtpclldccjpncdabGreat
open Go.RowKit

theorem infoRulC : (Tryz.prog.info? 57).map (fun i => (i.zero, i.size, i.bytes)) = some (some (.agg #[.string ByteArray.empty, .int .i64 0, .int .i64 0, .string ByteArray.empty, .string ByteArray.empty]), 5, 64) := by kernel_rfl
def Rl.cs (x : Rl) : List Value := [.string x.reset, .int .i64 x.before, .int .i64 x.level, .string x.text, .string x.more]
/-- rules, cell by cell -/
def rulC (l : List Rl) : List Value := l.flatMap Rl.cs
theorem rulC_snoc (l : List Rl) (x : Rl) : rulC (l ++ [x]) = rulC l ++ x.cs := by simp [rulC]
theorem rulC_app (l l' : List Rl) : rulC (l ++ l') = rulC l ++ rulC l' := by simp [rulC]
theorem rulC_len : ∀ l : List Rl, (rulC l).length = l.length * 5
  | [] => rfl
  | x :: l => by
    have := rulC_len l
    show (x.cs ++ rulC l).length = _
    rw [List.length_append, this, List.length_cons]
    show 5 + _ = _
    omega
theorem rulC_at : ∀ (l : List Rl) (i : Nat), i < l.length → ∀ k, k < 5 → (rulC l)[i * 5 + k]? = (l.getD i default).cs[k]?
  | [], i, h, _, _ => by simp at h
  | x :: l, 0, _, k, hk => by
    show (x.cs ++ rulC l)[0 * 5 + k]? = _
    rw [List.getElem?_append_left (by show _ < 5; omega), Nat.zero_mul, Nat.zero_add]
    rfl
  | x :: l, i + 1, h, k, hk => by
    have h' : i < l.length := by simpa using h
    show (x.cs ++ rulC l)[(i + 1) * 5 + k]? = _
    rw [List.getElem?_append_right (by show 5 ≤ _; omega)]
    rw [show (i + 1) * 5 + k - x.cs.length = i * 5 + k by show _ - 5 = _; omega, rulC_at l i h' k hk]
    rfl
theorem rulC_one (l : List Rl) : ∀ u ∈ rulC l, u.oneCell' = true := fun u hu => by
  rw [rulC, List.mem_flatMap] at hu
  obtain ⟨x, _, hx⟩ := hu
  simp only [Rl.cs, List.mem_cons, List.not_mem_nil, or_false] at hx
  rcases hx with rfl | rfl | rfl | rfl | rfl <;> rfl
/-- no text of the rule is long -/
def Rl.small (x : Rl) : Prop := x.reset.size ≤ 1000 ∧ x.text.size ≤ 1000 ∧ x.more.size ≤ 1000
theorem small_none : (default : Rl).small := ⟨Nat.zero_le _, Nat.zero_le _, Nat.zero_le _⟩
theorem small_more {l : List Rl} {m : ByteArray} (hl : ∀ x ∈ l, x.small) (hm : m.size ≤ 1000) : ∀ x ∈ setMore l m, x.small := fun x hx => by
  unfold setMore at hx
  rcases List.mem_append.1 hx with h | h
  · exact hl x (List.dropLast_subset l h)
  · cases hq : l.getLast? with
    | none => rw [hq] at h; simp at h
    | some y =>
      rw [hq] at h
      simp at h
      subst h
      have := hl y (List.mem_of_getLast? hq)
      exact ⟨this.1, this.2.1, hm⟩
theorem small_adv {S : St} {st' : Nat} {t : Tk} (ht : t.tx.length ≤ 1000) (hn : S.nx.small) (ho : ∀ x ∈ S.out, x.small) : (adv S st' t).nx.small ∧ ∀ x ∈ (adv S st' t).out, x.small := by
  have hz : (strOfNums t.tx).size ≤ 1000 := by rw [strOfNums_size]; exact ht
  unfold adv
  repeat' split
  · exact ⟨hn, ho⟩
  · exact ⟨⟨hz, hn.2.1, hn.2.2⟩, ho⟩
  · exact ⟨hn, ho⟩
  · refine ⟨small_none, fun x hx => ?_⟩
    rcases List.mem_append.1 hx with h | h
    · exact ho x h
    · simp at h
      subst h
      exact ⟨hn.1, hz, hn.2.2⟩
  · exact ⟨hn, small_more ho hz⟩
  · exact ⟨hn, ho⟩
theorem rd_small {s : ByteArray} (hs : s.size ≤ 1000) : ∀ k (S : St), s.size - S.i ≤ k → S.nx.small → (∀ x ∈ S.out, x.small) → ∀ x ∈ (rd s S).1, x.small := by
  intro k
  induction k with
  | zero =>
    intro S hk hn ho
    cases ht : thn S.st (tk s S.i).kind with
    | none => rw [rd_bad ht]; simp
    | some st' =>
      by_cases hl : lim st' < (tk s S.i).tx.length
      · rw [rd_part ht hl]; simp
      · by_cases h8 : st' = 8
        · subst h8
          rw [rd_end ht]
          exact ho
        · have := tk_to (s := s) (i := S.i) (thn_go ht h8).1
          omega
  | succ k ih =>
    intro S hk hn ho
    cases ht : thn S.st (tk s S.i).kind with
    | none => rw [rd_bad ht]; simp
    | some st' =>
      by_cases hl : lim st' < (tk s S.i).tx.length
      · rw [rd_part ht hl]; simp
      · by_cases h8 : st' = 8
        · subst h8
          rw [rd_end ht]
          exact ho
        · have h1 := tk_to (s := s) (i := S.i) (thn_go ht h8).1
          have h2 : (tk s S.i).tx.length ≤ 1000 := Nat.le_trans tkA_len hs
          have h3 := small_adv (st' := st') h2 hn ho
          rw [rd_step ht hl h8]
          exact ih _ (by rw [adv_i]; omega) h3.1 h3.2
theorem rdAll_small (s : ByteArray) : ∀ x ∈ (rdAll s).1, x.small := by
  unfold rdAll
  split
  · simp
  · exact rd_small (by omega) _ _ (Nat.le_refl _) small_none (by simp)
theorem rules_in {w : World} {base : Nat} {v : Value} {l : List Rl} (ho : w.ownsRow base 57 5 v l.length (rulC l)) (hn : l.length ≤ 1000) (hl : ∀ x ∈ l, x.small) : ∃ ao b cap, v = .slice ao l.length cap ∧ RulesIn w.heap.size w ao l.length b 0 (fun i => l.getD i default) := by
  obtain ⟨vo, vc, gv, rfl, ha, hc⟩ := ownC_cells ho
  have cell : ∀ i, i < l.length → ∀ k u, k < 5 → (l.getD i default).cs[k]? = some u → w.cell? ⟨gv, 0 + i * 5 + k, none⟩ = some u := fun i hi k u hk hu => by
    rw [Nat.zero_add]
    exact hc _ u (by omega) (by rw [rulC_at l i hi k hk]; exact hu)
  refine ⟨vo, gv, vc, rfl, fun h => (ha h).1, fun h => (ha h).2.1, fun i hi => cell i hi 0 _ (by omega) rfl, fun i hi => cell i hi 1 _ (by omega) rfl, fun i hi => cell i hi 2 _ (by omega) rfl, fun i hi => cell i hi 3 _ (by omega) rfl, fun i hi => cell i hi 4 _ (by omega) rfl, by omega, fun i hi => ?_⟩
  have hm : l.getD i default ∈ l := by rw [List.getD_eq_getElem?_getD, List.getElem?_eq_getElem hi]; exact List.getElem_mem hi
  have := hl _ hm
  exact ⟨by have := this.1; omega, by have := this.2.1; omega, by have := this.2.2; omega⟩

/-! a chain -/
theorem rr_reset (s : ByteArray) (i : Nat) : (rr s i).1.reset = { data := #[] } ∧ (rr s i).1.before = 0 := by
  unfold rr rr2
  repeat' split
  all_goals exact ⟨rfl, rfl⟩
theorem rh_rest (s : ByteArray) (i : Nat) : (rh s i).1.more = { data := #[] } ∧ (rh s i).1.text = { data := #[] } ∧ (rh s i).1.level = 0 := by
  unfold rh
  repeat' split
  all_goals exact ⟨rfl, rfl, rfl⟩
def Pre (s : ByteArray) (st i : Nat) : Prop := Whole s st i ∧ (tk s i).kind ≠ 7
/-- what is read from i to a -/
def Chain (s : ByteArray) (i a : Nat) (L : List Rl) : Prop :=
  (L = [] ∧ ∀ st out, Pre s st i → rd s ⟨st, i, default, out⟩ = rd s ⟨3, a, (rh s i).1, out⟩) ∨
  (L ≠ [] ∧ ∃ st', (st' = 7 ∨ (st' = 5 ∧ (tk s a).kind ≠ 4)) ∧ ∀ st out, Pre s st i → rd s ⟨st, i, default, out⟩ = rd s ⟨st', a, default, out ++ L⟩)
theorem chain_head {s : ByteArray} {i : Nat} (h : (rh s i).2.2 = 0) : Chain s i (rh s i).2.1 [] := .inl ⟨rfl, fun _ _ hp => (rh_rd hp.1 hp.2).2 h⟩
/-- what one more relation makes of it -/
def addR (s : ByteArray) (i : Nat) (L : List Rl) (r : Rl) : Rl := if L = [] then { r with reset := (rh s i).1.reset, before := (rh s i).1.before } else r
theorem chain_more {s : ByteArray} {i a : Nat} {L : List Rl} (h : Chain s i a L) (hk : L ≠ [] → (tk s a).kind = 3) (he : (rr s a).2.2 = 0) : Chain s i (rr s a).2.1 (L ++ [addR s i L (rr s a).1]) := by
  right
  refine ⟨by simp, ?_⟩
  rcases h with ⟨rfl, h⟩ | ⟨hne, st', hst, h⟩
  · refine ⟨rrS s a, ((rr_rd (s := s) (st := 3) (i := a) (nx := (rh s i).1) (out := []) (.inl rfl) (rh_rest s i).1).2 he).1, fun st out hp => ?_⟩
    rw [h st out hp, ((rr_rd (s := s) (st := 3) (i := a) (nx := (rh s i).1) (out := out) (.inl rfl) (rh_rest s i).1).2 he).2]
    unfold addR
    rw [if_pos rfl]
    rfl
  · have hs3 : st' = 3 ∨ ((st' = 5 ∨ st' = 7) ∧ (tk s a).kind = 3) := .inr ⟨by omega, hk hne⟩
    refine ⟨rrS s a, ((rr_rd (s := s) (st := st') (i := a) (nx := default) (out := []) hs3 rfl).2 he).1, fun st out hp => ?_⟩
    rw [h st out hp, ((rr_rd (s := s) (st := st') (i := a) (nx := default) (out := out ++ L) hs3 rfl).2 he).2]
    unfold addR
    rw [if_neg hne, List.append_assoc]
    have : (rr s a).1 = { (rr s a).1 with reset := (default : Rl).reset, before := (default : Rl).before } := by
      obtain ⟨h1, h2⟩ := rr_reset s a
      generalize (rr s a).1 = x at h1 h2
      obtain ⟨x0, x1, x2, x3, x4⟩ := x
      simp only at h1 h2
      rw [h1, h2]
      rfl
    rw [← this]
theorem chain_bad {s : ByteArray} {i a : Nat} {L : List Rl} (h : Chain s i a L) (hk : L ≠ [] → (tk s a).kind = 3) (he : (rr s a).2.2 ≠ 0) : ∀ st out, Pre s st i → rd s ⟨st, i, default, out⟩ = ([], (rr s a).2.2, (rr s a).2.1) := fun st out hp => by
  rcases h with ⟨rfl, h⟩ | ⟨hne, st', hst, h⟩
  · rw [h st out hp]
    exact (rr_rd (.inl rfl) (rh_rest s i).1).1 he
  · rw [h st out hp]
    exact (rr_rd (.inr ⟨by omega, hk hne⟩) rfl).1 he
/-- a chain's end -/
theorem chain_end {s : ByteArray} {i a : Nat} {L : List Rl} (h : Chain s i a L) (hL : L ≠ []) (ha : a ≤ s.size) (hk : (tk s a).kind ≠ 3) : ∃ st', Whole s st' a ∧ ∀ st out, Pre s st i → rd s ⟨st, i, default, out⟩ = rd s ⟨st', a, default, out ++ L⟩ := by
  rcases h with ⟨rfl, h⟩ | ⟨hne, st', hst, h⟩
  · exact absurd rfl hL
  · refine ⟨st', ⟨ha, by omega, fun h1 h7 => ?_⟩, h⟩
    generalize (tk s a).kind = k at *
    unfold thn
    repeat' split
    all_goals first | rfl | (exfalso; omega)

end Go.Proofs.YtpclldccjpncdabGreat
