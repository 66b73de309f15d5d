import Derived.Test.YtpclldccjpncdabGreatM15
namespace Go.Proofs.YtpclldccjpncdabGreat
open Go.RowKit

set_option maxRecDepth 100000 in
set_option maxHeartbeats 2000000 in
theorem partAt_any (s : ByteArray) (a : Nat) (w : World) (hs : s.size ≤ 1000) (ha : a < s.size) :
    Calls Tryz.prog 130 #[.string s, .int .i64 (a : Nat)] w fun e w' => e = .returned (.agg #[.int .i64 ((if (part s a).2 = a then 0 else 5 : Nat) : Int), .int .i64 0, .string (if (part s a).2 = a then { data := #[] } else strOfNums (part s a).1), .int .i64 (a : Nat), .int .i64 ((if (part s a).2 = a then 0 else (part s a).2 : Nat) : Int)]) ∧ Below w.heap.size w w' := by
  obtain ⟨t0, ht0, hq0, hq1, hq2⟩ := info_parts infoByteC
  obtain ⟨kd, hkd⟩ : ∃ x, x = (if (part s a).2 = a then 0 else 5 : Nat) := ⟨_, rfl⟩
  obtain ⟨tx, htx⟩ : ∃ x, x = (if (part s a).2 = a then ({ data := #[] } : ByteArray) else strOfNums (part s a).1) := ⟨_, rfl⟩
  obtain ⟨kf, hkf⟩ : ∃ x, x = (if (part s a).2 = a then 0 else (part s a).2 : Nat) := ⟨_, rfl⟩
  have HKD : Hid (kd = (if (part s a).2 = a then 0 else 5 : Nat) ∧ tx = (if (part s a).2 = a then ({ data := #[] } : ByteArray) else strOfNums (part s a).1) ∧ kf = (if (part s a).2 = a then 0 else (part s a).2 : Nat)) := ⟨hkd, htx, hkf⟩
  rw [← hkd, ← htx, ← hkf]
  clear hkd htx hkf
  obtain ⟨W, hW⟩ : ∃ W, W = w.alloc (.cells #[.int .i64 0, .int .i64 0, .string ByteArray.empty, .int .i64 0, .int .i64 0] 160) := ⟨_, rfl⟩
  have HW : Hid (W = w.alloc (.cells #[.int .i64 0, .int .i64 0, .string ByteArray.empty, .int .i64 0, .int .i64 0] 160)) := hW
  have HWS : Hid (W.heap.size = w.heap.size + 1) := by show _ = _; rw [hW]; simp
  have HR : Hid (W.rowIs w.heap.size 160 5 tok0) := by show World.rowIs _ _ _ _ _; rw [hW]; exact row_new _ _ _ 5 rfl
  have HB : Hid (Below w.heap.size w W) := by show Below _ _ _; rw [hW]; exact below_one _
  clear hW
  go_enter Tryz.func130, Tryz.ntmps130
  go_wp2
  go_loopw [6, 5] (fun iv v wr => ∃ (i : Nat) (us : List Int), Hid (part s a = (us ++ (part s i).1, (part s i).2)) ∧ i ≤ s.size ∧ us.length ≤ i ∧ iv = .int .i64 (i : Nat) ∧ Below W.heap.size W wr ∧ wr.ownsRow (w.heap.size + 1) 5 1 v us.length (us.map (Value.int .u8))) (fun iv _ _ => s.size - (intOf iv).toNat)
  case atStart => exact ⟨a, [], rfl, Nat.le_of_lt ha, by simp, rfl, by rw [HW.out]; exact Below.refl _ _, World.ownsRow_nil _ _ _ _⟩
  case round =>
    obtain ⟨i, us, HUS, hi, hul, rfl, hbel, hown⟩ := hrel
    obtain ⟨vo9, vc9, hv9, hcv⟩ := convC hown
    subst hv9
    have HOW : Hid (wr.ownsRow (w.heap.size + 1) 5 1 _ us.length (us.map (Value.int .u8))) := hown
    clear hown
    have hsz := hbel.size
    have hszw : w.heap.size + 1 ≤ wr.heap.size := by rw [← HWS.out]; exact hsz
    have HRr : Hid (wr.rowIs w.heap.size 160 5 tok0) := HR.out.of_block (hbel.block _ (by rw [HWS.out]; omega))
    have HBr : Hid (Below w.heap.size w wr) := below_then HB.out hbel
    obtain ⟨⟨c0, c1, c2, c3, c4⟩, f0, f1, f2, f3, f4⟩ := row5F HRr.out
    by_cases hlt : i < s.size
    · have hxb := bt_le s i
      have hbi := bt_in hlt
      obtain ⟨x, hx⟩ : ∃ x, x = bt s i := ⟨_, rfl⟩
      have hxs : ((s[i]'hlt).toNat : Int) = x := by rw [hx, hbi]
      have HX : Hid (x = bt s i) := hx
      rw [← hx] at hxb
      clear hbi hx
      by_cases hsp : sp x = true
      · by_cases h92 : x = 92 ∧ i + 1 < s.size
        · obtain ⟨rfl, h1⟩ := h92
          have hyb := bt_le s (i + 1)
          have hbi := bt_in h1
          obtain ⟨y, hy⟩ : ∃ y, y = bt s (i + 1) := ⟨_, rfl⟩
          have hys : ((s[i + 1]'h1).toNat : Int) = y := by rw [hy, hbi]
          have HUN : Hid (part s a = ((us ++ [(y : Int)]) ++ (part s (i + 2)).1, (part s (i + 2)).2)) := by
            show _ = _
            have hp : pch s i = some ((y : Int), i + 2) := by
              unfold pch
              rw [if_pos hlt, ← HX.out, if_neg (by decide), if_pos ⟨rfl, h1⟩, ← hy]
            rw [HUS.out, part_some hp]
            simp
          rw [← hy] at hyb
          have q1 : ((i : Int) + 1).toNat = i + 1 := by omega
          have q2 : (i : Int) + 1 < (s.size : Int) := by omega
          have q3 : (0 : Int) ≤ (i : Int) + 1 := by omega
          clear hbi hy c0 c1 c2 c3 c4 f0 f1 f2 f3 f4 hcv
          go_wp2_with (first
            | (at_builtin; refine wpList_append_lies _ (by rfl) (.tmp 29) (.tmp 33) 73 (by rfl) (w.heap.size + 1) 5 t0 (.int .u8 0) 1 1 Tryz.underlying73 ht0 hq0 hq1 hq2 rfl (by omega) _ us.length _ (by rfl) (HOW.out.alloc _) ⟨wr.heap.size, 0, none⟩ 1 1 [.int .u8 y] (by rfl) (by rfl) ?d1 ?d2 (by omega) ?d3 ?d5 ?d4 (wr.heap.size + 1) (by simp) ?_))
          case d1 => exact cell_one_new _ _ _
          case d2 => intro u hu; simp at hu; subst hu; rfl
          case d3 => unfold maxLen; omega
          case d5 => omega
          case d4 => simp; omega
          · intro g3 cap3 w3 hown3 hgrow3 _ _
            have HB3 : Hid (Below W.heap.size W w3) := ownC_grown_below (hbel.alloc hsz _) (by rw [HWS.out]; simp; omega) (HOW.out.alloc _) (by rw [HWS.out]; exact Nat.le_refl _) hgrow3
            have HO3 : Hid (w3.ownsRow (w.heap.size + 1) 5 1 (.slice (some ⟨g3, 0, none⟩) (us.length + 1) cap3) (us ++ [(y : Int)]).length ((us ++ [(y : Int)]).map (Value.int .u8))) := by
              show _
              rw [List.length_append, List.map_append]
              exact hown3
            clear hown3 hgrow3
            go_wp2
            go_roundw
            case rel => exact ⟨i + 2, us ++ [(y : Int)], HUN.out, by omega, by simp; omega, by go_num, HB3.out, HO3.out⟩
            case measure => simp [intOf]; omega
        · have HUN : Hid (part s a = (us, i)) := by
            show _ = _
            have hp : pch s i = none := by
              unfold pch
              rw [if_pos hlt, ← HX.out, if_neg (by simp [hsp]), if_neg h92]
            rw [HUS.out, part_none hp]
            simp
          by_cases hx92 : x = 92
          · have h1 : ¬ i + 1 < s.size := fun h => h92 ⟨hx92, h⟩
            subst hx92
            have q2 : (s.size : Int) ≤ (i : Int) + 1 := by omega
            clear h92
            by_cases hu0 : us = []
            · have HV : Hid (kd = 0 ∧ tx = { data := #[] } ∧ kf = 0) := by
                show _ ∧ _
                have h2 : (part s a).2 = a := (part_nil (Nat.le_of_lt ha)).1 (by rw [HUN.out]; exact hu0)
                rw [HKD.out.1, HKD.out.2.1, HKD.out.2.2, if_pos h2, if_pos h2, if_pos h2]
                exact ⟨rfl, rfl, rfl⟩
              have hul0 : us.length = 0 := by rw [hu0]; rfl
              clear hu0
              go_wp2_with fail
              refine (needsBackslash_any 92 _).mono ?_
              rintro e w1 ⟨rfl, hw1⟩
              obtain rfl := hw1.symm
              rw [show sp 92 = true from rfl]
              go_wp2
              exact fin5 rfl (by rfl) HRr.out Tryz.underlying160 rfl sizeTokC HBr.out (Nat.le_refl _) (by rw [HV.out.1, HV.out.2.1, HV.out.2.2] <;> rfl)
            · have HV : Hid (kd = 5 ∧ tx = strOfNums us ∧ kf = i) := by
                show _ ∧ _
                have h2 : ¬ (part s a).2 = a := fun h => hu0 (by have := (part_nil (Nat.le_of_lt ha)).2 h; rw [HUN.out] at this; exact this)
                rw [HKD.out.1, HKD.out.2.1, HKD.out.2.2, if_neg h2, if_neg h2, if_neg h2, HUN.out]
                exact ⟨rfl, rfl, rfl⟩
              have hul0 : ((us.length : Int) == 0) = false := beq_eq_false_iff_ne.2 (fun h => hu0 (List.eq_nil_of_length_eq_zero (by omega)))
              clear hu0
              go_wp2_with fail
              refine (needsBackslash_any 92 _).mono ?_
              rintro e w1 ⟨rfl, hw1⟩
              obtain rfl := hw1.symm
              rw [show sp 92 = true from rfl]
              go_wp2
              exact fin5 rfl (by rfl) HRr.out Tryz.underlying160 rfl sizeTokC HBr.out (Nat.le_refl _) (by rw [HV.out.1, HV.out.2.1, HV.out.2.2] <;> rfl)
          · have hx' : ((x : Int) == 92) = false := beq_eq_false_iff_ne.2 (by omega)
            clear h92 hx92
            by_cases hu0 : us = []
            · have HV : Hid (kd = 0 ∧ tx = { data := #[] } ∧ kf = 0) := by
                show _ ∧ _
                have h2 : (part s a).2 = a := (part_nil (Nat.le_of_lt ha)).1 (by rw [HUN.out]; exact hu0)
                rw [HKD.out.1, HKD.out.2.1, HKD.out.2.2, if_pos h2, if_pos h2, if_pos h2]
                exact ⟨rfl, rfl, rfl⟩
              have hul0 : us.length = 0 := by rw [hu0]; rfl
              clear hu0
              go_wp2_with fail
              refine (needsBackslash_any x _).mono ?_
              rintro e w1 ⟨rfl, hw1⟩
              obtain rfl := hw1.symm
              rw [hsp]
              go_wp2
              exact fin5 rfl (by rfl) HRr.out Tryz.underlying160 rfl sizeTokC HBr.out (Nat.le_refl _) (by rw [HV.out.1, HV.out.2.1, HV.out.2.2] <;> rfl)
            · have HV : Hid (kd = 5 ∧ tx = strOfNums us ∧ kf = i) := by
                show _ ∧ _
                have h2 : ¬ (part s a).2 = a := fun h => hu0 (by have := (part_nil (Nat.le_of_lt ha)).2 h; rw [HUN.out] at this; exact this)
                rw [HKD.out.1, HKD.out.2.1, HKD.out.2.2, if_neg h2, if_neg h2, if_neg h2, HUN.out]
                exact ⟨rfl, rfl, rfl⟩
              have hul0 : ((us.length : Int) == 0) = false := beq_eq_false_iff_ne.2 (fun h => hu0 (List.eq_nil_of_length_eq_zero (by omega)))
              clear hu0
              go_wp2_with fail
              refine (needsBackslash_any x _).mono ?_
              rintro e w1 ⟨rfl, hw1⟩
              obtain rfl := hw1.symm
              rw [hsp]
              go_wp2
              exact fin5 rfl (by rfl) HRr.out Tryz.underlying160 rfl sizeTokC HBr.out (Nat.le_refl _) (by rw [HV.out.1, HV.out.2.1, HV.out.2.2] <;> rfl)
      · have hsp' : sp x = false := by simpa using hsp
        have HUN : Hid (part s a = ((us ++ [(x : Int)]) ++ (part s (i + 1)).1, (part s (i + 1)).2)) := by
          show _ = _
          have hp : pch s i = some ((x : Int), i + 1) := by
            unfold pch
            rw [if_pos hlt, ← HX.out, if_pos hsp']
          rw [HUS.out, part_some hp]
          simp
        have hn92 : x ≠ 92 := fun h => hsp (by rw [h]; rfl)
        have hx' : ((x : Int) == 92) = false := beq_eq_false_iff_ne.2 (by omega)
        clear hsp hn92 c0 c1 c2 c3 c4 f0 f1 f2 f3 f4 hcv
        go_wp2_with fail
        refine (needsBackslash_any x _).mono ?_
        rintro e w1 ⟨rfl, hw1⟩
        obtain rfl := hw1.symm
        rw [hsp']
        go_wp2_with (first
          | (at_builtin; refine wpList_append_lies _ (by rfl) (.tmp 29) (.tmp 33) 73 (by rfl) (w.heap.size + 1) 5 t0 (.int .u8 0) 1 1 Tryz.underlying73 ht0 hq0 hq1 hq2 rfl (by omega) _ us.length _ (by rfl) (HOW.out.alloc _) ⟨wr.heap.size, 0, none⟩ 1 1 [.int .u8 x] (by rfl) (by rfl) ?d1 ?d2 (by omega) ?d3 ?d5 ?d4 (wr.heap.size + 1) (by simp) ?_))
        case d1 => exact cell_one_new _ _ _
        case d2 => intro u hu; simp at hu; subst hu; rfl
        case d3 => unfold maxLen; omega
        case d5 => omega
        case d4 => simp; omega
        · intro g3 cap3 w3 hown3 hgrow3 _ _
          have HB3 : Hid (Below W.heap.size W w3) := ownC_grown_below (hbel.alloc hsz _) (by rw [HWS.out]; simp; omega) (HOW.out.alloc _) (by rw [HWS.out]; exact Nat.le_refl _) hgrow3
          have HO3 : Hid (w3.ownsRow (w.heap.size + 1) 5 1 (.slice (some ⟨g3, 0, none⟩) (us.length + 1) cap3) (us ++ [(x : Int)]).length ((us ++ [(x : Int)]).map (Value.int .u8))) := by
            show _
            rw [List.length_append, List.map_append]
            exact hown3
          clear hown3 hgrow3
          go_wp2
          go_roundw
          case rel => exact ⟨i + 1, us ++ [(x : Int)], HUN.out, by omega, by simp; omega, by go_num, HB3.out, HO3.out⟩
          case measure => simp [intOf]; omega
    · have hie : i = s.size := by omega
      have HUN : Hid (part s a = (us, i)) := by
        show _ = _
        have hp : pch s i = none := by
          unfold pch
          rw [if_neg (by omega)]
        rw [HUS.out, part_none hp]
        simp
      clear hie
      by_cases hu0 : us = []
      · have HV : Hid (kd = 0 ∧ tx = { data := #[] } ∧ kf = 0) := by
          show _ ∧ _
          have h2 : (part s a).2 = a := (part_nil (Nat.le_of_lt ha)).1 (by rw [HUN.out]; exact hu0)
          rw [HKD.out.1, HKD.out.2.1, HKD.out.2.2, if_pos h2, if_pos h2, if_pos h2]
          exact ⟨rfl, rfl, rfl⟩
        have hul0 : us.length = 0 := by rw [hu0]; rfl
        clear hu0
        go_wp2
        exact fin5 rfl (by rfl) HRr.out Tryz.underlying160 rfl sizeTokC HBr.out (Nat.le_refl _) (by rw [HV.out.1, HV.out.2.1, HV.out.2.2] <;> rfl)
      · have HV : Hid (kd = 5 ∧ tx = strOfNums us ∧ kf = i) := by
          show _ ∧ _
          have h2 : ¬ (part s a).2 = a := fun h => hu0 (by have := (part_nil (Nat.le_of_lt ha)).2 h; rw [HUN.out] at this; exact this)
          rw [HKD.out.1, HKD.out.2.1, HKD.out.2.2, if_neg h2, if_neg h2, if_neg h2, HUN.out]
          exact ⟨rfl, rfl, rfl⟩
        have hul0 : ((us.length : Int) == 0) = false := beq_eq_false_iff_ne.2 (fun h => hu0 (List.eq_nil_of_length_eq_zero (by omega)))
        clear hu0
        go_wp2
        exact fin5 rfl (by rfl) HRr.out Tryz.underlying160 rfl sizeTokC HBr.out (Nat.le_refl _) (by rw [HV.out.1, HV.out.2.1, HV.out.2.2] <;> rfl)

def tkK (t : Tk) : Nat := if t.kind < 6 then t.kind else 0
def tkF (t : Tk) : Nat := if t.kind < 6 then t.fin else 0

set_option maxRecDepth 100000 in
set_option maxHeartbeats 2000000 in
theorem tokenAt_any (s : ByteArray) (i : Nat) (w : World) (hs : s.size ≤ 1000) (hi : i ≤ s.size) :
    Calls Tryz.prog 122 #[.string s, .int .i64 (i : Nat)] w fun e w' => e = .returned (.agg #[.int .i64 (tkK (tk s i) : Nat), .int .i64 ((tk s i).n : Nat), .string (strOfNums (tk s i).tx), .int .i64 ((tk s i).at' : Nat), .int .i64 (tkF (tk s i) : Nat)]) ∧ Below w.heap.size w w' := by
  obtain ⟨a, ha⟩ : ∃ a, a = skp s i := ⟨_, rfl⟩
  have hle : a ≤ s.size := by rw [ha]; exact skp_le hi
  obtain ⟨kd, hkd⟩ : ∃ x, x = tkK (tk s i) := ⟨_, rfl⟩
  obtain ⟨kn, hkn⟩ : ∃ x, x = (tk s i).n := ⟨_, rfl⟩
  obtain ⟨tx, htx⟩ : ∃ x, x = strOfNums (tk s i).tx := ⟨_, rfl⟩
  obtain ⟨kf, hkf⟩ : ∃ x, x = tkF (tk s i) := ⟨_, rfl⟩
  have HV : Hid (kd = tkK (tkA s a) ∧ kn = (tkA s a).n ∧ tx = strOfNums (tkA s a).tx ∧ kf = tkF (tkA s a)) := by show _ ∧ _; rw [ha]; exact ⟨hkd, hkn, htx, hkf⟩
  rw [tk_at, ← ha, ← hkd, ← hkn, ← htx, ← hkf]
  have HC : Hid (∀ w, Calls Tryz.prog 78 #[.string s, .int .i64 (i : Nat)] w fun e w' => e = .returned (.int .i64 (a : Nat)) ∧ w' = w) := fun w => by rw [ha]; exact behindSpaces_any s i w (by omega) hi
  clear ha hkd hkn htx hkf
  have HF : Hid (∀ t, tkA s a = t → kd = tkK t ∧ kn = t.n ∧ tx = strOfNums t.tx ∧ kf = tkF t) := fun t ht => by rw [← ht]; exact HV.out
  go_enter Tryz.func122, Tryz.ntmps122
  go_wp2_with fail
  refine (HC.out _).mono ?_
  rintro e w1 ⟨rfl, hw1⟩
  have HR : Hid (w1.rowIs w.heap.size 160 5 tok0) := by show World.rowIs _ _ _ _ _; rw [hw1]; exact row_new _ _ _ 5 rfl
  have HB : Hid (Below w.heap.size w w1) := by show Below _ _ _; rw [hw1]; exact below_one _
  have hz1 : w1.heap.size = w.heap.size + 1 := by rw [hw1]; simp
  have HZ : Hid (w.heap.size < w1.heap.size) := by show _ < _; omega
  clear hw1 hz1
  by_cases hlt : a < s.size
  · have hxb := bt_le s a
    have hbi := bt_in hlt
    obtain ⟨x, hx⟩ : ∃ x, x = bt s a := ⟨_, rfl⟩
    have hxs : ((s[a]'hlt).toNat : Int) = x := by rw [hx, hbi]
    rw [← hx] at hxb
    clear hbi
    have HX : Hid (x = bt s a) := hx
    clear hx
    by_cases h38 : x = 38
    · have HE : Hid (kd = 1 ∧ kn = 0 ∧ tx = { data := #[] } ∧ kf = a + 1) := HF.out ⟨1, 0, [], a, a + 1⟩ (by unfold tkA; rw [if_neg (by omega), if_pos (by rw [← HX.out]; exact h38)])
      obtain ⟨⟨c0, c1, c2, c3, c4⟩, f0, f1, f2, f3, f4⟩ := row5F HR.out
      subst h38
      go_wp2
      exact fin5 rfl (by rfl) HR.out Tryz.underlying160 rfl sizeTokC HB.out (Nat.le_refl _) (by rw [HE.out.1, HE.out.2.1, HE.out.2.2.1, HE.out.2.2.2] <;> simp)
    have e38 : ((x : Int) == 38) = false := beq_eq_false_iff_ne.2 (by omega)
    by_cases h47 : x = 47
    · have HE : Hid (kd = 4 ∧ kn = 0 ∧ tx = { data := #[] } ∧ kf = a + 1) := HF.out ⟨4, 0, [], a, a + 1⟩ (by unfold tkA; rw [if_neg (by omega), if_neg (by rw [← HX.out]; exact h38), if_pos (by rw [← HX.out]; exact h47)])
      obtain ⟨⟨c0, c1, c2, c3, c4⟩, f0, f1, f2, f3, f4⟩ := row5F HR.out
      subst h47
      clear h38
      go_wp2
      exact fin5 rfl (by rfl) HR.out Tryz.underlying160 rfl sizeTokC HB.out (Nat.le_refl _) (by rw [HE.out.1, HE.out.2.1, HE.out.2.2.1, HE.out.2.2.2] <;> simp)
    have e47 : ((x : Int) == 47) = false := beq_eq_false_iff_ne.2 (by omega)
    by_cases h61 : x = 61
    · have HE : Hid (kd = 3 ∧ kn = 0 ∧ tx = { data := #[] } ∧ kf = a + 1) := HF.out ⟨3, 0, [], a, a + 1⟩ (by unfold tkA; rw [if_neg (by omega), if_neg (by rw [← HX.out]; exact h38), if_neg (by rw [← HX.out]; exact h47), if_pos (by rw [← HX.out]; exact h61)])
      obtain ⟨⟨c0, c1, c2, c3, c4⟩, f0, f1, f2, f3, f4⟩ := row5F HR.out
      subst h61
      clear h38 h47
      go_wp2
      exact fin5 rfl (by rfl) HR.out Tryz.underlying160 rfl sizeTokC HB.out (Nat.le_refl _) (by rw [HE.out.1, HE.out.2.1, HE.out.2.2.1, HE.out.2.2.2] <;> simp)
    have e61 : ((x : Int) == 61) = false := beq_eq_false_iff_ne.2 (by omega)
    by_cases h60 : x = 60
    · obtain ⟨k, hk⟩ : ∃ k, k = lessN s a := ⟨_, rfl⟩
      have HE : Hid (kd = 3 ∧ kn = k ∧ tx = { data := #[] } ∧ kf = a + k) := HF.out ⟨3, k, [], a, a + k⟩ (by unfold tkA; rw [hk, if_neg (by omega), if_neg (by rw [← HX.out]; exact h38), if_neg (by rw [← HX.out]; exact h47), if_neg (by rw [← HX.out]; exact h61), if_pos (by rw [← HX.out]; exact h60)])
      obtain ⟨ak, hak⟩ : ∃ z, z = a + k := ⟨_, rfl⟩
      have HD : Hid (∀ w, Calls Tryz.prog 128 #[.string s, .int .i64 (a : Nat)] w fun e w' => e = .returned (.agg #[.int .i64 3, .int .i64 (k : Nat), .string { data := #[] }, .int .i64 (a : Nat), .int .i64 (ak : Nat)]) ∧ Below w.heap.size w w') := fun w => by rw [hak, hk]; exact lessAt_any s a w hs hlt
      rw [← hak] at HE
      subst h60
      clear h38 h47 h61 hk hak
      go_wp2_with fail
      refine (HD.out _).mono ?_
      rintro e w2 ⟨rfl, hb2⟩
      have HR2 : Hid (w2.rowIs w.heap.size 160 5 tok0) := HR.out.of_block (hb2.block _ HZ.out)
      have HB2 : Hid (Below w.heap.size w w2) := below_then HB.out hb2
      obtain ⟨⟨c0, c1, c2, c3, c4⟩, f0, f1, f2, f3, f4⟩ := row5F HR2.out
      clear hb2
      go_wp2
      exact fin5 rfl (by rfl) HR2.out Tryz.underlying160 rfl sizeTokC HB2.out (Nat.le_refl _) (by rw [HE.out.1, HE.out.2.1, HE.out.2.2.1, HE.out.2.2.2] <;> simp)
    have e60 : ((x : Int) == 60) = false := beq_eq_false_iff_ne.2 (by omega)
    by_cases h91 : x = 91
    · obtain ⟨k, hk⟩ : ∃ k, k = befN s a := ⟨_, rfl⟩
      obtain ⟨k1, hk1⟩ : ∃ x, x = (if k = 0 then 0 else 2 : Nat) := ⟨_, rfl⟩
      obtain ⟨k2, hk2⟩ : ∃ x, x = (if k = 0 then 0 else a + 10 : Nat) := ⟨_, rfl⟩
      have HE : Hid (kd = k1 ∧ kn = k ∧ tx = { data := #[] } ∧ kf = k2) := by
        have ht : tkA s a = if k = 0 then ⟨6, 0, [], a, a + 1⟩ else ⟨2, k, [], a, a + 10⟩ := by unfold tkA; rw [hk, if_neg (by omega), if_neg (by rw [← HX.out]; exact h38), if_neg (by rw [← HX.out]; exact h47), if_neg (by rw [← HX.out]; exact h61), if_neg (by rw [← HX.out]; exact h60), if_pos (by rw [← HX.out]; exact h91)]
        by_cases h0 : k = 0
        · rw [if_pos h0] at ht hk1 hk2
          have := HF.out _ ht
          show _ ∧ _
          rw [hk1, hk2, h0]
          exact this
        · rw [if_neg h0] at ht hk1 hk2
          have := HF.out _ ht
          show _ ∧ _
          rw [hk1, hk2]
          exact this
      have HD : Hid (∀ w, Calls Tryz.prog 129 #[.string s, .int .i64 (a : Nat)] w fun e w' => e = .returned (.agg #[.int .i64 (k1 : Nat), .int .i64 (k : Nat), .string { data := #[] }, .int .i64 (a : Nat), .int .i64 (k2 : Nat)]) ∧ Below w.heap.size w w') := fun w => by rw [hk1, hk2, hk]; exact beforeAt_any s a w hs hlt
      subst h91
      clear h38 h47 h61 h60 hk hk1 hk2
      go_wp2_with fail
      refine (HD.out _).mono ?_
      rintro e w2 ⟨rfl, hb2⟩
      have HR2 : Hid (w2.rowIs w.heap.size 160 5 tok0) := HR.out.of_block (hb2.block _ HZ.out)
      have HB2 : Hid (Below w.heap.size w w2) := below_then HB.out hb2
      obtain ⟨⟨c0, c1, c2, c3, c4⟩, f0, f1, f2, f3, f4⟩ := row5F HR2.out
      clear hb2
      go_wp2
      exact fin5 rfl (by rfl) HR2.out Tryz.underlying160 rfl sizeTokC HB2.out (Nat.le_refl _) (by rw [HE.out.1, HE.out.2.1, HE.out.2.2.1, HE.out.2.2.2] <;> simp)
    have e91 : ((x : Int) == 91) = false := beq_eq_false_iff_ne.2 (by omega)
    obtain ⟨k1, hk1⟩ : ∃ x, x = (if (part s a).2 = a then 0 else 5 : Nat) := ⟨_, rfl⟩
    obtain ⟨tt, htt⟩ : ∃ x, x = (if (part s a).2 = a then ({ data := #[] } : ByteArray) else strOfNums (part s a).1) := ⟨_, rfl⟩
    obtain ⟨k2, hk2⟩ : ∃ x, x = (if (part s a).2 = a then 0 else (part s a).2 : Nat) := ⟨_, rfl⟩
    have HE : Hid (kd = k1 ∧ kn = 0 ∧ tx = tt ∧ kf = k2) := by
      have ht : tkA s a = if (part s a).2 = a then ⟨6, 0, [], a, a + 1⟩ else ⟨5, 0, (part s a).1, a, (part s a).2⟩ := by unfold tkA; rw [if_neg (by omega), if_neg (by rw [← HX.out]; exact h38), if_neg (by rw [← HX.out]; exact h47), if_neg (by rw [← HX.out]; exact h61), if_neg (by rw [← HX.out]; exact h60), if_neg (by rw [← HX.out]; exact h91)]
      by_cases h0 : (part s a).2 = a
      · rw [if_pos h0] at ht hk1 hk2 htt
        have := HF.out _ ht
        show _ ∧ _
        rw [hk1, hk2, htt]
        exact this
      · rw [if_neg h0] at ht hk1 hk2 htt
        have := HF.out _ ht
        show _ ∧ _
        rw [hk1, hk2, htt]
        exact this
    have HD : Hid (∀ w, Calls Tryz.prog 130 #[.string s, .int .i64 (a : Nat)] w fun e w' => e = .returned (.agg #[.int .i64 (k1 : Nat), .int .i64 0, .string tt, .int .i64 (a : Nat), .int .i64 (k2 : Nat)]) ∧ Below w.heap.size w w') := fun w => by rw [hk1, hk2, htt]; exact partAt_any s a w hs hlt
    clear h38 h47 h61 h60 h91 hk1 hk2 htt
    go_wp2_with fail
    refine (HD.out _).mono ?_
    rintro e w2 ⟨rfl, hb2⟩
    have HR2 : Hid (w2.rowIs w.heap.size 160 5 tok0) := HR.out.of_block (hb2.block _ HZ.out)
    have HB2 : Hid (Below w.heap.size w w2) := below_then HB.out hb2
    obtain ⟨⟨c0, c1, c2, c3, c4⟩, f0, f1, f2, f3, f4⟩ := row5F HR2.out
    clear hb2
    go_wp2
    exact fin5 rfl (by rfl) HR2.out Tryz.underlying160 rfl sizeTokC HB2.out (Nat.le_refl _) (by rw [HE.out.1, HE.out.2.1, HE.out.2.2.1, HE.out.2.2.2] <;> simp)
  · have HE : Hid (kd = 0 ∧ kn = 0 ∧ tx = { data := #[] } ∧ kf = 0) := HF.out ⟨7, 0, [], a, a⟩ (by unfold tkA; rw [if_pos (by omega)])
    obtain ⟨⟨c0, c1, c2, c3, c4⟩, f0, f1, f2, f3, f4⟩ := row5F HR.out
    go_wp2
    exact fin5 rfl (by rfl) HR.out Tryz.underlying160 rfl sizeTokC HB.out (Nat.le_refl _) (by rw [HE.out.1, HE.out.2.1, HE.out.2.2.1, HE.out.2.2.2] <;> simp)

end Go.Proofs.YtpclldccjpncdabGreat

namespace Go.Proofs.YtpclldccjpncdabGreat
open Go.RowKit

theorem tkK_eq {s : ByteArray} {i : Nat} {k : Nat} (h1 : 1 ≤ k) (h5 : k ≤ 5) : tkK (tk s i) = k ↔ (tk s i).kind = k := by
  unfold tkK
  constructor
  · intro h
    split at h
    · exact h
    · omega
  · intro h
    rw [h, if_pos (by omega)]
theorem tkF_eq {s : ByteArray} {i : Nat} (h : (tk s i).kind ≤ 5) : tkF (tk s i) = (tk s i).fin := by unfold tkF; rw [if_pos (by omega)]
theorem tk_lim {s : ByteArray} {i : Nat} (hi : i ≤ s.size) : (tk s i).at' ≤ s.size ∧ tkF (tk s i) ≤ s.size ∧ tkK (tk s i) ≤ 5 ∧ (tk s i).n ≤ 3 ∧ (tk s i).tx.length ≤ s.size := by
  refine ⟨by rw [tk_at]; exact skp_le hi, ?_, ?_, tkA_n s _, tkA_len⟩
  · unfold tkF
    split
    · next h => exact (tk_to (by omega)).2.1
    · omega
  · unfold tkK
    split <;> omega

set_option maxRecDepth 100000 in
set_option maxHeartbeats 2000000 in
theorem readPart_any (s : ByteArray) (i most : Nat) (w : World) (hs : s.size ≤ 1000) (hi : i ≤ s.size) (_hm : most ≤ 100) :
    Calls Tryz.prog 123 #[.string s, .int .i64 (i : Nat), .int .i64 (most : Nat)] w fun e w' => e = .returned (.tuple #[.string (rp s i most).1, .int .i64 ((rp s i most).2.1 : Nat), .int .i64 (rp s i most).2.2]) ∧ Below w.heap.size w w' := by
  have hlim := tk_lim hi
  obtain ⟨t, ht⟩ : ∃ t, t = tk s i := ⟨_, rfl⟩
  obtain ⟨kd, hkd⟩ : ∃ x, x = tkK (tk s i) := ⟨_, rfl⟩
  obtain ⟨kn, hkn⟩ : ∃ x, x = (tk s i).n := ⟨_, rfl⟩
  obtain ⟨tx, htx⟩ : ∃ x, x = strOfNums (tk s i).tx := ⟨_, rfl⟩
  obtain ⟨ka, hka⟩ : ∃ x, x = (tk s i).at' := ⟨_, rfl⟩
  obtain ⟨kf, hkf⟩ : ∃ x, x = tkF (tk s i) := ⟨_, rfl⟩
  have HC : Hid (∀ w, Calls Tryz.prog 122 #[.string s, .int .i64 (i : Nat)] w fun e w' => e = .returned (.agg #[.int .i64 (kd : Nat), .int .i64 (kn : Nat), .string tx, .int .i64 (ka : Nat), .int .i64 (kf : Nat)]) ∧ Below w.heap.size w w') := fun w => by rw [hkd, hkn, htx, hka, hkf]; exact tokenAt_any s i w hs hi
  have hts : tx.size = (tk s i).tx.length := by rw [htx, strOfNums_size]
  obtain ⟨pv, hpv⟩ : ∃ x, x = (rp s i most).1 := ⟨_, rfl⟩
  obtain ⟨pa, hpa⟩ : ∃ x, x = (rp s i most).2.1 := ⟨_, rfl⟩
  obtain ⟨pe, hpe⟩ : ∃ x, x = (rp s i most).2.2 := ⟨_, rfl⟩
  rw [← hpv, ← hpa, ← hpe]
  by_cases h5 : (tk s i).kind = 5
  · have hk5 : kd = 5 := by rw [hkd]; exact (tkK_eq (by omega) (by omega)).2 h5
    subst hk5
    by_cases hl : most < (tk s i).tx.length
    · have HE : Hid (pv = { data := #[] } ∧ pa = ka ∧ pe = 9) := by
        show _ ∧ _
        rw [hpv, hpa, hpe, hka]
        unfold rp
        rw [if_neg (not_not_intro h5), if_pos hl]
        exact ⟨rfl, rfl, rfl⟩
      have htl : most < tx.size := by omega
      have htl2 : tx.size ≤ 1000 := by omega
      clear hlim ht hkd hkn htx hka hkf hpv hpa hpe h5 hl hts
      go_enter Tryz.func123, Tryz.ntmps123
      go_wp2_with fail
      refine (HC.out _).mono ?_
      rintro e w1 ⟨rfl, hb1⟩
      go_wp2
      go_region
      all_goals
        go_wp2
        go_ret3
        exact ⟨by rw [HE.out.1, HE.out.2.1, HE.out.2.2]; rfl, (below_then hb1 (below_one _)).drew⟩
    · have HE : Hid (pv = tx ∧ pa = kf ∧ pe = 0) := by
        show _ ∧ _
        rw [hpv, hpa, hpe, htx, hkf, tkF_eq (by omega)]
        unfold rp
        rw [if_neg (not_not_intro h5), if_neg hl]
        exact ⟨rfl, rfl, rfl⟩
      have htl : tx.size ≤ most := by omega
      clear hlim ht hkd hkn htx hka hkf hpv hpa hpe h5 hl hts
      go_enter Tryz.func123, Tryz.ntmps123
      go_wp2_with fail
      refine (HC.out _).mono ?_
      rintro e w1 ⟨rfl, hb1⟩
      go_wp2
      go_region
      all_goals
        go_wp2
        go_ret3
        exact ⟨by rw [HE.out.1, HE.out.2.1, HE.out.2.2]; rfl, (below_then hb1 (below_one _)).drew⟩
  · have hk5 : kd ≠ 5 := fun h => h5 ((tkK_eq (by omega) (by omega)).1 (by rw [← hkd]; exact h))
    have hk5' : ((kd : Int) == 5) = false := beq_eq_false_iff_ne.2 (by omega)
    have HE : Hid (pv = { data := #[] } ∧ pa = ka ∧ pe = 8) := by
      show _ ∧ _
      rw [hpv, hpa, hpe, hka]
      unfold rp
      rw [if_pos h5]
      exact ⟨rfl, rfl, rfl⟩
    clear hlim ht hkd hkn htx hka hkf hpv hpa hpe h5 hts hk5
    go_enter Tryz.func123, Tryz.ntmps123
    go_wp2_with fail
    refine (HC.out _).mono ?_
    rintro e w1 ⟨rfl, hb1⟩
    go_wp2
    go_region
    all_goals
      go_wp2
      go_ret3
      exact ⟨by rw [HE.out.1, HE.out.2.1, HE.out.2.2]; rfl, (below_then hb1 (below_one _)).drew⟩

set_option maxHeartbeats 1000000 in
theorem relationFollows_any (s : ByteArray) (i : Nat) (w : World) (hs : s.size ≤ 1000) (hi : i ≤ s.size) :
    Calls Tryz.prog 105 #[.string s, .int .i64 (i : Nat)] w fun e w' => e = .returned (.bool (decide ((tk s i).kind = 3))) ∧ Below w.heap.size w w' := by
  obtain ⟨kd, hkd⟩ : ∃ x, x = tkK (tk s i) := ⟨_, rfl⟩
  obtain ⟨kn, hkn⟩ : ∃ x, x = (tk s i).n := ⟨_, rfl⟩
  obtain ⟨tx, htx⟩ : ∃ x, x = strOfNums (tk s i).tx := ⟨_, rfl⟩
  obtain ⟨ka, hka⟩ : ∃ x, x = (tk s i).at' := ⟨_, rfl⟩
  obtain ⟨kf, hkf⟩ : ∃ x, x = tkF (tk s i) := ⟨_, rfl⟩
  have HC : Hid (∀ w, Calls Tryz.prog 122 #[.string s, .int .i64 (i : Nat)] w fun e w' => e = .returned (.agg #[.int .i64 (kd : Nat), .int .i64 (kn : Nat), .string tx, .int .i64 (ka : Nat), .int .i64 (kf : Nat)]) ∧ Below w.heap.size w w') := fun w => by rw [hkd, hkn, htx, hka, hkf]; exact tokenAt_any s i w hs hi
  obtain ⟨bb, hbb⟩ : ∃ x, x = decide ((tk s i).kind = 3) := ⟨_, rfl⟩
  rw [← hbb]
  by_cases h3 : (tk s i).kind = 3
  · have hk3 : kd = 3 := by rw [hkd]; exact (tkK_eq (by omega) (by omega)).2 h3
    have hb3 : bb = true := by rw [hbb]; simp [h3]
    subst hk3
    subst hb3
    clear hkd hkn htx hka hkf hbb h3
    go_enter Tryz.func105, Tryz.ntmps105
    go_wp2_with fail
    refine (HC.out _).mono ?_
    rintro e w1 ⟨rfl, hb1⟩
    go_wp2
    go_ret
    exact ⟨rfl, below_then hb1 (below_one _)⟩
  · have hk3 : kd ≠ 3 := fun h => h3 ((tkK_eq (by omega) (by omega)).1 (by rw [← hkd]; exact h))
    have hk3' : ((kd : Int) == 3) = false := beq_eq_false_iff_ne.2 (by omega)
    have hb3 : bb = false := by rw [hbb]; simp [h3]
    subst hb3
    clear hkd hkn htx hka hkf hbb h3 hk3
    go_enter Tryz.func105, Tryz.ntmps105
    go_wp2_with fail
    refine (HC.out _).mono ?_
    rintro e w1 ⟨rfl, hb1⟩
    go_wp2
    go_ret
    exact ⟨rfl, below_then hb1 (below_one _)⟩

end Go.Proofs.YtpclldccjpncdabGreat

namespace Go.Proofs.YtpclldccjpncdabGreat
open Go.RowKit

theorem sizeRulC : (Tryz.prog.info? 57).map (·.size) = some 5 := by kernel_rfl
def rul0 : Nat → Value := fun i => #[Value.string ByteArray.empty, .int .i64 0, .int .i64 0, .string ByteArray.empty, .string ByteArray.empty].getD i undef
theorem fin53d {P : Program} {fn : Func} {p x y : Tmp} {ty : TypeId} {w0 W : World} {B g : Nat} {f : Nat → Value} {v0 v1 v2 v3 v4 v : Value} {d : TypeDesc} {tmps : Array Value} (h : fn.results = #[.cell p ty, .tmp x, .tmp y]) (hp : tmps.getD p undef = .pointer (some ⟨g, 0, none⟩)) (hg : W.rowIs g ty 5 f)
    (hu : P.underlying ty = some d) (hd : (match d with | .struct _ | .array _ _ => true | _ => false) = true) (hi : (P.info? ty).map (·.size) = some 5) (hb : Below B w0 W) (hB : B ≤ g) (hv : v = .tuple #[.agg #[v0, v1, v2, v3, v4], tmps.getD x undef, tmps.getD y undef]) :
    bodyPost P fn (fun e w' => e = .returned v ∧ Below B w0 w') Exit.ret { tmps := tmps, defers := [] } (set5 W g v0 v1 v2 v3 v4).drew := by
  have hr := World.rowIs.drew (((((hg.set 0 v0).set 1 v1).set 2 v2).set 3 v3).set 4 v4)
  have := res53 (P := P) h tmps g _ d hp hr hu hd hi
  exact bodyPost_ret this rfl ⟨by rw [hv]; rfl, ((set5_only W g v0 v1 v2 v3 v4).below hb hB).drew⟩
theorem tok_let (s : ByteArray) (i : Nat) (hs : s.size ≤ 1000) (hi : i ≤ s.size) : ∃ (kd kn : Nat) (tx : ByteArray) (ka kf : Nat), Hid (∀ w, Calls Tryz.prog 122 #[.string s, .int .i64 (i : Nat)] w fun e w' => e = .returned (.agg #[.int .i64 (kd : Nat), .int .i64 (kn : Nat), .string tx, .int .i64 (ka : Nat), .int .i64 (kf : Nat)]) ∧ Below w.heap.size w w') ∧ Hid (kd = tkK (tk s i) ∧ kn = (tk s i).n ∧ tx = strOfNums (tk s i).tx ∧ ka = (tk s i).at' ∧ kf = tkF (tk s i)) ∧ ka ≤ s.size ∧ kf ≤ s.size ∧ kd ≤ 5 ∧ kn ≤ 3 := by
  obtain ⟨h1, h2, h3, h4, _⟩ := tk_lim hi
  exact ⟨_, _, _, _, _, fun w => tokenAt_any s i w hs hi, ⟨rfl, rfl, rfl, rfl, rfl⟩, h1, h2, h3, h4⟩
theorem part_let (s : ByteArray) (i most : Nat) (hs : s.size ≤ 1000) (hi : i ≤ s.size) (hm : most ≤ 100) : ∃ (pv : ByteArray) (pa : Nat) (pe : Int), Hid (∀ w, Calls Tryz.prog 123 #[.string s, .int .i64 (i : Nat), .int .i64 (most : Nat)] w fun e w' => e = .returned (.tuple #[.string pv, .int .i64 (pa : Nat), .int .i64 pe]) ∧ Below w.heap.size w w') ∧ Hid (pv = (rp s i most).1 ∧ pa = (rp s i most).2.1 ∧ pe = (rp s i most).2.2) ∧ pa ≤ s.size := by
  obtain ⟨h1, _, _, _⟩ := rp_to (s := s) (i := i) (most := most) hi
  exact ⟨_, _, _, fun w => readPart_any s i most w hs hi hm, ⟨rfl, rfl, rfl⟩, h1⟩

set_option maxRecDepth 100000 in
set_option maxHeartbeats 2000000 in
theorem readHead_any (s : ByteArray) (i : Nat) (w : World) (hs : s.size ≤ 1000) (hi : i ≤ s.size) :
    Calls Tryz.prog 104 #[.string s, .int .i64 (i : Nat)] w fun e w' => e = .returned (.tuple #[(rh s i).1.v, .int .i64 ((rh s i).2.1 : Nat), .int .i64 (rh s i).2.2]) ∧ Below w.heap.size w w' := by
  obtain ⟨v, hv⟩ : ∃ v, v = Value.tuple #[(rh s i).1.v, .int .i64 ((rh s i).2.1 : Nat), .int .i64 (rh s i).2.2] := ⟨_, rfl⟩
  have HV : Hid (v = Value.tuple #[(rh s i).1.v, .int .i64 ((rh s i).2.1 : Nat), .int .i64 (rh s i).2.2]) := hv
  rw [← hv]
  clear hv
  obtain ⟨kd, kn, tx, ka, kf, HC, HT, b1, b2, b3, b4⟩ := tok_let s i hs hi
  by_cases h1 : (tk s i).kind = 1
  · have hk : kd = 1 := by rw [HT.out.1]; exact (tkK_eq (by omega) (by omega)).2 h1
    have hkf : kf = (tk s i).fin := by rw [HT.out.2.2.2.2]; exact tkF_eq (by omega)
    subst hk
    obtain ⟨kd2, kn2, tx2, ka2, kf2, HC2, HT2, e1, e2, e3, e4⟩ := tok_let s kf hs b2
    by_cases h2 : (tk s kf).kind = 2
    · have hk : kd2 = 2 := by rw [HT2.out.1]; exact (tkK_eq (by omega) (by omega)).2 h2
      have hkf2 : kf2 = (tk s kf).fin := by rw [HT2.out.2.2.2.2]; exact tkF_eq (by omega)
      subst hk
      have hj : rhJ s kf = kf2 := by unfold rhJ; rw [if_pos h2, hkf2]
      have hb : rhB s kf = kn2 := by unfold rhB; rw [if_pos h2, HT2.out.2.1]
      obtain ⟨pv, pa, pe, HP, HPE, p1⟩ := part_let s kf2 6 hs e2 (by omega)
      by_cases hpe : pe = 0
      · have HE : Hid (rh s i = ({ noRl with reset := pv, before := (kn2 : Nat) }, pa, 0)) := by
          show _ = _
          unfold rh
          rw [if_neg (not_not_intro h1), ← hkf, hj, hb, ← HPE.out.1, ← HPE.out.2.1, ← HPE.out.2.2, if_neg (not_not_intro hpe)]
        subst hpe
        clear h1 hkf h2 hkf2 hj hb
        go_enter Tryz.func104, Tryz.ntmps104
        go_wp2_with fail
        refine (HC.out _).mono ?_
        rintro e w1 ⟨rfl, hb1⟩
        simp only [size_one] at hb1
        have HR1 : Hid (w1.rowIs w.heap.size 57 5 rul0) := World.rowIs.of_block (row_new _ _ _ 5 rfl) (hb1.block _ (by omega))
        have HB1 : Hid (Below w.heap.size w w1) := below_then (below_one _) (by simp only [size_one]; exact hb1)
        have hz1 : w.heap.size + 1 ≤ w1.heap.size := by have := hb1.size; simpa using this
        clear hb1
        go_wp2_with fail
        refine (HC2.out _).mono ?_
        rintro e w2 ⟨rfl, hb2⟩
        have HR2 : Hid (w2.rowIs w.heap.size 57 5 rul0) := World.rowIs.of_block (HR1.out.alloc _) (hb2.block _ (by simp; omega))
        have HB2 : Hid (Below w.heap.size w w2) := below_then (below_then HB1.out (below_one _)) hb2
        have hz2 : w.heap.size + 1 ≤ w2.heap.size := by have := hb2.size; simp at this; omega
        clear hb2
        go_wp2_with fail
        refine (HP.out _).mono ?_
        rintro e w3 ⟨rfl, hb3⟩
        have HR3 : Hid (w3.rowIs w.heap.size 57 5 rul0) := World.rowIs.of_block (HR2.out.alloc _) (hb3.block _ (by simp; omega))
        have HB3 : Hid (Below w.heap.size w w3) := below_then (below_then HB2.out (below_one _)) hb3
        obtain ⟨⟨c0, c1, c2, c3, c4⟩, f0, f1, f2, f3, f4⟩ := row5F HR3.out
        clear hb3
        go_wp2
        exact fin53 rfl (by rfl) HR3.out Tryz.underlying57 rfl sizeRulC HB3.out (Nat.le_refl _) (by rw [HV.out, HE.out]; rfl)
      · have HE : Hid (rh s i = (noRl, pa, pe)) := by
          show _ = _
          unfold rh
          rw [if_neg (not_not_intro h1), ← hkf, hj, ← HPE.out.2.1, ← HPE.out.2.2, if_pos hpe]
        have hpe' : (pe == 0) = false := beq_eq_false_iff_ne.2 hpe
        clear h1 hkf h2 hkf2 hj hb hpe
        go_enter Tryz.func104, Tryz.ntmps104
        go_wp2_with fail
        refine (HC.out _).mono ?_
        rintro e w1 ⟨rfl, hb1⟩
        simp only [size_one] at hb1
        have HR1 : Hid (w1.rowIs w.heap.size 57 5 rul0) := World.rowIs.of_block (row_new _ _ _ 5 rfl) (hb1.block _ (by omega))
        have HB1 : Hid (Below w.heap.size w w1) := below_then (below_one _) (by simp only [size_one]; exact hb1)
        have hz1 : w.heap.size + 1 ≤ w1.heap.size := by have := hb1.size; simpa using this
        clear hb1
        go_wp2_with fail
        refine (HC2.out _).mono ?_
        rintro e w2 ⟨rfl, hb2⟩
        have HR2 : Hid (w2.rowIs w.heap.size 57 5 rul0) := World.rowIs.of_block (HR1.out.alloc _) (hb2.block _ (by simp; omega))
        have HB2 : Hid (Below w.heap.size w w2) := below_then (below_then HB1.out (below_one _)) hb2
        have hz2 : w.heap.size + 1 ≤ w2.heap.size := by have := hb2.size; simp at this; omega
        clear hb2
        go_wp2_with fail
        refine (HP.out _).mono ?_
        rintro e w3 ⟨rfl, hb3⟩
        have HR3 : Hid (w3.rowIs w.heap.size 57 5 rul0) := World.rowIs.of_block (HR2.out.alloc _) (hb3.block _ (by simp; omega))
        have HB3 : Hid (Below w.heap.size w w3) := below_then (below_then HB2.out (below_one _)) hb3
        obtain ⟨⟨c0, c1, c2, c3, c4⟩, f0, f1, f2, f3, f4⟩ := row5F HR3.out
        clear hb3
        go_wp2
        exact fin53 rfl (by rfl) HR3.out Tryz.underlying57 rfl sizeRulC HB3.out (Nat.le_refl _) (by rw [HV.out, HE.out]; rfl)
    · have hk : kd2 ≠ 2 := fun h => h2 ((tkK_eq (by omega) (by omega)).1 (by rw [← HT2.out.1]; exact h))
      have hk' : ((kd2 : Int) == 2) = false := beq_eq_false_iff_ne.2 (by omega)
      have hj : rhJ s kf = kf := by unfold rhJ; rw [if_neg h2]
      have hb : rhB s kf = 0 := by unfold rhB; rw [if_neg h2]
      obtain ⟨pv, pa, pe, HP, HPE, p1⟩ := part_let s kf 6 hs b2 (by omega)
      by_cases hpe : pe = 0
      · have HE : Hid (rh s i = ({ noRl with reset := pv, before := 0 }, pa, 0)) := by
          show _ = _
          unfold rh
          rw [if_neg (not_not_intro h1), ← hkf, hj, hb, ← HPE.out.1, ← HPE.out.2.1, ← HPE.out.2.2, if_neg (not_not_intro hpe)]
          rfl
        subst hpe
        clear h1 hkf h2 hj hb hk
        go_enter Tryz.func104, Tryz.ntmps104
        go_wp2_with fail
        refine (HC.out _).mono ?_
        rintro e w1 ⟨rfl, hb1⟩
        simp only [size_one] at hb1
        have HR1 : Hid (w1.rowIs w.heap.size 57 5 rul0) := World.rowIs.of_block (row_new _ _ _ 5 rfl) (hb1.block _ (by omega))
        have HB1 : Hid (Below w.heap.size w w1) := below_then (below_one _) (by simp only [size_one]; exact hb1)
        have hz1 : w.heap.size + 1 ≤ w1.heap.size := by have := hb1.size; simpa using this
        clear hb1
        go_wp2_with fail
        refine (HC2.out _).mono ?_
        rintro e w2 ⟨rfl, hb2⟩
        have HR2 : Hid (w2.rowIs w.heap.size 57 5 rul0) := World.rowIs.of_block (HR1.out.alloc _) (hb2.block _ (by simp; omega))
        have HB2 : Hid (Below w.heap.size w w2) := below_then (below_then HB1.out (below_one _)) hb2
        have hz2 : w.heap.size + 1 ≤ w2.heap.size := by have := hb2.size; simp at this; omega
        clear hb2
        go_wp2_with fail
        refine (HP.out _).mono ?_
        rintro e w3 ⟨rfl, hb3⟩
        have HR3 : Hid (w3.rowIs w.heap.size 57 5 rul0) := World.rowIs.of_block (HR2.out.alloc _) (hb3.block _ (by simp; omega))
        have HB3 : Hid (Below w.heap.size w w3) := below_then (below_then HB2.out (below_one _)) hb3
        obtain ⟨⟨c0, c1, c2, c3, c4⟩, f0, f1, f2, f3, f4⟩ := row5F HR3.out
        clear hb3
        go_wp2
        exact fin53 rfl (by rfl) HR3.out Tryz.underlying57 rfl sizeRulC HB3.out (Nat.le_refl _) (by rw [HV.out, HE.out]; rfl)
      · have HE : Hid (rh s i = (noRl, pa, pe)) := by
          show _ = _
          unfold rh
          rw [if_neg (not_not_intro h1), ← hkf, hj, ← HPE.out.2.1, ← HPE.out.2.2, if_pos hpe]
        have hpe' : (pe == 0) = false := beq_eq_false_iff_ne.2 hpe
        clear h1 hkf h2 hj hb hpe hk
        go_enter Tryz.func104, Tryz.ntmps104
        go_wp2_with fail
        refine (HC.out _).mono ?_
        rintro e w1 ⟨rfl, hb1⟩
        simp only [size_one] at hb1
        have HR1 : Hid (w1.rowIs w.heap.size 57 5 rul0) := World.rowIs.of_block (row_new _ _ _ 5 rfl) (hb1.block _ (by omega))
        have HB1 : Hid (Below w.heap.size w w1) := below_then (below_one _) (by simp only [size_one]; exact hb1)
        have hz1 : w.heap.size + 1 ≤ w1.heap.size := by have := hb1.size; simpa using this
        clear hb1
        go_wp2_with fail
        refine (HC2.out _).mono ?_
        rintro e w2 ⟨rfl, hb2⟩
        have HR2 : Hid (w2.rowIs w.heap.size 57 5 rul0) := World.rowIs.of_block (HR1.out.alloc _) (hb2.block _ (by simp; omega))
        have HB2 : Hid (Below w.heap.size w w2) := below_then (below_then HB1.out (below_one _)) hb2
        have hz2 : w.heap.size + 1 ≤ w2.heap.size := by have := hb2.size; simp at this; omega
        clear hb2
        go_wp2_with fail
        refine (HP.out _).mono ?_
        rintro e w3 ⟨rfl, hb3⟩
        have HR3 : Hid (w3.rowIs w.heap.size 57 5 rul0) := World.rowIs.of_block (HR2.out.alloc _) (hb3.block _ (by simp; omega))
        have HB3 : Hid (Below w.heap.size w w3) := below_then (below_then HB2.out (below_one _)) hb3
        obtain ⟨⟨c0, c1, c2, c3, c4⟩, f0, f1, f2, f3, f4⟩ := row5F HR3.out
        clear hb3
        go_wp2
        exact fin53 rfl (by rfl) HR3.out Tryz.underlying57 rfl sizeRulC HB3.out (Nat.le_refl _) (by rw [HV.out, HE.out]; rfl)
  · have hk : kd ≠ 1 := fun h => h1 ((tkK_eq (by omega) (by omega)).1 (by rw [← HT.out.1]; exact h))
    have hk' : ((kd : Int) == 1) = false := beq_eq_false_iff_ne.2 (by omega)
    have HE : Hid (rh s i = (noRl, ka, 8)) := by
      show _ = _
      unfold rh
      rw [if_pos h1, HT.out.2.2.2.1]
    clear h1 hk
    go_enter Tryz.func104, Tryz.ntmps104
    go_wp2_with fail
    refine (HC.out _).mono ?_
    rintro e w1 ⟨rfl, hb1⟩
    simp only [size_one] at hb1
    have HR1 : Hid (w1.rowIs w.heap.size 57 5 rul0) := World.rowIs.of_block (row_new _ _ _ 5 rfl) (hb1.block _ (by omega))
    have HB1 : Hid (Below w.heap.size w w1) := below_then (below_one _) (by simp only [size_one]; exact hb1)
    have hz1 : w.heap.size + 1 ≤ w1.heap.size := by have := hb1.size; simpa using this
    clear hb1
    have HR2 : Hid ((w1.alloc (.cells #[.int .i64 (kd : Nat), .int .i64 (kn : Nat), .string tx, .int .i64 (ka : Nat), .int .i64 (kf : Nat)] 160)).rowIs w.heap.size 57 5 rul0) := HR1.out.alloc _
    have HB2 : Hid (Below w.heap.size w (w1.alloc (.cells #[.int .i64 (kd : Nat), .int .i64 (kn : Nat), .string tx, .int .i64 (ka : Nat), .int .i64 (kf : Nat)] 160))) := below_then HB1.out (below_one _)
    obtain ⟨⟨c0, c1, c2, c3, c4⟩, f0, f1, f2, f3, f4⟩ := row5F HR2.out
    go_wp2
    go_region
    go_wp2
    exact fin53d rfl (by rfl) HR2.out Tryz.underlying57 rfl sizeRulC HB2.out (Nat.le_refl _) (by rw [HV.out, HE.out]; rfl)

set_option maxRecDepth 100000 in
set_option maxHeartbeats 2000000 in
theorem readRelation_any (s : ByteArray) (i : Nat) (w : World) (hs : s.size ≤ 1000) (hi : i ≤ s.size) :
    Calls Tryz.prog 106 #[.string s, .int .i64 (i : Nat)] w fun e w' => e = .returned (.tuple #[(rr s i).1.v, .int .i64 ((rr s i).2.1 : Nat), .int .i64 (rr s i).2.2]) ∧ Below w.heap.size w w' := by
  obtain ⟨v, hv⟩ : ∃ v, v = Value.tuple #[(rr s i).1.v, .int .i64 ((rr s i).2.1 : Nat), .int .i64 (rr s i).2.2] := ⟨_, rfl⟩
  have HV : Hid (v = Value.tuple #[(rr s i).1.v, .int .i64 ((rr s i).2.1 : Nat), .int .i64 (rr s i).2.2]) := hv
  rw [← hv]
  clear hv
  obtain ⟨kd, kn, tx, ka, kf, HC, HT, b1, b2, b3, b4⟩ := tok_let s i hs hi
  by_cases h1 : (tk s i).kind = 3
  · have hk : kd = 3 := by rw [HT.out.1]; exact (tkK_eq (by omega) (by omega)).2 h1
    have hkf : kf = (tk s i).fin := by rw [HT.out.2.2.2.2]; exact tkF_eq (by omega)
    have hkn := HT.out.2.1
    subst hk
    obtain ⟨pv, pa, pe, HP, HPE, p1⟩ := part_let s kf 3 hs b2 (by omega)
    by_cases hpe : pe = 0
    · have hrr : rr s i = rr2 s kn pv pa := by
        unfold rr
        rw [if_neg (not_not_intro h1), ← hkf, ← HPE.out.1, ← HPE.out.2.1, ← HPE.out.2.2, if_neg (not_not_intro hpe), ← hkn]
      obtain ⟨kd2, kn2, tx2, ka2, kf2, HC2, HT2, e1, e2, e3, e4⟩ := tok_let s pa hs p1
      subst hpe
      by_cases h2 : (tk s pa).kind = 4
      · have hk : kd2 = 4 := by rw [HT2.out.1]; exact (tkK_eq (by omega) (by omega)).2 h2
        have hkf2 : kf2 = (tk s pa).fin := by rw [HT2.out.2.2.2.2]; exact tkF_eq (by omega)
        subst hk
        obtain ⟨pv2, pa2, pe2, HP2, HPE2, p2⟩ := part_let s kf2 6 hs e2 (by omega)
        by_cases hpe2 : pe2 = 0
        · have HE : Hid (rr s i = ({ noRl with level := (kn : Nat), text := pv, more := pv2 }, pa2, 0)) := by
            show _ = _
            rw [hrr]
            unfold rr2
            rw [if_neg (not_not_intro h2), ← hkf2, ← HPE2.out.1, ← HPE2.out.2.1, ← HPE2.out.2.2, if_neg (not_not_intro hpe2)]
          subst hpe2
          clear h1 hkf h2 hkf2 hkn hrr
          go_enter Tryz.func106, Tryz.ntmps106
          go_wp2_with fail
          refine (HC.out _).mono ?_
          rintro e w1 ⟨rfl, hb1⟩
          simp only [size_one] at hb1
          have HR1 : Hid (w1.rowIs w.heap.size 57 5 rul0) := World.rowIs.of_block (row_new _ _ _ 5 rfl) (hb1.block _ (by omega))
          have HB1 : Hid (Below w.heap.size w w1) := below_then (below_one _) (by simp only [size_one]; exact hb1)
          have hz1 : w.heap.size + 1 ≤ w1.heap.size := by have := hb1.size; simpa using this
          clear hb1
          have HS1 : Hid ((w1.alloc (.cells #[.int .i64 (3 : Nat), .int .i64 (kn : Nat), .string tx, .int .i64 (ka : Nat), .int .i64 (kf : Nat)] 160)).rowIs w1.heap.size 160 5 (fun i => #[Value.int .i64 (3 : Nat), .int .i64 (kn : Nat), .string tx, .int .i64 (ka : Nat), .int .i64 (kf : Nat)].getD i undef)) := row_new _ _ _ 5 rfl
          go_wp2_with fail
          refine (HP.out _).mono ?_
          rintro e w2 ⟨rfl, hb2⟩
          have HR2 : Hid (w2.rowIs w.heap.size 57 5 rul0) := World.rowIs.of_block (HR1.out.alloc _) (hb2.block _ (by simp; omega))
          have HB2 : Hid (Below w.heap.size w w2) := below_then (below_then HB1.out (below_one _)) hb2
          have HS2 : Hid (w2.rowIs w1.heap.size 160 5 (fun i => #[Value.int .i64 (3 : Nat), .int .i64 (kn : Nat), .string tx, .int .i64 (ka : Nat), .int .i64 (kf : Nat)].getD i undef)) := World.rowIs.of_block HS1.out (hb2.block _ (by simp))
          have hz2 : w1.heap.size + 1 ≤ w2.heap.size := by have := hb2.size; simp at this; omega
          clear hb2
          go_wp2_with fail
          refine (HC2.out _).mono ?_
          rintro e w3 ⟨rfl, hb3⟩
          have HR3 : Hid (w3.rowIs w.heap.size 57 5 rul0) := World.rowIs.of_block HR2.out (hb3.block _ (by omega))
          have HB3 : Hid (Below w.heap.size w w3) := below_then HB2.out hb3
          have HS3 : Hid (w3.rowIs w1.heap.size 160 5 (fun i => #[Value.int .i64 (3 : Nat), .int .i64 (kn : Nat), .string tx, .int .i64 (ka : Nat), .int .i64 (kf : Nat)].getD i undef)) := World.rowIs.of_block HS2.out (hb3.block _ (by omega))
          have hz3 : w1.heap.size + 1 ≤ w3.heap.size := by have := hb3.size; omega
          clear hb3
          go_wp2_with fail
          refine (HP2.out _).mono ?_
          rintro e w4 ⟨rfl, hb4⟩
          have HR4 : Hid (w4.rowIs w.heap.size 57 5 rul0) := World.rowIs.of_block (HR3.out.alloc _) (hb4.block _ (by simp; omega))
          have HB4 : Hid (Below w.heap.size w w4) := below_then (below_then HB3.out (below_one _)) hb4
          have c1s : w4.cell? ⟨w1.heap.size, 1, none⟩ = some (.int .i64 (kn : Nat)) := (World.rowIs.of_block (HS3.out.alloc _) (hb4.block _ (by simp; omega))).cell (i := 1) (by omega)
          obtain ⟨⟨c0, c1, c2, c3, c4⟩, f0, f1, f2, f3, f4⟩ := row5F HR4.out
          clear hb4
          go_wp2
          exact fin53 rfl (by rfl) HR4.out Tryz.underlying57 rfl sizeRulC HB4.out (Nat.le_refl _) (by rw [HV.out, HE.out]; rfl)
        · have HE : Hid (rr s i = (noRl, pa2, pe2)) := by
            show _ = _
            rw [hrr]
            unfold rr2
            rw [if_neg (not_not_intro h2), ← hkf2, ← HPE2.out.2.1, ← HPE2.out.2.2, if_pos hpe2]
          have hpe' : (pe2 == 0) = false := beq_eq_false_iff_ne.2 hpe2
          clear h1 hkf h2 hkf2 hkn hrr hpe2
          go_enter Tryz.func106, Tryz.ntmps106
          go_wp2_with fail
          refine (HC.out _).mono ?_
          rintro e w1 ⟨rfl, hb1⟩
          simp only [size_one] at hb1
          have HR1 : Hid (w1.rowIs w.heap.size 57 5 rul0) := World.rowIs.of_block (row_new _ _ _ 5 rfl) (hb1.block _ (by omega))
          have HB1 : Hid (Below w.heap.size w w1) := below_then (below_one _) (by simp only [size_one]; exact hb1)
          have hz1 : w.heap.size + 1 ≤ w1.heap.size := by have := hb1.size; simpa using this
          clear hb1
          have HS1 : Hid ((w1.alloc (.cells #[.int .i64 (3 : Nat), .int .i64 (kn : Nat), .string tx, .int .i64 (ka : Nat), .int .i64 (kf : Nat)] 160)).rowIs w1.heap.size 160 5 (fun i => #[Value.int .i64 (3 : Nat), .int .i64 (kn : Nat), .string tx, .int .i64 (ka : Nat), .int .i64 (kf : Nat)].getD i undef)) := row_new _ _ _ 5 rfl
          go_wp2_with fail
          refine (HP.out _).mono ?_
          rintro e w2 ⟨rfl, hb2⟩
          have HR2 : Hid (w2.rowIs w.heap.size 57 5 rul0) := World.rowIs.of_block (HR1.out.alloc _) (hb2.block _ (by simp; omega))
          have HB2 : Hid (Below w.heap.size w w2) := below_then (below_then HB1.out (below_one _)) hb2
          have HS2 : Hid (w2.rowIs w1.heap.size 160 5 (fun i => #[Value.int .i64 (3 : Nat), .int .i64 (kn : Nat), .string tx, .int .i64 (ka : Nat), .int .i64 (kf : Nat)].getD i undef)) := World.rowIs.of_block HS1.out (hb2.block _ (by simp))
          have hz2 : w1.heap.size + 1 ≤ w2.heap.size := by have := hb2.size; simp at this; omega
          clear hb2
          go_wp2_with fail
          refine (HC2.out _).mono ?_
          rintro e w3 ⟨rfl, hb3⟩
          have HR3 : Hid (w3.rowIs w.heap.size 57 5 rul0) := World.rowIs.of_block HR2.out (hb3.block _ (by omega))
          have HB3 : Hid (Below w.heap.size w w3) := below_then HB2.out hb3
          have HS3 : Hid (w3.rowIs w1.heap.size 160 5 (fun i => #[Value.int .i64 (3 : Nat), .int .i64 (kn : Nat), .string tx, .int .i64 (ka : Nat), .int .i64 (kf : Nat)].getD i undef)) := World.rowIs.of_block HS2.out (hb3.block _ (by omega))
          have hz3 : w1.heap.size + 1 ≤ w3.heap.size := by have := hb3.size; omega
          clear hb3
          go_wp2_with fail
          refine (HP2.out _).mono ?_
          rintro e w4 ⟨rfl, hb4⟩
          have HR4 : Hid (w4.rowIs w.heap.size 57 5 rul0) := World.rowIs.of_block (HR3.out.alloc _) (hb4.block _ (by simp; omega))
          have HB4 : Hid (Below w.heap.size w w4) := below_then (below_then HB3.out (below_one _)) hb4
          have c1s : w4.cell? ⟨w1.heap.size, 1, none⟩ = some (.int .i64 (kn : Nat)) := (World.rowIs.of_block (HS3.out.alloc _) (hb4.block _ (by simp; omega))).cell (i := 1) (by omega)
          obtain ⟨⟨c0, c1, c2, c3, c4⟩, f0, f1, f2, f3, f4⟩ := row5F HR4.out
          clear hb4
          go_wp2
          exact fin53 rfl (by rfl) HR4.out Tryz.underlying57 rfl sizeRulC HB4.out (Nat.le_refl _) (by rw [HV.out, HE.out]; rfl)
      · have hk : kd2 ≠ 4 := fun h => h2 ((tkK_eq (by omega) (by omega)).1 (by rw [← HT2.out.1]; exact h))
        have hk' : ((kd2 : Int) == 4) = false := beq_eq_false_iff_ne.2 (by omega)
        have HE : Hid (rr s i = ({ noRl with level := (kn : Nat), text := pv }, pa, 0)) := by
          show _ = _
          rw [hrr]
          unfold rr2
          rw [if_pos h2]
        clear h1 hkf h2 hkn hrr hk
        go_enter Tryz.func106, Tryz.ntmps106
        go_wp2_with fail
        refine (HC.out _).mono ?_
        rintro e w1 ⟨rfl, hb1⟩
        simp only [size_one] at hb1
        have HR1 : Hid (w1.rowIs w.heap.size 57 5 rul0) := World.rowIs.of_block (row_new _ _ _ 5 rfl) (hb1.block _ (by omega))
        have HB1 : Hid (Below w.heap.size w w1) := below_then (below_one _) (by simp only [size_one]; exact hb1)
        have hz1 : w.heap.size + 1 ≤ w1.heap.size := by have := hb1.size; simpa using this
        clear hb1
        have HS1 : Hid ((w1.alloc (.cells #[.int .i64 (3 : Nat), .int .i64 (kn : Nat), .string tx, .int .i64 (ka : Nat), .int .i64 (kf : Nat)] 160)).rowIs w1.heap.size 160 5 (fun i => #[Value.int .i64 (3 : Nat), .int .i64 (kn : Nat), .string tx, .int .i64 (ka : Nat), .int .i64 (kf : Nat)].getD i undef)) := row_new _ _ _ 5 rfl
        go_wp2_with fail
        refine (HP.out _).mono ?_
        rintro e w2 ⟨rfl, hb2⟩
        have HR2 : Hid (w2.rowIs w.heap.size 57 5 rul0) := World.rowIs.of_block (HR1.out.alloc _) (hb2.block _ (by simp; omega))
        have HB2 : Hid (Below w.heap.size w w2) := below_then (below_then HB1.out (below_one _)) hb2
        have HS2 : Hid (w2.rowIs w1.heap.size 160 5 (fun i => #[Value.int .i64 (3 : Nat), .int .i64 (kn : Nat), .string tx, .int .i64 (ka : Nat), .int .i64 (kf : Nat)].getD i undef)) := World.rowIs.of_block HS1.out (hb2.block _ (by simp))
        have hz2 : w1.heap.size + 1 ≤ w2.heap.size := by have := hb2.size; simp at this; omega
        clear hb2
        go_wp2_with fail
        refine (HC2.out _).mono ?_
        rintro e w3 ⟨rfl, hb3⟩
        have HR3 : Hid (w3.rowIs w.heap.size 57 5 rul0) := World.rowIs.of_block HR2.out (hb3.block _ (by omega))
        have HB3 : Hid (Below w.heap.size w w3) := below_then HB2.out hb3
        have HS3 : Hid (w3.rowIs w1.heap.size 160 5 (fun i => #[Value.int .i64 (3 : Nat), .int .i64 (kn : Nat), .string tx, .int .i64 (ka : Nat), .int .i64 (kf : Nat)].getD i undef)) := World.rowIs.of_block HS2.out (hb3.block _ (by omega))
        have hz3 : w1.heap.size + 1 ≤ w3.heap.size := by have := hb3.size; omega
        clear hb3
        have HR4 : Hid ((w3.alloc (.cells #[.int .i64 (kd2 : Nat), .int .i64 (kn2 : Nat), .string tx2, .int .i64 (ka2 : Nat), .int .i64 (kf2 : Nat)] 160)).rowIs w.heap.size 57 5 rul0) := HR3.out.alloc _
        have HB4 : Hid (Below w.heap.size w (w3.alloc (.cells #[.int .i64 (kd2 : Nat), .int .i64 (kn2 : Nat), .string tx2, .int .i64 (ka2 : Nat), .int .i64 (kf2 : Nat)] 160))) := below_then HB3.out (below_one _)
        have c1s : (w3.alloc (.cells #[.int .i64 (kd2 : Nat), .int .i64 (kn2 : Nat), .string tx2, .int .i64 (ka2 : Nat), .int .i64 (kf2 : Nat)] 160)).cell? ⟨w1.heap.size, 1, none⟩ = some (.int .i64 (kn : Nat)) := (HS3.out.alloc _).cell (i := 1) (by omega)
        obtain ⟨⟨c0, c1, c2, c3, c4⟩, f0, f1, f2, f3, f4⟩ := row5F HR4.out
        go_wp2
        exact fin53 rfl (by rfl) HR4.out Tryz.underlying57 rfl sizeRulC HB4.out (Nat.le_refl _) (by rw [HV.out, HE.out]; rfl)
    · have HE : Hid (rr s i = (noRl, pa, pe)) := by
        show _ = _
        unfold rr
        rw [if_neg (not_not_intro h1), ← hkf, ← HPE.out.2.1, ← HPE.out.2.2, if_pos hpe]
      have hpe' : (pe == 0) = false := beq_eq_false_iff_ne.2 hpe
      clear h1 hkf hkn hpe
      go_enter Tryz.func106, Tryz.ntmps106
      go_wp2_with fail
      refine (HC.out _).mono ?_
      rintro e w1 ⟨rfl, hb1⟩
      simp only [size_one] at hb1
      have HR1 : Hid (w1.rowIs w.heap.size 57 5 rul0) := World.rowIs.of_block (row_new _ _ _ 5 rfl) (hb1.block _ (by omega))
      have HB1 : Hid (Below w.heap.size w w1) := below_then (below_one _) (by simp only [size_one]; exact hb1)
      have hz1 : w.heap.size + 1 ≤ w1.heap.size := by have := hb1.size; simpa using this
      clear hb1
      have HS1 : Hid ((w1.alloc (.cells #[.int .i64 (3 : Nat), .int .i64 (kn : Nat), .string tx, .int .i64 (ka : Nat), .int .i64 (kf : Nat)] 160)).rowIs w1.heap.size 160 5 (fun i => #[Value.int .i64 (3 : Nat), .int .i64 (kn : Nat), .string tx, .int .i64 (ka : Nat), .int .i64 (kf : Nat)].getD i undef)) := row_new _ _ _ 5 rfl
      go_wp2_with fail
      refine (HP.out _).mono ?_
      rintro e w2 ⟨rfl, hb2⟩
      have HR2 : Hid (w2.rowIs w.heap.size 57 5 rul0) := World.rowIs.of_block (HR1.out.alloc _) (hb2.block _ (by simp; omega))
      have HB2 : Hid (Below w.heap.size w w2) := below_then (below_then HB1.out (below_one _)) hb2
      have HS2 : Hid (w2.rowIs w1.heap.size 160 5 (fun i => #[Value.int .i64 (3 : Nat), .int .i64 (kn : Nat), .string tx, .int .i64 (ka : Nat), .int .i64 (kf : Nat)].getD i undef)) := World.rowIs.of_block HS1.out (hb2.block _ (by simp))
      have hz2 : w1.heap.size + 1 ≤ w2.heap.size := by have := hb2.size; simp at this; omega
      clear hb2
      obtain ⟨⟨c0, c1, c2, c3, c4⟩, f0, f1, f2, f3, f4⟩ := row5F HR2.out
      go_wp2
      exact fin53 rfl (by rfl) HR2.out Tryz.underlying57 rfl sizeRulC HB2.out (Nat.le_refl _) (by rw [HV.out, HE.out]; rfl)
  · have hk : kd ≠ 3 := fun h => h1 ((tkK_eq (by omega) (by omega)).1 (by rw [← HT.out.1]; exact h))
    have hk' : ((kd : Int) == 3) = false := beq_eq_false_iff_ne.2 (by omega)
    have HE : Hid (rr s i = (noRl, ka, 8)) := by
      show _ = _
      unfold rr
      rw [if_pos h1, HT.out.2.2.2.1]
    clear h1 hk
    go_enter Tryz.func106, Tryz.ntmps106
    go_wp2_with fail
    refine (HC.out _).mono ?_
    rintro e w1 ⟨rfl, hb1⟩
    simp only [size_one] at hb1
    have HR1 : Hid (w1.rowIs w.heap.size 57 5 rul0) := World.rowIs.of_block (row_new _ _ _ 5 rfl) (hb1.block _ (by omega))
    have HB1 : Hid (Below w.heap.size w w1) := below_then (below_one _) (by simp only [size_one]; exact hb1)
    have hz1 : w.heap.size + 1 ≤ w1.heap.size := by have := hb1.size; simpa using this
    clear hb1
    have HR2 : Hid ((w1.alloc (.cells #[.int .i64 (kd : Nat), .int .i64 (kn : Nat), .string tx, .int .i64 (ka : Nat), .int .i64 (kf : Nat)] 160)).rowIs w.heap.size 57 5 rul0) := HR1.out.alloc _
    have HB2 : Hid (Below w.heap.size w (w1.alloc (.cells #[.int .i64 (kd : Nat), .int .i64 (kn : Nat), .string tx, .int .i64 (ka : Nat), .int .i64 (kf : Nat)] 160))) := below_then HB1.out (below_one _)
    obtain ⟨⟨c0, c1, c2, c3, c4⟩, f0, f1, f2, f3, f4⟩ := row5F HR2.out
    go_wp2
    go_region
    go_wp2
    exact fin53d rfl (by rfl) HR2.out Tryz.underlying57 rfl sizeRulC HB2.out (Nat.le_refl _) (by rw [HV.out, HE.out]; rfl)

end Go.Proofs.YtpclldccjpncdabGreat
