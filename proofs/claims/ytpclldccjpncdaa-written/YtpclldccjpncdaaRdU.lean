import Derived.Test.YtpclldccjpncdaaRdT
namespace Go.Proofs.Ytpclldccjpncdaa
open Go.RowKit

set_option maxRecDepth 100000 in
set_option maxHeartbeats 2000000 in
theorem partAt_any (s : ByteArray) (a : Nat) (w : World) (hs : s.size ≤ 1000) (ha : a < s.size) :
    Calls Try.prog 78 #[.string s, .int .i64 (a : Nat)] w fun e w' => e = .returned (.agg #[.int .i64 ((if (part s a).2 = a then 0 else 5 : Nat) : Int), .int .i64 0, .string (if (part s a).2 = a then { data := #[] } else strOfNums (part s a).1), .int .i64 (a : Nat), .int .i64 ((if (part s a).2 = a then 0 else (part s a).2 : Nat) : Int)]) ∧ Below w.heap.size w w' := by
  obtain ⟨t0, ht0, hq0, hq1, hq2⟩ := info_parts infoByteC
  obtain ⟨kd, hkd⟩ : ∃ x, x = (if (part s a).2 = a then 0 else 5 : Nat) := ⟨_, rfl⟩
  obtain ⟨tx, htx⟩ : ∃ x, x = (if (part s a).2 = a then ({ data := #[] } : ByteArray) else strOfNums (part s a).1) := ⟨_, rfl⟩
  obtain ⟨kf, hkf⟩ : ∃ x, x = (if (part s a).2 = a then 0 else (part s a).2 : Nat) := ⟨_, rfl⟩
  have HKD : Hid (kd = (if (part s a).2 = a then 0 else 5 : Nat) ∧ tx = (if (part s a).2 = a then ({ data := #[] } : ByteArray) else strOfNums (part s a).1) ∧ kf = (if (part s a).2 = a then 0 else (part s a).2 : Nat)) := ⟨hkd, htx, hkf⟩
  rw [← hkd, ← htx, ← hkf]
  clear hkd htx hkf
  obtain ⟨W, hW⟩ : ∃ W, W = w.alloc (.cells #[.int .i64 0, .int .i64 0, .string ByteArray.empty, .int .i64 0, .int .i64 0] 110) := ⟨_, rfl⟩
  have HW : Hid (W = w.alloc (.cells #[.int .i64 0, .int .i64 0, .string ByteArray.empty, .int .i64 0, .int .i64 0] 110)) := hW
  have HWS : Hid (W.heap.size = w.heap.size + 1) := by show _ = _; rw [hW]; simp
  have HR : Hid (W.rowIs w.heap.size 110 5 tok0) := by show World.rowIs _ _ _ _ _; rw [hW]; exact row_new _ _ _ 5 rfl
  have HB : Hid (Below w.heap.size w W) := by show Below _ _ _; rw [hW]; exact below_one _
  clear hW
  go_enter Try.func78, Try.ntmps78
  go_wp2
  go_loopw [6, 5] (fun iv v wr => ∃ (i : Nat) (us : List Int), Hid (part s a = (us ++ (part s i).1, (part s i).2)) ∧ i ≤ s.size ∧ us.length ≤ i ∧ iv = .int .i64 (i : Nat) ∧ Below W.heap.size W wr ∧ wr.ownsRow (w.heap.size + 1) 5 1 v us.length (us.map (Value.int .u8))) (fun iv _ _ => s.size - (intOf iv).toNat)
  case atStart => exact ⟨a, [], rfl, Nat.le_of_lt ha, by simp, rfl, by rw [HW.out]; exact Below.refl _ _, World.ownsRow_nil _ _ _ _⟩
  case round =>
    obtain ⟨i, us, HUS, hi, hul, rfl, hbel, hown⟩ := hrel
    obtain ⟨vo9, vc9, hv9, hcv⟩ := convC hown
    subst hv9
    have HOW : Hid (wr.ownsRow (w.heap.size + 1) 5 1 _ us.length (us.map (Value.int .u8))) := hown
    clear hown
    have hsz := hbel.size
    have hszw : w.heap.size + 1 ≤ wr.heap.size := by rw [← HWS.out]; exact hsz
    have HRr : Hid (wr.rowIs w.heap.size 110 5 tok0) := HR.out.of_block (hbel.block _ (by rw [HWS.out]; omega))
    have HBr : Hid (Below w.heap.size w wr) := below_then HB.out hbel
    obtain ⟨⟨c0, c1, c2, c3, c4⟩, f0, f1, f2, f3, f4⟩ := row5F HRr.out
    by_cases hlt : i < s.size
    · have hxb := bt_le s i
      have hbi := bt_in hlt
      obtain ⟨x, hx⟩ : ∃ x, x = bt s i := ⟨_, rfl⟩
      have hxs : ((s[i]'hlt).toNat : Int) = x := by rw [hx, hbi]
      have HX : Hid (x = bt s i) := hx
      rw [← hx] at hxb
      clear hbi hx
      by_cases hsp : sp x = true
      · by_cases h92 : x = 92 ∧ i + 1 < s.size
        · obtain ⟨rfl, h1⟩ := h92
          have hyb := bt_le s (i + 1)
          have hbi := bt_in h1
          obtain ⟨y, hy⟩ : ∃ y, y = bt s (i + 1) := ⟨_, rfl⟩
          have hys : ((s[i + 1]'h1).toNat : Int) = y := by rw [hy, hbi]
          have HUN : Hid (part s a = ((us ++ [(y : Int)]) ++ (part s (i + 2)).1, (part s (i + 2)).2)) := by
            show _ = _
            have hp : pch s i = some ((y : Int), i + 2) := by
              unfold pch
              rw [if_pos hlt, ← HX.out, if_neg (by decide), if_pos ⟨rfl, h1⟩, ← hy]
            rw [HUS.out, part_some hp]
            simp
          rw [← hy] at hyb
          have q1 : ((i : Int) + 1).toNat = i + 1 := by omega
          have q2 : (i : Int) + 1 < (s.size : Int) := by omega
          have q3 : (0 : Int) ≤ (i : Int) + 1 := by omega
          clear hbi hy c0 c1 c2 c3 c4 f0 f1 f2 f3 f4 hcv
          go_wp2_with (first
            | (at_builtin; refine wpList_append_lies _ (by rfl) (.tmp 29) (.tmp 33) 50 (by rfl) (w.heap.size + 1) 5 t0 (.int .u8 0) 1 1 Try.underlying50 ht0 hq0 hq1 hq2 rfl (by omega) _ us.length _ (by rfl) (HOW.out.alloc _) ⟨wr.heap.size, 0, none⟩ 1 1 [.int .u8 y] (by rfl) (by rfl) ?d1 ?d2 (by omega) ?d3 ?d5 ?d4 (wr.heap.size + 1) (by simp) ?_))
          case d1 => exact cell_one_new _ _ _
          case d2 => intro u hu; simp at hu; subst hu; rfl
          case d3 => unfold maxLen; omega
          case d5 => omega
          case d4 => simp; omega
          · intro g3 cap3 w3 hown3 hgrow3 _ _
            have HB3 : Hid (Below W.heap.size W w3) := ownC_grown_below (hbel.alloc hsz _) (by rw [HWS.out]; simp; omega) (HOW.out.alloc _) (by rw [HWS.out]; exact Nat.le_refl _) hgrow3
            have HO3 : Hid (w3.ownsRow (w.heap.size + 1) 5 1 (.slice (some ⟨g3, 0, none⟩) (us.length + 1) cap3) (us ++ [(y : Int)]).length ((us ++ [(y : Int)]).map (Value.int .u8))) := by
              show _
              rw [List.length_append, List.map_append]
              exact hown3
            clear hown3 hgrow3
            go_wp2
            go_roundw
            case rel => exact ⟨i + 2, us ++ [(y : Int)], HUN.out, by omega, by simp; omega, by go_num, HB3.out, HO3.out⟩
            case measure => simp [intOf]; omega
        · have HUN : Hid (part s a = (us, i)) := by
            show _ = _
            have hp : pch s i = none := by
              unfold pch
              rw [if_pos hlt, ← HX.out, if_neg (by simp [hsp]), if_neg h92]
            rw [HUS.out, part_none hp]
            simp
          by_cases hx92 : x = 92
          · have h1 : ¬ i + 1 < s.size := fun h => h92 ⟨hx92, h⟩
            subst hx92
            have q2 : (s.size : Int) ≤ (i : Int) + 1 := by omega
            clear h92
            by_cases hu0 : us = []
            · have HV : Hid (kd = 0 ∧ tx = { data := #[] } ∧ kf = 0) := by
                show _ ∧ _
                have h2 : (part s a).2 = a := (part_nil (Nat.le_of_lt ha)).1 (by rw [HUN.out]; exact hu0)
                rw [HKD.out.1, HKD.out.2.1, HKD.out.2.2, if_pos h2, if_pos h2, if_pos h2]
                exact ⟨rfl, rfl, rfl⟩
              have hul0 : us.length = 0 := by rw [hu0]; rfl
              clear hu0
              go_wp2_with fail
              refine (needsBackslash_any 92 _).mono ?_
              rintro e w1 ⟨rfl, hw1⟩
              obtain rfl := hw1.symm
              rw [show sp 92 = true from rfl]
              go_wp2
              exact fin5 rfl (by rfl) HRr.out Try.underlying110 rfl sizeTokC HBr.out (Nat.le_refl _) (by rw [HV.out.1, HV.out.2.1, HV.out.2.2] <;> rfl)
            · have HV : Hid (kd = 5 ∧ tx = strOfNums us ∧ kf = i) := by
                show _ ∧ _
                have h2 : ¬ (part s a).2 = a := fun h => hu0 (by have := (part_nil (Nat.le_of_lt ha)).2 h; rw [HUN.out] at this; exact this)
                rw [HKD.out.1, HKD.out.2.1, HKD.out.2.2, if_neg h2, if_neg h2, if_neg h2, HUN.out]
                exact ⟨rfl, rfl, rfl⟩
              have hul0 : ((us.length : Int) == 0) = false := beq_eq_false_iff_ne.2 (fun h => hu0 (List.eq_nil_of_length_eq_zero (by omega)))
              clear hu0
              go_wp2_with fail
              refine (needsBackslash_any 92 _).mono ?_
              rintro e w1 ⟨rfl, hw1⟩
              obtain rfl := hw1.symm
              rw [show sp 92 = true from rfl]
              go_wp2
              exact fin5 rfl (by rfl) HRr.out Try.underlying110 rfl sizeTokC HBr.out (Nat.le_refl _) (by rw [HV.out.1, HV.out.2.1, HV.out.2.2] <;> rfl)
          · have hx' : ((x : Int) == 92) = false := beq_eq_false_iff_ne.2 (by omega)
            clear h92 hx92
            by_cases hu0 : us = []
            · have HV : Hid (kd = 0 ∧ tx = { data := #[] } ∧ kf = 0) := by
                show _ ∧ _
                have h2 : (part s a).2 = a := (part_nil (Nat.le_of_lt ha)).1 (by rw [HUN.out]; exact hu0)
                rw [HKD.out.1, HKD.out.2.1, HKD.out.2.2, if_pos h2, if_pos h2, if_pos h2]
                exact ⟨rfl, rfl, rfl⟩
              have hul0 : us.length = 0 := by rw [hu0]; rfl
              clear hu0
              go_wp2_with fail
              refine (needsBackslash_any x _).mono ?_
              rintro e w1 ⟨rfl, hw1⟩
              obtain rfl := hw1.symm
              rw [hsp]
              go_wp2
              exact fin5 rfl (by rfl) HRr.out Try.underlying110 rfl sizeTokC HBr.out (Nat.le_refl _) (by rw [HV.out.1, HV.out.2.1, HV.out.2.2] <;> rfl)
            · have HV : Hid (kd = 5 ∧ tx = strOfNums us ∧ kf = i) := by
                show _ ∧ _
                have h2 : ¬ (part s a).2 = a := fun h => hu0 (by have := (part_nil (Nat.le_of_lt ha)).2 h; rw [HUN.out] at this; exact this)
                rw [HKD.out.1, HKD.out.2.1, HKD.out.2.2, if_neg h2, if_neg h2, if_neg h2, HUN.out]
                exact ⟨rfl, rfl, rfl⟩
              have hul0 : ((us.length : Int) == 0) = false := beq_eq_false_iff_ne.2 (fun h => hu0 (List.eq_nil_of_length_eq_zero (by omega)))
              clear hu0
              go_wp2_with fail
              refine (needsBackslash_any x _).mono ?_
              rintro e w1 ⟨rfl, hw1⟩
              obtain rfl := hw1.symm
              rw [hsp]
              go_wp2
              exact fin5 rfl (by rfl) HRr.out Try.underlying110 rfl sizeTokC HBr.out (Nat.le_refl _) (by rw [HV.out.1, HV.out.2.1, HV.out.2.2] <;> rfl)
      · have hsp' : sp x = false := by simpa using hsp
        have HUN : Hid (part s a = ((us ++ [(x : Int)]) ++ (part s (i + 1)).1, (part s (i + 1)).2)) := by
          show _ = _
          have hp : pch s i = some ((x : Int), i + 1) := by
            unfold pch
            rw [if_pos hlt, ← HX.out, if_pos hsp']
          rw [HUS.out, part_some hp]
          simp
        have hn92 : x ≠ 92 := fun h => hsp (by rw [h]; rfl)
        have hx' : ((x : Int) == 92) = false := beq_eq_false_iff_ne.2 (by omega)
        clear hsp hn92 c0 c1 c2 c3 c4 f0 f1 f2 f3 f4 hcv
        go_wp2_with fail
        refine (needsBackslash_any x _).mono ?_
        rintro e w1 ⟨rfl, hw1⟩
        obtain rfl := hw1.symm
        rw [hsp']
        go_wp2_with (first
          | (at_builtin; refine wpList_append_lies _ (by rfl) (.tmp 29) (.tmp 33) 50 (by rfl) (w.heap.size + 1) 5 t0 (.int .u8 0) 1 1 Try.underlying50 ht0 hq0 hq1 hq2 rfl (by omega) _ us.length _ (by rfl) (HOW.out.alloc _) ⟨wr.heap.size, 0, none⟩ 1 1 [.int .u8 x] (by rfl) (by rfl) ?d1 ?d2 (by omega) ?d3 ?d5 ?d4 (wr.heap.size + 1) (by simp) ?_))
        case d1 => exact cell_one_new _ _ _
        case d2 => intro u hu; simp at hu; subst hu; rfl
        case d3 => unfold maxLen; omega
        case d5 => omega
        case d4 => simp; omega
        · intro g3 cap3 w3 hown3 hgrow3 _ _
          have HB3 : Hid (Below W.heap.size W w3) := ownC_grown_below (hbel.alloc hsz _) (by rw [HWS.out]; simp; omega) (HOW.out.alloc _) (by rw [HWS.out]; exact Nat.le_refl _) hgrow3
          have HO3 : Hid (w3.ownsRow (w.heap.size + 1) 5 1 (.slice (some ⟨g3, 0, none⟩) (us.length + 1) cap3) (us ++ [(x : Int)]).length ((us ++ [(x : Int)]).map (Value.int .u8))) := by
            show _
            rw [List.length_append, List.map_append]
            exact hown3
          clear hown3 hgrow3
          go_wp2
          go_roundw
          case rel => exact ⟨i + 1, us ++ [(x : Int)], HUN.out, by omega, by simp; omega, by go_num, HB3.out, HO3.out⟩
          case measure => simp [intOf]; omega
    · have hie : i = s.size := by omega
      have HUN : Hid (part s a = (us, i)) := by
        show _ = _
        have hp : pch s i = none := by
          unfold pch
          rw [if_neg (by omega)]
        rw [HUS.out, part_none hp]
        simp
      clear hie
      by_cases hu0 : us = []
      · have HV : Hid (kd = 0 ∧ tx = { data := #[] } ∧ kf = 0) := by
          show _ ∧ _
          have h2 : (part s a).2 = a := (part_nil (Nat.le_of_lt ha)).1 (by rw [HUN.out]; exact hu0)
          rw [HKD.out.1, HKD.out.2.1, HKD.out.2.2, if_pos h2, if_pos h2, if_pos h2]
          exact ⟨rfl, rfl, rfl⟩
        have hul0 : us.length = 0 := by rw [hu0]; rfl
        clear hu0
        go_wp2
        exact fin5 rfl (by rfl) HRr.out Try.underlying110 rfl sizeTokC HBr.out (Nat.le_refl _) (by rw [HV.out.1, HV.out.2.1, HV.out.2.2] <;> rfl)
      · have HV : Hid (kd = 5 ∧ tx = strOfNums us ∧ kf = i) := by
          show _ ∧ _
          have h2 : ¬ (part s a).2 = a := fun h => hu0 (by have := (part_nil (Nat.le_of_lt ha)).2 h; rw [HUN.out] at this; exact this)
          rw [HKD.out.1, HKD.out.2.1, HKD.out.2.2, if_neg h2, if_neg h2, if_neg h2, HUN.out]
          exact ⟨rfl, rfl, rfl⟩
        have hul0 : ((us.length : Int) == 0) = false := beq_eq_false_iff_ne.2 (fun h => hu0 (List.eq_nil_of_length_eq_zero (by omega)))
        clear hu0
        go_wp2
        exact fin5 rfl (by rfl) HRr.out Try.underlying110 rfl sizeTokC HBr.out (Nat.le_refl _) (by rw [HV.out.1, HV.out.2.1, HV.out.2.2] <;> rfl)

def tkK (t : Tk) : Nat := if t.kind < 6 then t.kind else 0
def tkF (t : Tk) : Nat := if t.kind < 6 then t.fin else 0

set_option maxRecDepth 100000 in
set_option maxHeartbeats 2000000 in
theorem tokenAt_any (s : ByteArray) (i : Nat) (w : World) (hs : s.size ≤ 1000) (hi : i ≤ s.size) :
    Calls Try.prog 73 #[.string s, .int .i64 (i : Nat)] w fun e w' => e = .returned (.agg #[.int .i64 (tkK (tk s i) : Nat), .int .i64 ((tk s i).n : Nat), .string (strOfNums (tk s i).tx), .int .i64 ((tk s i).at' : Nat), .int .i64 (tkF (tk s i) : Nat)]) ∧ Below w.heap.size w w' := by
  obtain ⟨a, ha⟩ : ∃ a, a = skp s i := ⟨_, rfl⟩
  have hle : a ≤ s.size := by rw [ha]; exact skp_le hi
  obtain ⟨kd, hkd⟩ : ∃ x, x = tkK (tk s i) := ⟨_, rfl⟩
  obtain ⟨kn, hkn⟩ : ∃ x, x = (tk s i).n := ⟨_, rfl⟩
  obtain ⟨tx, htx⟩ : ∃ x, x = strOfNums (tk s i).tx := ⟨_, rfl⟩
  obtain ⟨kf, hkf⟩ : ∃ x, x = tkF (tk s i) := ⟨_, rfl⟩
  have HV : Hid (kd = tkK (tkA s a) ∧ kn = (tkA s a).n ∧ tx = strOfNums (tkA s a).tx ∧ kf = tkF (tkA s a)) := by show _ ∧ _; rw [ha]; exact ⟨hkd, hkn, htx, hkf⟩
  rw [tk_at, ← ha, ← hkd, ← hkn, ← htx, ← hkf]
  have HC : Hid (∀ w, Calls Try.prog 50 #[.string s, .int .i64 (i : Nat)] w fun e w' => e = .returned (.int .i64 (a : Nat)) ∧ w' = w) := fun w => by rw [ha]; exact behindSpaces_any s i w (by omega) hi
  clear ha hkd hkn htx hkf
  have HF : Hid (∀ t, tkA s a = t → kd = tkK t ∧ kn = t.n ∧ tx = strOfNums t.tx ∧ kf = tkF t) := fun t ht => by rw [← ht]; exact HV.out
  go_enter Try.func73, Try.ntmps73
  go_wp2_with fail
  refine (HC.out _).mono ?_
  rintro e w1 ⟨rfl, hw1⟩
  have HR : Hid (w1.rowIs w.heap.size 110 5 tok0) := by show World.rowIs _ _ _ _ _; rw [hw1]; exact row_new _ _ _ 5 rfl
  have HB : Hid (Below w.heap.size w w1) := by show Below _ _ _; rw [hw1]; exact below_one _
  have hz1 : w1.heap.size = w.heap.size + 1 := by rw [hw1]; simp
  have HZ : Hid (w.heap.size < w1.heap.size) := by show _ < _; omega
  clear hw1 hz1
  by_cases hlt : a < s.size
  · have hxb := bt_le s a
    have hbi := bt_in hlt
    obtain ⟨x, hx⟩ : ∃ x, x = bt s a := ⟨_, rfl⟩
    have hxs : ((s[a]'hlt).toNat : Int) = x := by rw [hx, hbi]
    rw [← hx] at hxb
    clear hbi
    have HX : Hid (x = bt s a) := hx
    clear hx
    by_cases h38 : x = 38
    · have HE : Hid (kd = 1 ∧ kn = 0 ∧ tx = { data := #[] } ∧ kf = a + 1) := HF.out ⟨1, 0, [], a, a + 1⟩ (by unfold tkA; rw [if_neg (by omega), if_pos (by rw [← HX.out]; exact h38)])
      obtain ⟨⟨c0, c1, c2, c3, c4⟩, f0, f1, f2, f3, f4⟩ := row5F HR.out
      subst h38
      go_wp2
      exact fin5 rfl (by rfl) HR.out Try.underlying110 rfl sizeTokC HB.out (Nat.le_refl _) (by rw [HE.out.1, HE.out.2.1, HE.out.2.2.1, HE.out.2.2.2] <;> simp)
    have e38 : ((x : Int) == 38) = false := beq_eq_false_iff_ne.2 (by omega)
    by_cases h47 : x = 47
    · have HE : Hid (kd = 4 ∧ kn = 0 ∧ tx = { data := #[] } ∧ kf = a + 1) := HF.out ⟨4, 0, [], a, a + 1⟩ (by unfold tkA; rw [if_neg (by omega), if_neg (by rw [← HX.out]; exact h38), if_pos (by rw [← HX.out]; exact h47)])
      obtain ⟨⟨c0, c1, c2, c3, c4⟩, f0, f1, f2, f3, f4⟩ := row5F HR.out
      subst h47
      clear h38
      go_wp2
      exact fin5 rfl (by rfl) HR.out Try.underlying110 rfl sizeTokC HB.out (Nat.le_refl _) (by rw [HE.out.1, HE.out.2.1, HE.out.2.2.1, HE.out.2.2.2] <;> simp)
    have e47 : ((x : Int) == 47) = false := beq_eq_false_iff_ne.2 (by omega)
    by_cases h61 : x = 61
    · have HE : Hid (kd = 3 ∧ kn = 0 ∧ tx = { data := #[] } ∧ kf = a + 1) := HF.out ⟨3, 0, [], a, a + 1⟩ (by unfold tkA; rw [if_neg (by omega), if_neg (by rw [← HX.out]; exact h38), if_neg (by rw [← HX.out]; exact h47), if_pos (by rw [← HX.out]; exact h61)])
      obtain ⟨⟨c0, c1, c2, c3, c4⟩, f0, f1, f2, f3, f4⟩ := row5F HR.out
      subst h61
      clear h38 h47
      go_wp2
      exact fin5 rfl (by rfl) HR.out Try.underlying110 rfl sizeTokC HB.out (Nat.le_refl _) (by rw [HE.out.1, HE.out.2.1, HE.out.2.2.1, HE.out.2.2.2] <;> simp)
    have e61 : ((x : Int) == 61) = false := beq_eq_false_iff_ne.2 (by omega)
    by_cases h60 : x = 60
    · obtain ⟨k, hk⟩ : ∃ k, k = lessN s a := ⟨_, rfl⟩
      have HE : Hid (kd = 3 ∧ kn = k ∧ tx = { data := #[] } ∧ kf = a + k) := HF.out ⟨3, k, [], a, a + k⟩ (by unfold tkA; rw [hk, if_neg (by omega), if_neg (by rw [← HX.out]; exact h38), if_neg (by rw [← HX.out]; exact h47), if_neg (by rw [← HX.out]; exact h61), if_pos (by rw [← HX.out]; exact h60)])
      obtain ⟨ak, hak⟩ : ∃ z, z = a + k := ⟨_, rfl⟩
      have HD : Hid (∀ w, Calls Try.prog 76 #[.string s, .int .i64 (a : Nat)] w fun e w' => e = .returned (.agg #[.int .i64 3, .int .i64 (k : Nat), .string { data := #[] }, .int .i64 (a : Nat), .int .i64 (ak : Nat)]) ∧ Below w.heap.size w w') := fun w => by rw [hak, hk]; exact lessAt_any s a w hs hlt
      rw [← hak] at HE
      subst h60
      clear h38 h47 h61 hk hak
      go_wp2_with fail
      refine (HD.out _).mono ?_
      rintro e w2 ⟨rfl, hb2⟩
      have HR2 : Hid (w2.rowIs w.heap.size 110 5 tok0) := HR.out.of_block (hb2.block _ HZ.out)
      have HB2 : Hid (Below w.heap.size w w2) := below_then HB.out hb2
      obtain ⟨⟨c0, c1, c2, c3, c4⟩, f0, f1, f2, f3, f4⟩ := row5F HR2.out
      clear hb2
      go_wp2
      exact fin5 rfl (by rfl) HR2.out Try.underlying110 rfl sizeTokC HB2.out (Nat.le_refl _) (by rw [HE.out.1, HE.out.2.1, HE.out.2.2.1, HE.out.2.2.2] <;> simp)
    have e60 : ((x : Int) == 60) = false := beq_eq_false_iff_ne.2 (by omega)
    by_cases h91 : x = 91
    · obtain ⟨k, hk⟩ : ∃ k, k = befN s a := ⟨_, rfl⟩
      obtain ⟨k1, hk1⟩ : ∃ x, x = (if k = 0 then 0 else 2 : Nat) := ⟨_, rfl⟩
      obtain ⟨k2, hk2⟩ : ∃ x, x = (if k = 0 then 0 else a + 10 : Nat) := ⟨_, rfl⟩
      have HE : Hid (kd = k1 ∧ kn = k ∧ tx = { data := #[] } ∧ kf = k2) := by
        have ht : tkA s a = if k = 0 then ⟨6, 0, [], a, a + 1⟩ else ⟨2, k, [], a, a + 10⟩ := by unfold tkA; rw [hk, if_neg (by omega), if_neg (by rw [← HX.out]; exact h38), if_neg (by rw [← HX.out]; exact h47), if_neg (by rw [← HX.out]; exact h61), if_neg (by rw [← HX.out]; exact h60), if_pos (by rw [← HX.out]; exact h91)]
        by_cases h0 : k = 0
        · rw [if_pos h0] at ht hk1 hk2
          have := HF.out _ ht
          show _ ∧ _
          rw [hk1, hk2, h0]
          exact this
        · rw [if_neg h0] at ht hk1 hk2
          have := HF.out _ ht
          show _ ∧ _
          rw [hk1, hk2]
          exact this
      have HD : Hid (∀ w, Calls Try.prog 77 #[.string s, .int .i64 (a : Nat)] w fun e w' => e = .returned (.agg #[.int .i64 (k1 : Nat), .int .i64 (k : Nat), .string { data := #[] }, .int .i64 (a : Nat), .int .i64 (k2 : Nat)]) ∧ Below w.heap.size w w') := fun w => by rw [hk1, hk2, hk]; exact beforeAt_any s a w hs hlt
      subst h91
      clear h38 h47 h61 h60 hk hk1 hk2
      go_wp2_with fail
      refine (HD.out _).mono ?_
      rintro e w2 ⟨rfl, hb2⟩
      have HR2 : Hid (w2.rowIs w.heap.size 110 5 tok0) := HR.out.of_block (hb2.block _ HZ.out)
      have HB2 : Hid (Below w.heap.size w w2) := below_then HB.out hb2
      obtain ⟨⟨c0, c1, c2, c3, c4⟩, f0, f1, f2, f3, f4⟩ := row5F HR2.out
      clear hb2
      go_wp2
      exact fin5 rfl (by rfl) HR2.out Try.underlying110 rfl sizeTokC HB2.out (Nat.le_refl _) (by rw [HE.out.1, HE.out.2.1, HE.out.2.2.1, HE.out.2.2.2] <;> simp)
    have e91 : ((x : Int) == 91) = false := beq_eq_false_iff_ne.2 (by omega)
    obtain ⟨k1, hk1⟩ : ∃ x, x = (if (part s a).2 = a then 0 else 5 : Nat) := ⟨_, rfl⟩
    obtain ⟨tt, htt⟩ : ∃ x, x = (if (part s a).2 = a then ({ data := #[] } : ByteArray) else strOfNums (part s a).1) := ⟨_, rfl⟩
    obtain ⟨k2, hk2⟩ : ∃ x, x = (if (part s a).2 = a then 0 else (part s a).2 : Nat) := ⟨_, rfl⟩
    have HE : Hid (kd = k1 ∧ kn = 0 ∧ tx = tt ∧ kf = k2) := by
      have ht : tkA s a = if (part s a).2 = a then ⟨6, 0, [], a, a + 1⟩ else ⟨5, 0, (part s a).1, a, (part s a).2⟩ := by unfold tkA; rw [if_neg (by omega), if_neg (by rw [← HX.out]; exact h38), if_neg (by rw [← HX.out]; exact h47), if_neg (by rw [← HX.out]; exact h61), if_neg (by rw [← HX.out]; exact h60), if_neg (by rw [← HX.out]; exact h91)]
      by_cases h0 : (part s a).2 = a
      · rw [if_pos h0] at ht hk1 hk2 htt
        have := HF.out _ ht
        show _ ∧ _
        rw [hk1, hk2, htt]
        exact this
      · rw [if_neg h0] at ht hk1 hk2 htt
        have := HF.out _ ht
        show _ ∧ _
        rw [hk1, hk2, htt]
        exact this
    have HD : Hid (∀ w, Calls Try.prog 78 #[.string s, .int .i64 (a : Nat)] w fun e w' => e = .returned (.agg #[.int .i64 (k1 : Nat), .int .i64 0, .string tt, .int .i64 (a : Nat), .int .i64 (k2 : Nat)]) ∧ Below w.heap.size w w') := fun w => by rw [hk1, hk2, htt]; exact partAt_any s a w hs hlt
    clear h38 h47 h61 h60 h91 hk1 hk2 htt
    go_wp2_with fail
    refine (HD.out _).mono ?_
    rintro e w2 ⟨rfl, hb2⟩
    have HR2 : Hid (w2.rowIs w.heap.size 110 5 tok0) := HR.out.of_block (hb2.block _ HZ.out)
    have HB2 : Hid (Below w.heap.size w w2) := below_then HB.out hb2
    obtain ⟨⟨c0, c1, c2, c3, c4⟩, f0, f1, f2, f3, f4⟩ := row5F HR2.out
    clear hb2
    go_wp2
    exact fin5 rfl (by rfl) HR2.out Try.underlying110 rfl sizeTokC HB2.out (Nat.le_refl _) (by rw [HE.out.1, HE.out.2.1, HE.out.2.2.1, HE.out.2.2.2] <;> simp)
  · have HE : Hid (kd = 0 ∧ kn = 0 ∧ tx = { data := #[] } ∧ kf = 0) := HF.out ⟨7, 0, [], a, a⟩ (by unfold tkA; rw [if_pos (by omega)])
    obtain ⟨⟨c0, c1, c2, c3, c4⟩, f0, f1, f2, f3, f4⟩ := row5F HR.out
    go_wp2
    exact fin5 rfl (by rfl) HR.out Try.underlying110 rfl sizeTokC HB.out (Nat.le_refl _) (by rw [HE.out.1, HE.out.2.1, HE.out.2.2.1, HE.out.2.2.2] <;> simp)

end Go.Proofs.Ytpclldccjpncdaa
