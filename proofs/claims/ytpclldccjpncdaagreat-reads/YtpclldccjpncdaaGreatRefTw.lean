import Derived.Test.YtpclldccjpncdaaGreatRefTk
namespace Go.Proofs.YtpclldccjpncdaaGreat
open Go.RowKit

theorem sizeRtkC : (Tryz.prog.info? 82).map (·.size) = some 5 := by kernel_rfl
def rtk0 : Nat → Value := fun i => #[Value.int .i64 0, .int .i64 0, .int .i64 0, .int .i64 0, .string ByteArray.empty].getD i undef
theorem fin5d {P : Program} {fn : Func} {p : Tmp} {ty : TypeId} {w0 W : World} {B g : Nat} {f : Nat → Value} {v0 v1 v2 v3 v4 v : Value} {d : TypeDesc} {tmps : Array Value} (h : fn.results = #[.cell p ty]) (hp : tmps.getD p undef = .pointer (some ⟨g, 0, none⟩)) (hg : W.rowIs g ty 5 f)
    (hu : P.underlying ty = some d) (hd : (match d with | .struct _ | .array _ _ => true | _ => false) = true) (hi : (P.info? ty).map (·.size) = some 5) (hb : Below B w0 W) (hB : B ≤ g) (hv : v = .agg #[v0, v1, v2, v3, v4]) :
    bodyPost P fn (fun e w' => e = .returned v ∧ Below B w0 w') Exit.ret { tmps := tmps, defers := [] } (set5 W g v0 v1 v2 v3 v4).drew := by
  have hr := World.rowIs.drew (((((hg.set 0 v0).set 1 v1).set 2 v2).set 3 v3).set 4 v4)
  have := res5 (P := P) h tmps g _ d hp hr hu hd hi
  exact bodyPost_ret this rfl ⟨by rw [hv]; rfl, ((set5_only W g v0 v1 v2 v3 v4).below hb hB).drew⟩
/-- the three lists of the table -/
def tabA : Array Value := #[.string { data := #[38] }, .string { data := #[47] }, .string { data := #[61] }, .string { data := #[60, 60, 60] }, .string { data := #[60, 60] }, .string { data := #[60] }, .string { data := #[91, 98, 101, 102, 111, 114, 101, 32, 49, 93] }, .string { data := #[91, 98, 101, 102, 111, 114, 101, 32, 50, 93] }, .string { data := #[91, 98, 101, 102, 111, 114, 101, 32, 51, 93] }]
def tabB : Array Value := #[.int .i64 1, .int .i64 4, .int .i64 3, .int .i64 3, .int .i64 3, .int .i64 3, .int .i64 2, .int .i64 2, .int .i64 2]
def tabC : Array Value := #[.int .i64 0, .int .i64 0, .int .i64 0, .int .i64 3, .int .i64 2, .int .i64 1, .int .i64 1, .int .i64 2, .int .i64 3]
def tabW (w : World) : World := ((w.alloc (.cells tabA 9)).alloc (.cells tabB 3)).alloc (.cells tabC 3)
theorem tabW_size (w : World) : (tabW w).heap.size = w.heap.size + 3 := by simp [tabW]
theorem tabW_below (w : World) : Below w.heap.size w (tabW w) := below_then (below_then (below_one _) (below_one _)) (below_one _)
theorem tabW_cells (w : World) {k : Nat} (hk : k < 9) : (tabW w).cell? ⟨w.heap.size, k, none⟩ = some (.string (wd k)) ∧ (tabW w).cell? ⟨w.heap.size + 1, k, none⟩ = some (.int .i64 (wk k : Nat)) ∧ (tabW w).cell? ⟨w.heap.size + 2, k, none⟩ = some (.int .i64 (wn k : Nat)) := by
  have z1 : (w.alloc (.cells tabA 9)).heap.size = w.heap.size + 1 := by simp
  have z2 : ((w.alloc (.cells tabA 9)).alloc (.cells tabB 3)).heap.size = w.heap.size + 2 := by simp
  have r1 := ((row_new w tabA 9 9 rfl).alloc (.cells tabB 3)).alloc (.cells tabC 3)
  have c1 := r1.cell (i := k) hk
  have r2 := (row_new (w.alloc (.cells tabA 9)) tabB 3 9 rfl).alloc (.cells tabC 3)
  rw [z1] at r2
  have c2 := r2.cell (i := k) hk
  have r3 := row_new ((w.alloc (.cells tabA 9)).alloc (.cells tabB 3)) tabC 3 9 rfl
  rw [z2] at r3
  have c3 := r3.cell (i := k) hk
  refine ⟨c1.trans ?_, c2.trans ?_, c3.trans ?_⟩
  all_goals
    have cs : k = 0 ∨ k = 1 ∨ k = 2 ∨ k = 3 ∨ k = 4 ∨ k = 5 ∨ k = 6 ∨ k = 7 ∨ k = 8 := by omega
    rcases cs with rfl | rfl | rfl | rfl | rfl | rfl | rfl | rfl | rfl <;> rfl

set_option maxRecDepth 100000 in
set_option maxHeartbeats 2000000 in
theorem refToken_any (s : ByteArray) (i : Nat) (w : World) (hs : s.size ≤ 1000) (hi : i ≤ s.size) :
    Calls Tryz.prog 59 #[.string s, .int .i64 (i : Nat)] w fun e w' => e = .returned (.agg #[.int .i64 ((tk s i).kind : Nat), .int .i64 ((tk s i).at' : Nat), .int .i64 ((tk s i).fin : Nat), .int .i64 ((tk s i).n : Nat), .string (strOfNums (tk s i).tx)]) ∧ Below w.heap.size w w' := by
  obtain ⟨v, hv⟩ : ∃ v, v = Value.agg #[.int .i64 ((tk s i).kind : Nat), .int .i64 ((tk s i).at' : Nat), .int .i64 ((tk s i).fin : Nat), .int .i64 ((tk s i).n : Nat), .string (strOfNums (tk s i).tx)] := ⟨_, rfl⟩
  obtain ⟨a, ha⟩ : ∃ a, a = skp s i := ⟨_, rfl⟩
  have hle : a ≤ s.size := by rw [ha]; exact skp_le hi
  have HV : Hid (∀ t, tkA s a = t → v = Value.agg #[.int .i64 (t.kind : Nat), .int .i64 (t.at' : Nat), .int .i64 (t.fin : Nat), .int .i64 (t.n : Nat), .string (strOfNums t.tx)]) := fun t ht => by
    rw [hv, show tk s i = t by rw [← ht, ha]; rfl]
  rw [← hv]
  clear hv
  have HA : Hid (a = skp s i) := ha
  clear ha
  obtain ⟨W, hW⟩ : ∃ W, W = w.alloc (.cells #[.int .i64 0, .int .i64 0, .int .i64 0, .int .i64 0, .string ByteArray.empty] 82) := ⟨_, rfl⟩
  have HW : Hid (W = w.alloc (.cells #[.int .i64 0, .int .i64 0, .int .i64 0, .int .i64 0, .string ByteArray.empty] 82)) := hW
  have HWS : Hid (W.heap.size = w.heap.size + 1) := by show _ = _; rw [hW]; simp
  have HR : Hid (W.rowIs w.heap.size 82 5 rtk0) := by show World.rowIs _ _ _ _ _; rw [hW]; exact row_new _ _ _ 5 rfl
  have HB : Hid (Below w.heap.size w W) := by show Below _ _ _; rw [hW]; exact below_one _
  clear hW
  go_enter Tryz.func59, Tryz.ntmps59
  go_wp2
  go_loopw [1] (fun iv wr => ∃ j : Nat, Hid (a = skp s j) ∧ j ≤ s.size ∧ iv = .int .i64 (j : Nat) ∧ wr = W) (fun iv _ => s.size - (intOf iv).toNat)
  case atStart => exact ⟨i, HA, hi, rfl, HW.out.symm⟩
  case round =>
    obtain ⟨j, HJ, hj, rfl, hw⟩ := hrel
    obtain rfl := hw.symm
    clear hw
    by_cases hmore : j < s.size ∧ bt s j = 32
    · obtain ⟨hlt, hx⟩ := hmore
      have hbi := bt_in hlt
      have hxs : ((s[j]'hlt).toNat : Int) = 32 := by rw [← hbi, hx]; rfl
      have HN : Hid (a = skp s (j + 1)) := by show _ = _; rw [HJ.out]; exact skp_sp ⟨hlt, hx⟩
      clear hbi hx
      go_wp2
      go_roundw
      case rel => exact ⟨j + 1, HN, by omega, by go_num, by trivial⟩
      case measure => simp [intOf]; omega
    · have hja : j = a := by rw [HJ.out]; exact (skp_no hmore).symm
      subst hja
      by_cases hlt : j < s.size
      · have hbi := bt_in hlt
        obtain ⟨x, hx⟩ : ∃ x, x = bt s j := ⟨_, rfl⟩
        have hxs : ((s[j]'hlt).toNat : Int) = x := by rw [hx, hbi]
        have h32 : ((x : Int) == 32) = false := beq_eq_false_iff_ne.2 (by omega)
        obtain ⟨V, hV⟩ : ∃ V, V = tabW W := ⟨_, rfl⟩
        have HVS : Hid (V.heap.size = w.heap.size + 4) := by show _ = _; rw [hV, tabW_size, HWS.out]
        have HVC : Hid (∀ k, k < 9 → V.cell? ⟨W.heap.size, k, none⟩ = some (.string (wd k)) ∧ V.cell? ⟨W.heap.size + 1, k, none⟩ = some (.int .i64 (wk k : Nat)) ∧ V.cell? ⟨W.heap.size + 2, k, none⟩ = some (.int .i64 (wn k : Nat))) := fun k hk => by rw [hV]; exact tabW_cells W hk
        have HVR : Hid (V.rowIs w.heap.size 82 5 rtk0) := by show World.rowIs _ _ _ _ _; rw [hV]; exact HR.out.of_block ((tabW_below W).block _ (by rw [HWS.out]; omega))
        have HVB : Hid (Below w.heap.size w V) := by show Below _ _ _; rw [hV]; exact below_then HB.out (tabW_below W)
        have HVE : Hid (V = tabW W) := hV
        clear hbi hx hmore hV
        have d2 : decide (s.size ≤ j) = false := by simp; omega
        have d3 : decide ((s.size : Int) ≤ (j : Int)) = false := by simp; omega
        go_wp2
        go_loopw [8] (fun kv wr => ∃ k : Nat, Hid (∀ m, m < k → ¬ hasB s j (wd m)) ∧ k ≤ 9 ∧ kv = .int .i64 (k : Nat) ∧ wr = V) (fun kv _ => 9 - (intOf kv).toNat)
        case atStart => exact ⟨0, fun m hm => by omega, by omega, rfl, HVE.out.symm⟩
        case round =>
          obtain ⟨k, HN, hk, rfl, hw⟩ := hrel
          obtain rfl := hw.symm
          clear hw
          by_cases hk9 : k < 9
          · obtain ⟨c1, c2, c3⟩ := HVC.out k hk9
            obtain ⟨u, hu⟩ : ∃ u, u = wd k := ⟨_, rfl⟩
            obtain ⟨bb, hbb⟩ : ∃ b, b = decide (hasB s j u) := ⟨_, rfl⟩
            have hul : u.size ≤ 10 := by rw [hu, wd, strOfNums_size]; exact (wl_len k).2
            have HBG : Hid (∀ wz, Calls Tryz.prog 85 #[.string s, .int .i64 (j : Nat), .string u] wz fun e w' => e = .returned (.bool bb) ∧ w' = wz) := fun wz => by
              rw [hbb]
              exact begins_any s u j wz hs (by omega) hj
            rw [← hu] at c1
            by_cases hh : hasB s j u
            · have hb1 : bb = true := by rw [hbb]; exact decide_eq_true hh
              subst hb1
              obtain ⟨kk, hkk⟩ : ∃ x, x = wk k := ⟨_, rfl⟩
              obtain ⟨kn, hkn⟩ : ∃ x, x = wn k := ⟨_, rfl⟩
              rw [← hkk] at c2
              rw [← hkn] at c3
              have HE : Hid (v = Value.agg #[.int .i64 (kk : Nat), .int .i64 (j : Nat), .int .i64 ((j + u.size : Nat) : Int), .int .i64 (kn : Nat), .string (strOfNums [])]) := by
                show _ = _
                rw [hkk, hkn, hu]
                exact HV.out _ (wd_first hlt hk9 (by rw [← hu]; exact hh) HN.out)
              obtain ⟨⟨d0, d1, d2, d3, d4⟩, f0, f1, f2, f3, f4⟩ := row5F HVR.out
              have hk0 : (k : Int) < 9 := by omega
              have hk1 : (0 : Int) ≤ (k : Int) := by omega
              clear hbb hu hh hkk hkn
              go_wp2_with fail
              refine (HBG.out _).mono ?_
              rintro e w1 ⟨rfl, hw1⟩
              obtain rfl := hw1.symm
              clear hw1
              go_wp2
              go_region
              go_wp2
              exact fin5d rfl (by rfl) HVR.out Tryz.underlying82 rfl sizeRtkC HVB.out (Nat.le_refl _) (by rw [HE.out]; simp; rfl)
            · have hb1 : bb = false := by rw [hbb]; exact decide_eq_false hh
              subst hb1
              have HN' : Hid (∀ m, m < k + 1 → ¬ hasB s j (wd m)) := fun m hm => by
                by_cases e : m = k
                · rw [e, ← hu]; exact hh
                · exact HN.out m (by omega)
              have hk0 : (k : Int) < 9 := by omega
              have hk1 : (0 : Int) ≤ (k : Int) := by omega
              clear hbb hu hh c2 c3
              go_wp2_with fail
              refine (HBG.out _).mono ?_
              rintro e w1 ⟨rfl, hw1⟩
              obtain rfl := hw1.symm
              clear hw1
              go_wp2
              go_roundw
              case rel =>
                exact ⟨k + 1, HN', by omega, by go_num, by trivial⟩
              case measure => simp [intOf]; omega
          · have hk' : k = 9 := by omega
            subst hk'
            obtain ⟨pt, hpt⟩ : ∃ x, x = strOfNums (part s j).1 := ⟨_, rfl⟩
            obtain ⟨pf, hpf⟩ : ∃ x, x = (part s j).2 := ⟨_, rfl⟩
            have HPT : Hid (∀ wz, Calls Tryz.prog 86 #[.string s, .int .i64 (j : Nat)] wz fun e w' => e = .returned (.tuple #[.string pt, .int .i64 (pf : Nat)]) ∧ Below wz.heap.size wz w') := fun wz => by rw [hpt, hpf]; exact part_any s j wz hs hj
            have hpfl : pf ≤ s.size := by rw [hpf]; exact part_le hj
            have HT : Hid (tkA s j = if (part s j).2 = j then ⟨6, 0, [], j, j + 1⟩ else ⟨5, 0, (part s j).1, j, (part s j).2⟩) := wd_none hlt HN.out
            by_cases hpj : pf = j
            · have HE : Hid (v = Value.agg #[.int .i64 6, .int .i64 (j : Nat), .int .i64 ((j + 1 : Nat) : Int), .int .i64 0, .string (strOfNums [])]) := by
                have ht := HT.out
                rw [if_pos (by rw [← hpf]; exact hpj)] at ht
                exact HV.out _ ht
              have hpj' : ((pf : Int) == (j : Int)) = true := by simp [hpj]
              clear hpt hpf hpj
              go_wp2_with fail
              refine (HPT.out _).mono ?_
              rintro e w2 ⟨rfl, hb2⟩
              have HR2 : Hid (w2.rowIs w.heap.size 82 5 rtk0) := HVR.out.of_block (hb2.block _ (by rw [HVS.out]; omega))
              have HB2 : Hid (Below w.heap.size w w2) := below_then HVB.out hb2
              obtain ⟨⟨d0, d1, d2, d3, d4⟩, f0, f1, f2, f3, f4⟩ := row5F HR2.out
              clear hb2
              go_wp2
              exact fin5 rfl (by rfl) HR2.out Tryz.underlying82 rfl sizeRtkC HB2.out (Nat.le_refl _) (by rw [HE.out]; simp; rfl)
            · have HE : Hid (v = Value.agg #[.int .i64 5, .int .i64 (j : Nat), .int .i64 (pf : Nat), .int .i64 0, .string pt]) := by
                have ht := HT.out
                rw [if_neg (by rw [← hpf]; exact hpj)] at ht
                have := HV.out _ ht
                simp only at this
                rw [← hpt, ← hpf] at this
                exact this
              have hpj' : ((pf : Int) == (j : Int)) = false := beq_eq_false_iff_ne.2 (by omega)
              clear hpt hpf hpj
              go_wp2_with fail
              refine (HPT.out _).mono ?_
              rintro e w2 ⟨rfl, hb2⟩
              have HR2 : Hid (w2.rowIs w.heap.size 82 5 rtk0) := HVR.out.of_block (hb2.block _ (by rw [HVS.out]; omega))
              have HB2 : Hid (Below w.heap.size w w2) := below_then HVB.out hb2
              obtain ⟨⟨d0, d1, d2, d3, d4⟩, f0, f1, f2, f3, f4⟩ := row5F HR2.out
              clear hb2
              go_wp2
              exact fin5 rfl (by rfl) HR2.out Tryz.underlying82 rfl sizeRtkC HB2.out (Nat.le_refl _) (by rw [HE.out] <;> rfl)
      · have hje : j = s.size := by omega
        have HE : Hid (v = Value.agg #[.int .i64 7, .int .i64 (s.size : Nat), .int .i64 (s.size : Nat), .int .i64 0, .string (strOfNums [])]) := by
          have := HV.out ⟨7, 0, [], j, j⟩ (by unfold tkA; rw [if_pos (by omega)])
          rw [hje] at this
          exact this
        obtain ⟨⟨d0, d1, d2, d3, d4⟩, f0, f1, f2, f3, f4⟩ := row5F HR.out
        clear hmore hje
        go_wp2
        exact fin5 rfl (by rfl) HR.out Tryz.underlying82 rfl sizeRtkC HB.out (Nat.le_refl _) (by rw [HE.out] <;> rfl)

end Go.Proofs.YtpclldccjpncdaaGreat
