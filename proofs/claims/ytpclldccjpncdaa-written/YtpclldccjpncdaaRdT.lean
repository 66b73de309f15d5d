import Derived.Test.YtpclldccjpncdaaRdP
import Derived.Test.YtpclldccjpncdaaWrP
namespace Go.Proofs.Ytpclldccjpncdaa
open Go.RowKit

theorem sizeTokC : (Try.prog.info? 110).map (·.size) = some 5 := by kernel_rfl
theorem row5C {w : World} {b : Nat} {t : TypeId} {f : Nat → Value} (h : w.rowIs b t 5 f) : w.heap[b]? = some (.cells #[f 0, f 1, f 2, f 3, f 4] t (0, 0)) := by
  obtain ⟨c, hc, hs, hf⟩ := h
  rw [hc]
  have : c = #[f 0, f 1, f 2, f 3, f 4] := by
    apply Array.ext_getElem?
    intro i
    match i with
    | 0 => rw [hf 0 (by omega)]; rfl
    | 1 => rw [hf 1 (by omega)]; rfl
    | 2 => rw [hf 2 (by omega)]; rfl
    | 3 => rw [hf 3 (by omega)]; rfl
    | 4 => rw [hf 4 (by omega)]; rfl
    | j + 5 => rw [Array.getElem?_eq_none (by omega)]; rfl
  rw [this]
/-- a result of five cells -/
theorem res5 {w : World} {P : Program} {fn : Func} {p : Tmp} {ty : TypeId} (h : fn.results = #[.cell p ty]) (tmps : Array Value) (g : Nat) (f : Nat → Value) (d : TypeDesc)
    (hp : tmps.getD p undef = .pointer (some ⟨g, 0, none⟩)) (hg : w.rowIs g ty 5 f)
    (hu : P.underlying ty = some d) (hd : (match d with | .struct _ | .array _ _ => true | _ => false) = true) (hi : (P.info? ty).map (·.size) = some 5) :
    (results fn tmps).run P w = .ok (.agg #[f 0, f 1, f 2, f 3, f 4]) w :=
  results_cell_row h tmps w g ty _ (0, 0) d hp (row5C hg) hu hd hi
theorem res53 {w : World} {P : Program} {fn : Func} {p u v : Tmp} {ty : TypeId} (h : fn.results = #[.cell p ty, .tmp u, .tmp v]) (tmps : Array Value) (g : Nat) (f : Nat → Value) (d : TypeDesc)
    (hp : tmps.getD p undef = .pointer (some ⟨g, 0, none⟩)) (hg : w.rowIs g ty 5 f)
    (hu : P.underlying ty = some d) (hd : (match d with | .struct _ | .array _ _ => true | _ => false) = true) (hi : (P.info? ty).map (·.size) = some 5) :
    (results fn tmps).run P w = .ok (.tuple #[.agg #[f 0, f 1, f 2, f 3, f 4], tmps.getD u undef, tmps.getD v undef]) w := by
  have hp' : tmps[p]?.getD undef = .pointer (some ⟨g, 0, none⟩) := by simpa using hp
  simp [results, h, hp', asAddr, run_loadVar_row w g ty ty #[f 0, f 1, f 2, f 3, f 4] (0, 0) d (row5C hg) hu hd hi]

theorem row5F {w : World} {g : Nat} {t : TypeId} {f : Nat → Value} (h : w.rowIs g t 5 f) : (w.cell? ⟨g, 0, none⟩ = some (f 0) ∧ w.cell? ⟨g, 1, none⟩ = some (f 1) ∧ w.cell? ⟨g, 2, none⟩ = some (f 2) ∧ w.cell? ⟨g, 3, none⟩ = some (f 3) ∧ w.cell? ⟨g, 4, none⟩ = some (f 4)) ∧ (w.frozen? ⟨g, 0, none⟩ = false ∧ w.frozen? ⟨g, 1, none⟩ = false ∧ w.frozen? ⟨g, 2, none⟩ = false ∧ w.frozen? ⟨g, 3, none⟩ = false ∧ w.frozen? ⟨g, 4, none⟩ = false) :=
  ⟨⟨World.rowIs.cell h (i := 0) (by omega), World.rowIs.cell h (i := 1) (by omega), World.rowIs.cell h (i := 2) (by omega), World.rowIs.cell h (i := 3) (by omega), World.rowIs.cell h (i := 4) (by omega)⟩, World.rowIs.frozen h 0, World.rowIs.frozen h 1, World.rowIs.frozen h 2, World.rowIs.frozen h 3, World.rowIs.frozen h 4⟩
/-- five cells written, one behind the other -/
def set5 (W : World) (g : Nat) (v0 v1 v2 v3 v4 : Value) : World := ((((W.setCell ⟨g, 0, none⟩ v0).setCell ⟨g, 1, none⟩ v1).setCell ⟨g, 2, none⟩ v2).setCell ⟨g, 3, none⟩ v3).setCell ⟨g, 4, none⟩ v4
theorem set5_only (W : World) (g : Nat) (v0 v1 v2 v3 v4 : Value) : OnlyRow g W (set5 W g v0 v1 v2 v3 v4) :=
  ((((OnlyRow.setCell _ _ _ _).trans (OnlyRow.setCell _ _ _ _)).trans (OnlyRow.setCell _ _ _ _)).trans (OnlyRow.setCell _ _ _ _)).trans (OnlyRow.setCell _ _ _ _)
theorem fin5 {P : Program} {fn : Func} {p : Tmp} {ty : TypeId} {w0 W : World} {B g : Nat} {f : Nat → Value} {v0 v1 v2 v3 v4 v : Value} {d : TypeDesc} {tmps : Array Value} (h : fn.results = #[.cell p ty]) (hp : tmps.getD p undef = .pointer (some ⟨g, 0, none⟩)) (hg : W.rowIs g ty 5 f)
    (hu : P.underlying ty = some d) (hd : (match d with | .struct _ | .array _ _ => true | _ => false) = true) (hi : (P.info? ty).map (·.size) = some 5) (hb : Below B w0 W) (hB : B ≤ g) (hv : v = .agg #[v0, v1, v2, v3, v4]) :
    bodyPost P fn (fun e w' => e = .returned v ∧ Below B w0 w') Exit.ret { tmps := tmps, defers := [] } (set5 W g v0 v1 v2 v3 v4) := by
  have := res5 (P := P) h tmps g _ d hp (((((hg.set 0 v0).set 1 v1).set 2 v2).set 3 v3).set 4 v4) hu hd hi
  exact bodyPost_ret this rfl ⟨by rw [hv]; rfl, (set5_only W g v0 v1 v2 v3 v4).below hb hB⟩
theorem fin53 {P : Program} {fn : Func} {p x y : Tmp} {ty : TypeId} {w0 W : World} {B g : Nat} {f : Nat → Value} {v0 v1 v2 v3 v4 v : Value} {d : TypeDesc} {tmps : Array Value} (h : fn.results = #[.cell p ty, .tmp x, .tmp y]) (hp : tmps.getD p undef = .pointer (some ⟨g, 0, none⟩)) (hg : W.rowIs g ty 5 f)
    (hu : P.underlying ty = some d) (hd : (match d with | .struct _ | .array _ _ => true | _ => false) = true) (hi : (P.info? ty).map (·.size) = some 5) (hb : Below B w0 W) (hB : B ≤ g) (hv : v = .tuple #[.agg #[v0, v1, v2, v3, v4], tmps.getD x undef, tmps.getD y undef]) :
    bodyPost P fn (fun e w' => e = .returned v ∧ Below B w0 w') Exit.ret { tmps := tmps, defers := [] } (set5 W g v0 v1 v2 v3 v4) := by
  have := res53 (P := P) h tmps g _ d hp (((((hg.set 0 v0).set 1 v1).set 2 v2).set 3 v3).set 4 v4) hu hd hi
  exact bodyPost_ret this rfl ⟨by rw [hv]; rfl, (set5_only W g v0 v1 v2 v3 v4).below hb hB⟩
def tok0 : Nat → Value := fun i => #[Value.int .i64 0, .int .i64 0, .string ByteArray.empty, .int .i64 0, .int .i64 0].getD i undef

set_option maxRecDepth 100000 in
set_option maxHeartbeats 1000000 in
theorem behindSpaces_any (s : ByteArray) (i : Nat) (w : World) (hs : s.size ≤ 140737488351232) (hi : i ≤ s.size) :
    Calls Try.prog 50 #[.string s, .int .i64 (i : Nat)] w fun e w' => e = .returned (.int .i64 (skp s i : Nat)) ∧ w' = w := by
  obtain ⟨k, hk⟩ : ∃ k, k = skp s i := ⟨_, rfl⟩
  have HK : Hid (k = skp s i) := hk
  rw [← hk]
  clear hk
  go_enter Try.func50, Try.ntmps50
  go_wp2
  go_loopw [5] (fun iv wr => ∃ j : Nat, Hid (k = skp s j) ∧ j ≤ s.size ∧ iv = .int .i64 (j : Nat) ∧ wr = w) (fun iv _ => s.size - (intOf iv).toNat)
  case atStart => exact ⟨i, HK, hi, rfl, rfl⟩
  case round =>
    obtain ⟨j, HJ, hj, rfl, hw⟩ := hrel
    obtain rfl := hw.symm
    clear hw
    by_cases hlt : j < s.size
    · have hbi := bt_in hlt
      obtain ⟨x, hx⟩ : ∃ x, x = bt s j := ⟨_, rfl⟩
      have hxs : ((s[j]'hlt).toNat : Int) = x := by rw [hx, hbi]
      by_cases h32 : x = 32
      · have HN : Hid (k = skp s (j + 1)) := by show _ = _; rw [HJ.out]; exact skp_sp ⟨hlt, by omega⟩
        subst h32
        clear hbi hx
        go_wp2
        go_roundw
        case rel => exact ⟨j + 1, HN, by omega, by go_num, by trivial⟩
        case measure => simp [intOf]; omega
      · have HN : Hid (k = j) := by show _ = _; rw [HJ.out]; exact skp_no (by omega)
        have h32' : ((x : Int) == 32) = false := beq_eq_false_iff_ne.2 (by omega)
        clear hbi hx h32
        go_wp2
        go_ret
        exact ⟨by rw [HN.out]; rfl, rfl⟩
    · have HN : Hid (k = j) := by show _ = _; rw [HJ.out]; exact skp_no (by omega)
      go_wp2
      go_ret
      exact ⟨by rw [HN.out]; rfl, rfl⟩

set_option maxRecDepth 100000 in
set_option maxHeartbeats 1000000 in
theorem lessAt_any (s : ByteArray) (a : Nat) (w : World) (hs : s.size ≤ 1000) (ha : a < s.size) :
    Calls Try.prog 76 #[.string s, .int .i64 (a : Nat)] w fun e w' => e = .returned (.agg #[.int .i64 3, .int .i64 (lessN s a : Nat), .string { data := #[] }, .int .i64 (a : Nat), .int .i64 ((a + lessN s a : Nat) : Int)]) ∧ Below w.heap.size w w' := by
  obtain ⟨k, hk⟩ : ∃ k, k = lessN s a := ⟨_, rfl⟩
  have HK : Hid (k = lessN s a) := hk
  rw [← hk]
  clear hk
  obtain ⟨W, hW⟩ : ∃ W, W = w.alloc (.cells #[.int .i64 0, .int .i64 0, .string ByteArray.empty, .int .i64 0, .int .i64 0] 110) := ⟨_, rfl⟩
  have HW : Hid (W = w.alloc (.cells #[.int .i64 0, .int .i64 0, .string ByteArray.empty, .int .i64 0, .int .i64 0] 110)) := hW
  clear hW
  go_enter Try.func76, Try.ntmps76
  go_wp2
  go_loopw [5] (fun iv wr => ∃ n : Nat, Hid (∀ j, 1 ≤ j → j < n → bt s (a + j) = 60) ∧ 1 ≤ n ∧ n ≤ 3 ∧ iv = .int .i64 (n : Nat) ∧ wr = W) (fun iv _ => 3 - (intOf iv).toNat)
  case atStart => exact ⟨1, fun j h1 h2 => by omega, by omega, by omega, rfl, HW.out.symm⟩
  case round =>
    obtain ⟨n, HN, hn1, hn3, rfl, hw⟩ := hrel
    obtain rfl := hw.symm
    clear hw
    have HR : Hid (W.rowIs w.heap.size 110 5 tok0) := by show World.rowIs _ _ _ _ _; rw [HW.out]; exact row_new _ _ _ 5 rfl
    have HB : Hid (Below w.heap.size w W) := by show Below _ _ _; rw [HW.out]; exact below_one _
    obtain ⟨⟨c0, c1, c2, c3, c4⟩, f0, f1, f2, f3, f4⟩ := row5F HR.out
    by_cases h3 : n < 3
    · by_cases hlt : a + n < s.size
      · have hbi := bt_in hlt
        obtain ⟨x, hx⟩ : ∃ x, x = bt s (a + n) := ⟨_, rfl⟩
        have hxs : ((s[a + n]'hlt).toNat : Int) = x := by rw [hx, hbi]
        have q1 : ((a : Int) + n).toNat = a + n := by omega
        have q2 : (a : Int) + n < (s.size : Int) := by omega
        have q3 : (0 : Int) ≤ (a : Int) + n := by omega
        by_cases h60 : x = 60
        · have HN' : Hid (∀ j, 1 ≤ j → j < n + 1 → bt s (a + j) = 60) := fun j h1 h2 => by
            by_cases e : j = n
            · rw [e]; omega
            · exact HN.out j h1 (by omega)
          subst h60
          clear hbi hx c0 c1 c2 c3 c4 f0 f1 f2 f3 f4
          go_wp2
          go_roundw
          case rel => exact ⟨n + 1, HN', by omega, by omega, by go_num, by trivial⟩
          case measure => simp [intOf]; omega
        · have HE : Hid (k = n) := by
            show _ = _
            rw [HK.out]
            unfold lessN
            have : n = 1 ∨ n = 2 := by omega
            rcases this with rfl | rfl
            · rw [if_neg (by omega)]
            · rw [if_pos (HN.out 1 (by omega) (by omega)), if_neg (by omega)]
          have h60' : ((x : Int) == 60) = false := beq_eq_false_iff_ne.2 (by omega)
          clear hbi hx h60
          go_wp2
          exact fin5 rfl (by rfl) HR.out Try.underlying110 rfl sizeTokC HB.out (Nat.le_refl _) (by rw [HE.out] <;> simp)
      · have HE : Hid (k = n) := by
          show _ = _
          rw [HK.out]
          unfold lessN
          have h0 := bt_out (s := s) (p := a + n) (by omega)
          have : n = 1 ∨ n = 2 := by omega
          rcases this with rfl | rfl
          · rw [if_neg (by omega)]
          · rw [if_pos (HN.out 1 (by omega) (by omega)), if_neg (by omega)]
        have q2 : (s.size : Int) ≤ (a : Int) + n := by omega
        go_wp2
        exact fin5 rfl (by rfl) HR.out Try.underlying110 rfl sizeTokC HB.out (Nat.le_refl _) (by rw [HE.out] <;> simp)
    · have hn : n = 3 := by omega
      subst hn
      have HE : Hid (k = 3) := by
        show _ = _
        rw [HK.out]
        unfold lessN
        rw [if_pos (HN.out 1 (by omega) (by omega)), if_pos (HN.out 2 (by omega) (by omega))]
      go_wp2
      exact fin5 rfl (by rfl) HR.out Try.underlying110 rfl sizeTokC HB.out (Nat.le_refl _) (by rw [HE.out] <;> simp)

set_option maxRecDepth 100000 in
set_option maxHeartbeats 1000000 in
theorem beforeAt_any (s : ByteArray) (a : Nat) (w : World) (hs : s.size ≤ 1000) (ha : a < s.size) :
    Calls Try.prog 77 #[.string s, .int .i64 (a : Nat)] w fun e w' => e = .returned (.agg #[.int .i64 ((if befN s a = 0 then 0 else 2 : Nat) : Int), .int .i64 (befN s a : Nat), .string { data := #[] }, .int .i64 (a : Nat), .int .i64 ((if befN s a = 0 then 0 else a + 10 : Nat) : Int)]) ∧ Below w.heap.size w w' := by
  obtain ⟨k, hk⟩ : ∃ k, k = befN s a := ⟨_, rfl⟩
  have HK : Hid (k = befN s a) := hk
  rw [← hk]
  clear hk
  obtain ⟨kd, hkd⟩ : ∃ x, x = (if k = 0 then 0 else 2 : Nat) := ⟨_, rfl⟩
  obtain ⟨kf, hkf⟩ : ∃ x, x = (if k = 0 then 0 else a + 10 : Nat) := ⟨_, rfl⟩
  have HKD : Hid (kd = (if k = 0 then 0 else 2 : Nat) ∧ kf = (if k = 0 then 0 else a + 10 : Nat)) := ⟨hkd, hkf⟩
  rw [← hkd, ← hkf]
  clear hkd hkf
  obtain ⟨W, hW⟩ : ∃ W, W = w.alloc (.cells #[.int .i64 0, .int .i64 0, .string ByteArray.empty, .int .i64 0, .int .i64 0] 110) := ⟨_, rfl⟩
  have HW : Hid (W = w.alloc (.cells #[.int .i64 0, .int .i64 0, .string ByteArray.empty, .int .i64 0, .int .i64 0] 110)) := hW
  clear hW
  go_enter Try.func77, Try.ntmps77
  go_wp2
  go_loopw [5] (fun iv wr => ∃ n : Nat, Hid (∀ j, 1 ≤ j → j < n → ¬ hasB s a (strOfNums (beN j))) ∧ 1 ≤ n ∧ n ≤ 4 ∧ iv = .int .i64 (n : Nat) ∧ wr = W) (fun iv _ => 4 - (intOf iv).toNat)
  case atStart => exact ⟨1, fun j h1 h2 => by omega, by omega, by omega, rfl, HW.out.symm⟩
  case round =>
    obtain ⟨n, HN, hn1, hn4, rfl, hw⟩ := hrel
    obtain rfl := hw.symm
    clear hw
    have HR : Hid (W.rowIs w.heap.size 110 5 tok0) := by show World.rowIs _ _ _ _ _; rw [HW.out]; exact row_new _ _ _ 5 rfl
    have HB : Hid (Below w.heap.size w W) := by show Below _ _ _; rw [HW.out]; exact below_one _
    obtain ⟨⟨c0, c1, c2, c3, c4⟩, f0, f1, f2, f3, f4⟩ := row5F HR.out
    by_cases h3 : n ≤ 3
    · obtain ⟨u, hu⟩ : ∃ u, u = strOfNums (beN n) := ⟨_, rfl⟩
      have HU : Hid (u.size = 10) := by show _ = _; rw [hu, strOfNums_size]; have : n = 1 ∨ n = 2 ∨ n = 3 := by omega
                                        rcases this with rfl | rfl | rfl <;> rfl
      have hul : u.size ≤ 10 := by rw [HU.out]; exact Nat.le_refl _
      have HC : Hid (∀ wz, Calls Try.prog 63 #[.int .i64 (n : Nat)] wz fun e w' => e = .returned (.string u) ∧ w' = wz) := fun wz => by rw [hu]; exact beforeSign_any n wz h3
      by_cases hh : hasB s a u
      · have HE : Hid (k = n) := by
          show _ = _
          rw [HK.out]
          unfold befN
          rw [hu] at hh
          have : n = 1 ∨ n = 2 ∨ n = 3 := by omega
          rcases this with rfl | rfl | rfl
          · rw [if_pos hh]
          · rw [if_neg (HN.out 1 (by omega) (by omega)), if_pos hh]
          · rw [if_neg (HN.out 1 (by omega) (by omega)), if_neg (HN.out 2 (by omega) (by omega)), if_pos hh]
        obtain ⟨h1, h2⟩ := hh
        have e3 : ((s.extract a (a + u.size)).toList == u.toList) = true := by
          have : s.extract a (a + u.size) = u := h2
          rw [this]; simp
        have HV : Hid (kd = 2 ∧ kf = a + u.size) := by
          show _ ∧ _
          rw [HKD.out.1, HKD.out.2, HE.out, if_neg (by omega), if_neg (by omega), HU.out]
          exact ⟨rfl, rfl⟩
        clear hu h2
        go_wp2_with fail
        refine (HC.out _).mono ?_
        rintro e w1 ⟨rfl, hw1⟩
        obtain rfl := hw1.symm
        go_wp2
        exact fin5 rfl (by rfl) HR.out Try.underlying110 rfl sizeTokC HB.out (Nat.le_refl _) (by rw [HV.out.1, HV.out.2, HE.out]; simp)
      · have HN' : Hid (∀ j, 1 ≤ j → j < n + 1 → ¬ hasB s a (strOfNums (beN j))) := fun j h1 h2 => by
          by_cases e : j = n
          · rw [e, ← hu]; exact hh
          · exact HN.out j h1 (by omega)
        by_cases h1 : a + u.size ≤ s.size
        · have e3 : ((s.extract a (a + u.size)).toList == u.toList) = false := by
            rw [beq_eq_false_iff_ne]
            intro h
            exact hh ⟨h1, bytes_eq.1 h⟩
          clear hu hh c0 c1 c2 c3 c4 f0 f1 f2 f3 f4
          go_wp2_with fail
          refine (HC.out _).mono ?_
          rintro e w1 ⟨rfl, hw1⟩
          obtain rfl := hw1.symm
          go_wp2
          go_roundw
          case rel => exact ⟨n + 1, HN', by omega, by omega, by go_num, by trivial⟩
          case measure => simp [intOf]; omega
        · clear hu hh c0 c1 c2 c3 c4 f0 f1 f2 f3 f4
          have q2 : (s.size : Int) < (a : Int) + u.size := by omega
          go_wp2_with fail
          refine (HC.out _).mono ?_
          rintro e w1 ⟨rfl, hw1⟩
          obtain rfl := hw1.symm
          go_wp2
          go_roundw
          case rel => exact ⟨n + 1, HN', by omega, by omega, by go_num, by trivial⟩
          case measure => simp [intOf]; omega
    · have hn : n = 4 := by omega
      subst hn
      have HE : Hid (k = 0) := by
        show _ = _
        rw [HK.out]
        unfold befN
        rw [if_neg (HN.out 1 (by omega) (by omega)), if_neg (HN.out 2 (by omega) (by omega)), if_neg (HN.out 3 (by omega) (by omega))]
      have HV : Hid (kd = 0 ∧ kf = 0) := by
        show _ ∧ _
        rw [HKD.out.1, HKD.out.2, HE.out]
        exact ⟨rfl, rfl⟩
      go_wp2
      exact fin5 rfl (by rfl) HR.out Try.underlying110 rfl sizeTokC HB.out (Nat.le_refl _) (by rw [HV.out.1, HV.out.2, HE.out]; rfl)

end Go.Proofs.Ytpclldccjpncdaa
