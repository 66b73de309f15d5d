import Derived.Test.YtpclldccjpncdabGreatM13
namespace Go.Proofs.YtpclldccjpncdabGreat
open Go.RowKit

set_option maxRecDepth 100000 in
set_option maxHeartbeats 1000000 in
theorem needsBackslash_any (c : Int) (w : World) : Calls Tryz.prog 124 #[.int .u8 c] w fun e w' => e = .returned (.bool (sp c)) ∧ w' = w := by
  by_cases h1 : c = 32
  · subst h1
    go_enter Tryz.func124, Tryz.ntmps124
    go_wp2
    go_ret
    exact ⟨rfl, rfl⟩
  by_cases h2 : c = 38
  · subst h2
    go_enter Tryz.func124, Tryz.ntmps124
    go_wp2
    go_ret
    exact ⟨rfl, rfl⟩
  by_cases h3 : c = 60
  · subst h3
    go_enter Tryz.func124, Tryz.ntmps124
    go_wp2
    go_ret
    exact ⟨rfl, rfl⟩
  by_cases h4 : c = 61
  · subst h4
    go_enter Tryz.func124, Tryz.ntmps124
    go_wp2
    go_ret
    exact ⟨rfl, rfl⟩
  by_cases h5 : c = 47
  · subst h5
    go_enter Tryz.func124, Tryz.ntmps124
    go_wp2
    go_ret
    exact ⟨rfl, rfl⟩
  by_cases h6 : c = 91
  · subst h6
    go_enter Tryz.func124, Tryz.ntmps124
    go_wp2
    go_ret
    exact ⟨rfl, rfl⟩
  by_cases h7 : c = 93
  · subst h7
    go_enter Tryz.func124, Tryz.ntmps124
    go_wp2
    go_ret
    exact ⟨rfl, rfl⟩
  by_cases h8 : c = 92
  · subst h8
    go_enter Tryz.func124, Tryz.ntmps124
    go_wp2
    go_ret
    exact ⟨rfl, rfl⟩
  have HS : Hid (sp c = false) := by show _ = _; simp [sp, sgl]; omega
  have e1 := beq_eq_false_iff_ne.2 h1
  have e2 := beq_eq_false_iff_ne.2 h2
  have e3 := beq_eq_false_iff_ne.2 h3
  have e4 := beq_eq_false_iff_ne.2 h4
  have e5 := beq_eq_false_iff_ne.2 h5
  have e6 := beq_eq_false_iff_ne.2 h6
  have e7 := beq_eq_false_iff_ne.2 h7
  have e8 := beq_eq_false_iff_ne.2 h8
  clear h1 h2 h3 h4 h5 h6 h7 h8
  go_enter Tryz.func124, Tryz.ntmps124
  go_wp2
  go_ret
  exact ⟨by rw [HS.out]; rfl, rfl⟩

set_option maxRecDepth 100000 in
set_option maxHeartbeats 1000000 in
theorem partText_any (s : ByteArray) (w : World) (hs : s.size ≤ 1000) :
    Calls Tryz.prog 109 #[.string s] w fun e w' => e = .returned (.string (strOfNums (quo (blC s)))) ∧ Below w.heap.size w w' := by
  obtain ⟨i0, hi0, hq0, hq1, hq2⟩ := info_parts infoByteC
  go_enter Tryz.func109, Tryz.ntmps109
  go_wp2
  go_loopw [3, 4] (fun v iv wr => ∃ (i : Nat) (us : List Int), Hid (us = quo ((blC s).take i)) ∧ i ≤ s.size ∧ iv = .int .i64 (i : Nat) ∧ Below w.heap.size w wr ∧ wr.ownsRow w.heap.size 5 1 v us.length (us.map (Value.int .u8))) (fun _ iv _ => s.size - (intOf iv).toNat)
  case atStart => exact ⟨0, [], rfl, Nat.zero_le _, rfl, Below.refl _ _, World.ownsRow_nil _ _ _ _⟩
  case round =>
    obtain ⟨i, us, HUS, hi, rfl, hbel, hown⟩ := hrel
    have HOW : Hid (wr.ownsRow w.heap.size 5 1 _ us.length (us.map (Value.int .u8))) := hown
    have hul : us.length ≤ 2000 := by
      have := quo_len ((blC s).take i)
      rw [HUS.out]
      have h2 := List.length_take_le i (blC s)
      omega
    clear hown
    have hsz := hbel.size
    by_cases hlt : i < s.size
    · obtain ⟨x, hx⟩ : ∃ x : Nat, x = (s[i]'hlt).toNat := ⟨_, rfl⟩
      have hxs : ((s[i]'hlt).toNat : Int) = x := by rw [hx]
      have hxb : x ≤ 255 := by rw [hx]; have := UInt8.toNat_lt (s[i]'hlt); omega
      have HTK : Hid ((blC s).take (i + 1) = (blC s).take i ++ [(x : Int)]) := by show _ = _; rw [blC_take s i hlt, hxs]
      clear hx
      by_cases hsp : sp x = true
      · have HUN : Hid (us ++ [92] ++ [(x : Int)] = quo ((blC s).take (i + 1))) := by show _ = _; rw [HTK.out, quo_snoc, if_pos hsp, HUS.out]; simp
        go_wp2_with fail
        refine (needsBackslash_any x _).mono ?_
        rintro e w1 ⟨rfl, hw1⟩
        obtain rfl := hw1.symm
        rw [hsp]
        go_wp2_with (first
          | (at_builtin; refine wpList_append_lies _ (by rfl) (.tmp 15) (.tmp 16) 73 (by rfl) w.heap.size 5 i0 (.int .u8 0) 1 1 Tryz.underlying73 hi0 hq0 hq1 hq2 rfl (by omega) _ us.length _ (by rfl) (HOW.out.alloc _) ⟨wr.heap.size, 0, none⟩ 1 1 [.int .u8 92] (by rfl) (by rfl) ?c1 ?c2 (by omega) ?c3 ?c5 ?c4 (wr.heap.size + 1) (by simp) ?_))
        case c1 => exact cell_one_new _ _ _
        case c2 => intro u hu; simp at hu; subst hu; rfl
        case c3 => unfold maxLen; omega
        case c5 => omega
        case c4 => simp; omega
        · intro g2 cap2 w2 hown2 hgrow2 _ _
          have HB2 : Hid (Below w.heap.size w w2) := ownC_grown_below (hbel.alloc hsz _) (by simp; omega) (HOW.out.alloc _) (Nat.le_refl _) hgrow2
          have HO2 : Hid (w2.ownsRow w.heap.size 5 1 (.slice (some ⟨g2, 0, none⟩) (us.length + 1) cap2) (us ++ [92]).length ((us ++ [92]).map (Value.int .u8))) := by
            show _
            rw [List.length_append, List.map_append]
            exact hown2
          obtain ⟨us2, hus2⟩ : ∃ x : List Int, x = us ++ [92] := ⟨_, rfl⟩
          rw [← hus2] at HO2 HUN
          have hu2l : us2.length = us.length + 1 := by rw [hus2]; simp
          have hz2 := hgrow2.size
          simp at hz2
          rw [← hu2l] at HO2 ⊢
          have hul2 : us2.length ≤ 2001 := by omega
          clear hown2 hgrow2 hus2 hu2l
          go_wp2_with (first
            | (at_builtin; refine wpList_append_lies _ (by rfl) (.tmp 18) (.tmp 22) 73 (by rfl) w.heap.size 5 i0 (.int .u8 0) 1 1 Tryz.underlying73 hi0 hq0 hq1 hq2 rfl (by omega) _ us2.length _ (by rfl) (HO2.out.alloc _) ⟨w2.heap.size, 0, none⟩ 1 1 [.int .u8 x] (by rfl) (by rfl) ?d1 ?d2 (by omega) ?d3 ?d5 ?d4 (w2.heap.size + 1) (by simp) ?_))
          case d1 => exact cell_one_new _ _ _
          case d2 => intro u hu; simp at hu; subst hu; rfl
          case d3 => unfold maxLen; omega
          case d5 => omega
          case d4 => simp; omega
          · intro g3 cap3 w3 hown3 hgrow3 _ _
            have HB3 : Hid (Below w.heap.size w w3) := ownC_grown_below (below_then HB2.out (below_one _)) (by simp; omega) (HO2.out.alloc _) (Nat.le_refl _) hgrow3
            have HO3 : Hid (w3.ownsRow w.heap.size 5 1 (.slice (some ⟨g3, 0, none⟩) (us2.length + 1) cap3) (us2 ++ [(x : Int)]).length ((us2 ++ [(x : Int)]).map (Value.int .u8))) := by
              show _
              rw [List.length_append, List.map_append]
              exact hown3
            clear hown3 hgrow3
            go_wp2
            go_roundw
            case rel => exact ⟨i + 1, us2 ++ [(x : Int)], HUN.out, by omega, by go_num, HB3.out, HO3.out⟩
            case measure => simp [intOf]; omega
      · have hsp' : sp x = false := by simpa using hsp
        have HUN : Hid (us ++ [(x : Int)] = quo ((blC s).take (i + 1))) := by show _ = _; rw [HTK.out, quo_snoc, if_neg hsp, HUS.out]
        clear hsp
        go_wp2_with fail
        refine (needsBackslash_any x _).mono ?_
        rintro e w1 ⟨rfl, hw1⟩
        obtain rfl := hw1.symm
        rw [hsp']
        go_wp2_with (first
          | (at_builtin; refine wpList_append_lies _ (by rfl) (.tmp 18) (.tmp 22) 73 (by rfl) w.heap.size 5 i0 (.int .u8 0) 1 1 Tryz.underlying73 hi0 hq0 hq1 hq2 rfl (by omega) _ us.length _ (by rfl) (HOW.out.alloc _) ⟨wr.heap.size, 0, none⟩ 1 1 [.int .u8 x] (by rfl) (by rfl) ?d1 ?d2 (by omega) ?d3 ?d5 ?d4 (wr.heap.size + 1) (by simp) ?_))
        case d1 => exact cell_one_new _ _ _
        case d2 => intro u hu; simp at hu; subst hu; rfl
        case d3 => unfold maxLen; omega
        case d5 => omega
        case d4 => simp; omega
        · intro g3 cap3 w3 hown3 hgrow3 _ _
          have HB3 : Hid (Below w.heap.size w w3) := ownC_grown_below (hbel.alloc hsz _) (by simp; omega) (HOW.out.alloc _) (Nat.le_refl _) hgrow3
          have HO3 : Hid (w3.ownsRow w.heap.size 5 1 (.slice (some ⟨g3, 0, none⟩) (us.length + 1) cap3) (us ++ [(x : Int)]).length ((us ++ [(x : Int)]).map (Value.int .u8))) := by
            show _
            rw [List.length_append, List.map_append]
            exact hown3
          clear hown3 hgrow3
          go_wp2
          go_roundw
          case rel => exact ⟨i + 1, us ++ [(x : Int)], HUN.out, by omega, by go_num, HB3.out, HO3.out⟩
          case measure => simp [intOf]; omega
    · have hie : i = s.size := by omega
      subst hie
      obtain ⟨vo9, vc9, hv9, hcv⟩ := convC HOW.out
      subst hv9
      have HE : Hid (us = quo (blC s)) := by
        show _ = _
        rw [HUS.out, List.take_of_length_le (by rw [blC_len]; exact Nat.le_refl _)]
      go_wp2
      go_ret
      exact ⟨by rw [← HE.out]; rfl, hbel⟩

theorem beforeSign_any (n : Nat) (w : World) (hn : n ≤ 3) : Calls Tryz.prog 110 #[.int .i64 (n : Nat)] w fun e w' => e = .returned (.string (strOfNums (beN n))) ∧ w' = w := by
  have : n = 0 ∨ n = 1 ∨ n = 2 ∨ n = 3 := by omega
  rcases this with rfl | rfl | rfl | rfl
  all_goals
    go_enter Tryz.func110, Tryz.ntmps110
    go_wp2
    go_ret
    exact ⟨rfl, rfl⟩
theorem relationSign_any (n : Nat) (w : World) (hn : n ≤ 3) : Calls Tryz.prog 108 #[.int .i64 (n : Nat)] w fun e w' => e = .returned (.string (strOfNums (sgN n))) ∧ w' = w := by
  have : n = 0 ∨ n = 1 ∨ n = 2 ∨ n = 3 := by omega
  rcases this with rfl | rfl | rfl | rfl
  all_goals
    go_enter Tryz.func108, Tryz.ntmps108
    go_wp2
    go_ret
    exact ⟨rfl, rfl⟩

set_option maxRecDepth 100000 in
set_option maxHeartbeats 1000000 in
theorem ruleIsRule_any (x : Rl) (w : World) (hs : x.reset.size ≤ 140737488351232 ∧ x.text.size ≤ 140737488351232 ∧ x.more.size ≤ 140737488351232) :
    Calls Tryz.prog 107 #[.agg #[.string x.reset, .int .i64 x.before, .int .i64 x.level, .string x.text, .string x.more]] w fun e w' => e = .returned (.bool (decide x.ok)) ∧ Below w.heap.size w w' := by
  obtain ⟨reset, before, level, text, more⟩ := x
  simp only at hs ⊢
  obtain ⟨h1, h2, h3⟩ := hs
  by_cases a1 : text.size = 0
  · have HV : Hid (decide (Rl.ok ⟨reset, before, level, text, more⟩) = false) := by show _ = _; simp [Rl.ok]; omega
    have a1' : ((text.size : Int) == 0) = true := by simp [a1]
    clear a1
    go_enter Tryz.func107, Tryz.ntmps107
    go_wp2
    go_ret
    exact ⟨by rw [HV.out]; rfl, below_one _⟩
  have a1' : ((text.size : Int) == 0) = false := beq_eq_false_iff_ne.2 (by omega)
  by_cases a2 : 3 < text.size
  · have HV : Hid (decide (Rl.ok ⟨reset, before, level, text, more⟩) = false) := by show _ = _; simp [Rl.ok]; omega
    clear a1
    go_enter Tryz.func107, Tryz.ntmps107
    go_wp2
    go_ret
    exact ⟨by rw [HV.out]; rfl, below_one _⟩
  by_cases a3 : 6 < more.size
  · have HV : Hid (decide (Rl.ok ⟨reset, before, level, text, more⟩) = false) := by show _ = _; simp [Rl.ok]; omega
    clear a1
    go_enter Tryz.func107, Tryz.ntmps107
    go_wp2
    go_ret
    exact ⟨by rw [HV.out]; rfl, below_one _⟩
  by_cases a4 : 6 < reset.size
  · have HV : Hid (decide (Rl.ok ⟨reset, before, level, text, more⟩) = false) := by show _ = _; simp [Rl.ok]; omega
    clear a1
    go_enter Tryz.func107, Tryz.ntmps107
    go_wp2
    go_ret
    exact ⟨by rw [HV.out]; rfl, below_one _⟩
  by_cases a5 : level < 0
  · have HV : Hid (decide (Rl.ok ⟨reset, before, level, text, more⟩) = false) := by show _ = _; simp [Rl.ok]; omega
    clear a1
    go_enter Tryz.func107, Tryz.ntmps107
    go_wp2
    go_ret
    exact ⟨by rw [HV.out]; rfl, below_one _⟩
  by_cases a6 : 3 < level
  · have HV : Hid (decide (Rl.ok ⟨reset, before, level, text, more⟩) = false) := by show _ = _; simp [Rl.ok]; omega
    clear a1
    go_enter Tryz.func107, Tryz.ntmps107
    go_wp2
    go_ret
    exact ⟨by rw [HV.out]; rfl, below_one _⟩
  by_cases a7 : before < 0
  · have HV : Hid (decide (Rl.ok ⟨reset, before, level, text, more⟩) = false) := by show _ = _; simp [Rl.ok]; omega
    clear a1
    go_enter Tryz.func107, Tryz.ntmps107
    go_wp2
    go_ret
    exact ⟨by rw [HV.out]; rfl, below_one _⟩
  by_cases a8 : 3 < before
  · have HV : Hid (decide (Rl.ok ⟨reset, before, level, text, more⟩) = false) := by show _ = _; simp [Rl.ok]; omega
    clear a1
    go_enter Tryz.func107, Tryz.ntmps107
    go_wp2
    go_ret
    exact ⟨by rw [HV.out]; rfl, below_one _⟩
  by_cases a9 : before = 0
  · have HV : Hid (decide (Rl.ok ⟨reset, before, level, text, more⟩) = true) := by show _ = _; simp [Rl.ok]; omega
    subst a9
    clear a1
    go_enter Tryz.func107, Tryz.ntmps107
    go_wp2
    go_ret
    exact ⟨by rw [HV.out]; rfl, below_one _⟩
  · have a9' : (before == 0) = false := beq_eq_false_iff_ne.2 a9
    by_cases b1 : reset.size = 0
    · have HV : Hid (decide (Rl.ok ⟨reset, before, level, text, more⟩) = false) := decide_eq_false (fun h => by obtain ⟨_, _, _, _, _, h6⟩ := h; simp only at h6; omega)
      have b2 : reset.toList.isEmpty = true := by rw [empty_iff]; simp [b1]
      clear a9 a1
      go_enter Tryz.func107, Tryz.ntmps107
      go_wp2
      go_ret
      exact ⟨by rw [HV.out]; rfl, below_one _⟩
    · have HV : Hid (decide (Rl.ok ⟨reset, before, level, text, more⟩) = true) := decide_eq_true ⟨⟨by show _ ≤ text.size; omega, by show text.size ≤ _; omega⟩, by show more.size ≤ _; omega, by show reset.size ≤ _; omega, ⟨by show _ ≤ level; omega, by show level ≤ _; omega⟩, ⟨by show _ ≤ before; omega, by show before ≤ _; omega⟩, .inr b1⟩
      have b2 : reset.toList.isEmpty = false := by rw [empty_iff]; simp [b1]
      clear a9 a1
      go_enter Tryz.func107, Tryz.ntmps107
      go_wp2
      go_ret
      exact ⟨by rw [HV.out]; rfl, below_one _⟩

end Go.Proofs.YtpclldccjpncdabGreat

namespace Go.Proofs.YtpclldccjpncdabGreat
open Go.RowKit

theorem sizeTokC : (Tryz.prog.info? 160).map (·.size) = some 5 := by kernel_rfl
theorem row5C {w : World} {b : Nat} {t : TypeId} {f : Nat → Value} (h : w.rowIs b t 5 f) : w.heap[b]? = some (.cells #[f 0, f 1, f 2, f 3, f 4] t (0, 0)) := by
  obtain ⟨c, hc, hs, hf⟩ := h
  rw [hc]
  have : c = #[f 0, f 1, f 2, f 3, f 4] := by
    apply Array.ext_getElem?
    intro i
    match i with
    | 0 => rw [hf 0 (by omega)]; rfl
    | 1 => rw [hf 1 (by omega)]; rfl
    | 2 => rw [hf 2 (by omega)]; rfl
    | 3 => rw [hf 3 (by omega)]; rfl
    | 4 => rw [hf 4 (by omega)]; rfl
    | j + 5 => rw [Array.getElem?_eq_none (by omega)]; rfl
  rw [this]
/-- a result of five cells -/
theorem res5 {w : World} {P : Program} {fn : Func} {p : Tmp} {ty : TypeId} (h : fn.results = #[.cell p ty]) (tmps : Array Value) (g : Nat) (f : Nat → Value) (d : TypeDesc)
    (hp : tmps.getD p undef = .pointer (some ⟨g, 0, none⟩)) (hg : w.rowIs g ty 5 f)
    (hu : P.underlying ty = some d) (hd : (match d with | .struct _ | .array _ _ => true | _ => false) = true) (hi : (P.info? ty).map (·.size) = some 5) :
    (results fn tmps).run P w = .ok (.agg #[f 0, f 1, f 2, f 3, f 4]) w :=
  results_cell_row h tmps w g ty _ (0, 0) d hp (row5C hg) hu hd hi
theorem res53 {w : World} {P : Program} {fn : Func} {p u v : Tmp} {ty : TypeId} (h : fn.results = #[.cell p ty, .tmp u, .tmp v]) (tmps : Array Value) (g : Nat) (f : Nat → Value) (d : TypeDesc)
    (hp : tmps.getD p undef = .pointer (some ⟨g, 0, none⟩)) (hg : w.rowIs g ty 5 f)
    (hu : P.underlying ty = some d) (hd : (match d with | .struct _ | .array _ _ => true | _ => false) = true) (hi : (P.info? ty).map (·.size) = some 5) :
    (results fn tmps).run P w = .ok (.tuple #[.agg #[f 0, f 1, f 2, f 3, f 4], tmps.getD u undef, tmps.getD v undef]) w := by
  have hp' : tmps[p]?.getD undef = .pointer (some ⟨g, 0, none⟩) := by simpa using hp
  simp [results, h, hp', asAddr, run_loadVar_row w g ty ty #[f 0, f 1, f 2, f 3, f 4] (0, 0) d (row5C hg) hu hd hi]

theorem row5F {w : World} {g : Nat} {t : TypeId} {f : Nat → Value} (h : w.rowIs g t 5 f) : (w.cell? ⟨g, 0, none⟩ = some (f 0) ∧ w.cell? ⟨g, 1, none⟩ = some (f 1) ∧ w.cell? ⟨g, 2, none⟩ = some (f 2) ∧ w.cell? ⟨g, 3, none⟩ = some (f 3) ∧ w.cell? ⟨g, 4, none⟩ = some (f 4)) ∧ (w.frozen? ⟨g, 0, none⟩ = false ∧ w.frozen? ⟨g, 1, none⟩ = false ∧ w.frozen? ⟨g, 2, none⟩ = false ∧ w.frozen? ⟨g, 3, none⟩ = false ∧ w.frozen? ⟨g, 4, none⟩ = false) :=
  ⟨⟨World.rowIs.cell h (i := 0) (by omega), World.rowIs.cell h (i := 1) (by omega), World.rowIs.cell h (i := 2) (by omega), World.rowIs.cell h (i := 3) (by omega), World.rowIs.cell h (i := 4) (by omega)⟩, World.rowIs.frozen h 0, World.rowIs.frozen h 1, World.rowIs.frozen h 2, World.rowIs.frozen h 3, World.rowIs.frozen h 4⟩
/-- five cells written, one behind the other -/
def set5 (W : World) (g : Nat) (v0 v1 v2 v3 v4 : Value) : World := ((((W.setCell ⟨g, 0, none⟩ v0).setCell ⟨g, 1, none⟩ v1).setCell ⟨g, 2, none⟩ v2).setCell ⟨g, 3, none⟩ v3).setCell ⟨g, 4, none⟩ v4
theorem set5_only (W : World) (g : Nat) (v0 v1 v2 v3 v4 : Value) : OnlyRow g W (set5 W g v0 v1 v2 v3 v4) :=
  ((((OnlyRow.setCell _ _ _ _).trans (OnlyRow.setCell _ _ _ _)).trans (OnlyRow.setCell _ _ _ _)).trans (OnlyRow.setCell _ _ _ _)).trans (OnlyRow.setCell _ _ _ _)
theorem fin5 {P : Program} {fn : Func} {p : Tmp} {ty : TypeId} {w0 W : World} {B g : Nat} {f : Nat → Value} {v0 v1 v2 v3 v4 v : Value} {d : TypeDesc} {tmps : Array Value} (h : fn.results = #[.cell p ty]) (hp : tmps.getD p undef = .pointer (some ⟨g, 0, none⟩)) (hg : W.rowIs g ty 5 f)
    (hu : P.underlying ty = some d) (hd : (match d with | .struct _ | .array _ _ => true | _ => false) = true) (hi : (P.info? ty).map (·.size) = some 5) (hb : Below B w0 W) (hB : B ≤ g) (hv : v = .agg #[v0, v1, v2, v3, v4]) :
    bodyPost P fn (fun e w' => e = .returned v ∧ Below B w0 w') Exit.ret { tmps := tmps, defers := [] } (set5 W g v0 v1 v2 v3 v4) := by
  have := res5 (P := P) h tmps g _ d hp (((((hg.set 0 v0).set 1 v1).set 2 v2).set 3 v3).set 4 v4) hu hd hi
  exact bodyPost_ret this rfl ⟨by rw [hv]; rfl, (set5_only W g v0 v1 v2 v3 v4).below hb hB⟩
theorem fin53 {P : Program} {fn : Func} {p x y : Tmp} {ty : TypeId} {w0 W : World} {B g : Nat} {f : Nat → Value} {v0 v1 v2 v3 v4 v : Value} {d : TypeDesc} {tmps : Array Value} (h : fn.results = #[.cell p ty, .tmp x, .tmp y]) (hp : tmps.getD p undef = .pointer (some ⟨g, 0, none⟩)) (hg : W.rowIs g ty 5 f)
    (hu : P.underlying ty = some d) (hd : (match d with | .struct _ | .array _ _ => true | _ => false) = true) (hi : (P.info? ty).map (·.size) = some 5) (hb : Below B w0 W) (hB : B ≤ g) (hv : v = .tuple #[.agg #[v0, v1, v2, v3, v4], tmps.getD x undef, tmps.getD y undef]) :
    bodyPost P fn (fun e w' => e = .returned v ∧ Below B w0 w') Exit.ret { tmps := tmps, defers := [] } (set5 W g v0 v1 v2 v3 v4) := by
  have := res53 (P := P) h tmps g _ d hp (((((hg.set 0 v0).set 1 v1).set 2 v2).set 3 v3).set 4 v4) hu hd hi
  exact bodyPost_ret this rfl ⟨by rw [hv]; rfl, (set5_only W g v0 v1 v2 v3 v4).below hb hB⟩
def tok0 : Nat → Value := fun i => #[Value.int .i64 0, .int .i64 0, .string ByteArray.empty, .int .i64 0, .int .i64 0].getD i undef

set_option maxRecDepth 100000 in
set_option maxHeartbeats 1000000 in
theorem behindSpaces_any (s : ByteArray) (i : Nat) (w : World) (hs : s.size ≤ 140737488351232) (hi : i ≤ s.size) :
    Calls Tryz.prog 78 #[.string s, .int .i64 (i : Nat)] w fun e w' => e = .returned (.int .i64 (skp s i : Nat)) ∧ w' = w := by
  obtain ⟨k, hk⟩ : ∃ k, k = skp s i := ⟨_, rfl⟩
  have HK : Hid (k = skp s i) := hk
  rw [← hk]
  clear hk
  go_enter Tryz.func78, Tryz.ntmps78
  go_wp2
  go_loopw [5] (fun iv wr => ∃ j : Nat, Hid (k = skp s j) ∧ j ≤ s.size ∧ iv = .int .i64 (j : Nat) ∧ wr = w) (fun iv _ => s.size - (intOf iv).toNat)
  case atStart => exact ⟨i, HK, hi, rfl, rfl⟩
  case round =>
    obtain ⟨j, HJ, hj, rfl, hw⟩ := hrel
    obtain rfl := hw.symm
    clear hw
    by_cases hlt : j < s.size
    · have hbi := bt_in hlt
      obtain ⟨x, hx⟩ : ∃ x, x = bt s j := ⟨_, rfl⟩
      have hxs : ((s[j]'hlt).toNat : Int) = x := by rw [hx, hbi]
      by_cases h32 : x = 32
      · have HN : Hid (k = skp s (j + 1)) := by show _ = _; rw [HJ.out]; exact skp_sp ⟨hlt, by omega⟩
        subst h32
        clear hbi hx
        go_wp2
        go_roundw
        case rel => exact ⟨j + 1, HN, by omega, by go_num, by trivial⟩
        case measure => simp [intOf]; omega
      · have HN : Hid (k = j) := by show _ = _; rw [HJ.out]; exact skp_no (by omega)
        have h32' : ((x : Int) == 32) = false := beq_eq_false_iff_ne.2 (by omega)
        clear hbi hx h32
        go_wp2
        go_ret
        exact ⟨by rw [HN.out]; rfl, rfl⟩
    · have HN : Hid (k = j) := by show _ = _; rw [HJ.out]; exact skp_no (by omega)
      go_wp2
      go_ret
      exact ⟨by rw [HN.out]; rfl, rfl⟩

set_option maxRecDepth 100000 in
set_option maxHeartbeats 1000000 in
theorem lessAt_any (s : ByteArray) (a : Nat) (w : World) (hs : s.size ≤ 1000) (ha : a < s.size) :
    Calls Tryz.prog 128 #[.string s, .int .i64 (a : Nat)] w fun e w' => e = .returned (.agg #[.int .i64 3, .int .i64 (lessN s a : Nat), .string { data := #[] }, .int .i64 (a : Nat), .int .i64 ((a + lessN s a : Nat) : Int)]) ∧ Below w.heap.size w w' := by
  obtain ⟨k, hk⟩ : ∃ k, k = lessN s a := ⟨_, rfl⟩
  have HK : Hid (k = lessN s a) := hk
  rw [← hk]
  clear hk
  obtain ⟨W, hW⟩ : ∃ W, W = w.alloc (.cells #[.int .i64 0, .int .i64 0, .string ByteArray.empty, .int .i64 0, .int .i64 0] 160) := ⟨_, rfl⟩
  have HW : Hid (W = w.alloc (.cells #[.int .i64 0, .int .i64 0, .string ByteArray.empty, .int .i64 0, .int .i64 0] 160)) := hW
  clear hW
  go_enter Tryz.func128, Tryz.ntmps128
  go_wp2
  go_loopw [5] (fun iv wr => ∃ n : Nat, Hid (∀ j, 1 ≤ j → j < n → bt s (a + j) = 60) ∧ 1 ≤ n ∧ n ≤ 3 ∧ iv = .int .i64 (n : Nat) ∧ wr = W) (fun iv _ => 3 - (intOf iv).toNat)
  case atStart => exact ⟨1, fun j h1 h2 => by omega, by omega, by omega, rfl, HW.out.symm⟩
  case round =>
    obtain ⟨n, HN, hn1, hn3, rfl, hw⟩ := hrel
    obtain rfl := hw.symm
    clear hw
    have HR : Hid (W.rowIs w.heap.size 160 5 tok0) := by show World.rowIs _ _ _ _ _; rw [HW.out]; exact row_new _ _ _ 5 rfl
    have HB : Hid (Below w.heap.size w W) := by show Below _ _ _; rw [HW.out]; exact below_one _
    obtain ⟨⟨c0, c1, c2, c3, c4⟩, f0, f1, f2, f3, f4⟩ := row5F HR.out
    by_cases h3 : n < 3
    · by_cases hlt : a + n < s.size
      · have hbi := bt_in hlt
        obtain ⟨x, hx⟩ : ∃ x, x = bt s (a + n) := ⟨_, rfl⟩
        have hxs : ((s[a + n]'hlt).toNat : Int) = x := by rw [hx, hbi]
        have q1 : ((a : Int) + n).toNat = a + n := by omega
        have q2 : (a : Int) + n < (s.size : Int) := by omega
        have q3 : (0 : Int) ≤ (a : Int) + n := by omega
        by_cases h60 : x = 60
        · have HN' : Hid (∀ j, 1 ≤ j → j < n + 1 → bt s (a + j) = 60) := fun j h1 h2 => by
            by_cases e : j = n
            · rw [e]; omega
            · exact HN.out j h1 (by omega)
          subst h60
          clear hbi hx c0 c1 c2 c3 c4 f0 f1 f2 f3 f4
          go_wp2
          go_roundw
          case rel => exact ⟨n + 1, HN', by omega, by omega, by go_num, by trivial⟩
          case measure => simp [intOf]; omega
        · have HE : Hid (k = n) := by
            show _ = _
            rw [HK.out]
            unfold lessN
            have : n = 1 ∨ n = 2 := by omega
            rcases this with rfl | rfl
            · rw [if_neg (by omega)]
            · rw [if_pos (HN.out 1 (by omega) (by omega)), if_neg (by omega)]
          have h60' : ((x : Int) == 60) = false := beq_eq_false_iff_ne.2 (by omega)
          clear hbi hx h60
          go_wp2
          exact fin5 rfl (by rfl) HR.out Tryz.underlying160 rfl sizeTokC HB.out (Nat.le_refl _) (by rw [HE.out] <;> simp)
      · have HE : Hid (k = n) := by
          show _ = _
          rw [HK.out]
          unfold lessN
          have h0 := bt_out (s := s) (p := a + n) (by omega)
          have : n = 1 ∨ n = 2 := by omega
          rcases this with rfl | rfl
          · rw [if_neg (by omega)]
          · rw [if_pos (HN.out 1 (by omega) (by omega)), if_neg (by omega)]
        have q2 : (s.size : Int) ≤ (a : Int) + n := by omega
        go_wp2
        exact fin5 rfl (by rfl) HR.out Tryz.underlying160 rfl sizeTokC HB.out (Nat.le_refl _) (by rw [HE.out] <;> simp)
    · have hn : n = 3 := by omega
      subst hn
      have HE : Hid (k = 3) := by
        show _ = _
        rw [HK.out]
        unfold lessN
        rw [if_pos (HN.out 1 (by omega) (by omega)), if_pos (HN.out 2 (by omega) (by omega))]
      go_wp2
      exact fin5 rfl (by rfl) HR.out Tryz.underlying160 rfl sizeTokC HB.out (Nat.le_refl _) (by rw [HE.out] <;> simp)

set_option maxRecDepth 100000 in
set_option maxHeartbeats 1000000 in
theorem beforeAt_any (s : ByteArray) (a : Nat) (w : World) (hs : s.size ≤ 1000) (ha : a < s.size) :
    Calls Tryz.prog 129 #[.string s, .int .i64 (a : Nat)] w fun e w' => e = .returned (.agg #[.int .i64 ((if befN s a = 0 then 0 else 2 : Nat) : Int), .int .i64 (befN s a : Nat), .string { data := #[] }, .int .i64 (a : Nat), .int .i64 ((if befN s a = 0 then 0 else a + 10 : Nat) : Int)]) ∧ Below w.heap.size w w' := by
  obtain ⟨k, hk⟩ : ∃ k, k = befN s a := ⟨_, rfl⟩
  have HK : Hid (k = befN s a) := hk
  rw [← hk]
  clear hk
  obtain ⟨kd, hkd⟩ : ∃ x, x = (if k = 0 then 0 else 2 : Nat) := ⟨_, rfl⟩
  obtain ⟨kf, hkf⟩ : ∃ x, x = (if k = 0 then 0 else a + 10 : Nat) := ⟨_, rfl⟩
  have HKD : Hid (kd = (if k = 0 then 0 else 2 : Nat) ∧ kf = (if k = 0 then 0 else a + 10 : Nat)) := ⟨hkd, hkf⟩
  rw [← hkd, ← hkf]
  clear hkd hkf
  obtain ⟨W, hW⟩ : ∃ W, W = w.alloc (.cells #[.int .i64 0, .int .i64 0, .string ByteArray.empty, .int .i64 0, .int .i64 0] 160) := ⟨_, rfl⟩
  have HW : Hid (W = w.alloc (.cells #[.int .i64 0, .int .i64 0, .string ByteArray.empty, .int .i64 0, .int .i64 0] 160)) := hW
  clear hW
  go_enter Tryz.func129, Tryz.ntmps129
  go_wp2
  go_loopw [5] (fun iv wr => ∃ n : Nat, Hid (∀ j, 1 ≤ j → j < n → ¬ hasB s a (strOfNums (beN j))) ∧ 1 ≤ n ∧ n ≤ 4 ∧ iv = .int .i64 (n : Nat) ∧ wr = W) (fun iv _ => 4 - (intOf iv).toNat)
  case atStart => exact ⟨1, fun j h1 h2 => by omega, by omega, by omega, rfl, HW.out.symm⟩
  case round =>
    obtain ⟨n, HN, hn1, hn4, rfl, hw⟩ := hrel
    obtain rfl := hw.symm
    clear hw
    have HR : Hid (W.rowIs w.heap.size 160 5 tok0) := by show World.rowIs _ _ _ _ _; rw [HW.out]; exact row_new _ _ _ 5 rfl
    have HB : Hid (Below w.heap.size w W) := by show Below _ _ _; rw [HW.out]; exact below_one _
    obtain ⟨⟨c0, c1, c2, c3, c4⟩, f0, f1, f2, f3, f4⟩ := row5F HR.out
    by_cases h3 : n ≤ 3
    · obtain ⟨u, hu⟩ : ∃ u, u = strOfNums (beN n) := ⟨_, rfl⟩
      have HU : Hid (u.size = 10) := by show _ = _; rw [hu, strOfNums_size]; have : n = 1 ∨ n = 2 ∨ n = 3 := by omega
                                        rcases this with rfl | rfl | rfl <;> rfl
      have hul : u.size ≤ 10 := by rw [HU.out]; exact Nat.le_refl _
      have HC : Hid (∀ wz, Calls Tryz.prog 110 #[.int .i64 (n : Nat)] wz fun e w' => e = .returned (.string u) ∧ w' = wz) := fun wz => by rw [hu]; exact beforeSign_any n wz h3
      by_cases hh : hasB s a u
      · have HE : Hid (k = n) := by
          show _ = _
          rw [HK.out]
          unfold befN
          rw [hu] at hh
          have : n = 1 ∨ n = 2 ∨ n = 3 := by omega
          rcases this with rfl | rfl | rfl
          · rw [if_pos hh]
          · rw [if_neg (HN.out 1 (by omega) (by omega)), if_pos hh]
          · rw [if_neg (HN.out 1 (by omega) (by omega)), if_neg (HN.out 2 (by omega) (by omega)), if_pos hh]
        obtain ⟨h1, h2⟩ := hh
        have e3 : ((s.extract a (a + u.size)).toList == u.toList) = true := by
          have : s.extract a (a + u.size) = u := h2
          rw [this]; simp
        have HV : Hid (kd = 2 ∧ kf = a + u.size) := by
          show _ ∧ _
          rw [HKD.out.1, HKD.out.2, HE.out, if_neg (by omega), if_neg (by omega), HU.out]
          exact ⟨rfl, rfl⟩
        clear hu h2
        go_wp2_with fail
        refine (HC.out _).mono ?_
        rintro e w1 ⟨rfl, hw1⟩
        obtain rfl := hw1.symm
        go_wp2
        exact fin5 rfl (by rfl) HR.out Tryz.underlying160 rfl sizeTokC HB.out (Nat.le_refl _) (by rw [HV.out.1, HV.out.2, HE.out]; simp)
      · have HN' : Hid (∀ j, 1 ≤ j → j < n + 1 → ¬ hasB s a (strOfNums (beN j))) := fun j h1 h2 => by
          by_cases e : j = n
          · rw [e, ← hu]; exact hh
          · exact HN.out j h1 (by omega)
        by_cases h1 : a + u.size ≤ s.size
        · have e3 : ((s.extract a (a + u.size)).toList == u.toList) = false := by
            rw [beq_eq_false_iff_ne]
            intro h
            exact hh ⟨h1, bytes_eq.1 h⟩
          clear hu hh c0 c1 c2 c3 c4 f0 f1 f2 f3 f4
          go_wp2_with fail
          refine (HC.out _).mono ?_
          rintro e w1 ⟨rfl, hw1⟩
          obtain rfl := hw1.symm
          go_wp2
          go_roundw
          case rel => exact ⟨n + 1, HN', by omega, by omega, by go_num, by trivial⟩
          case measure => simp [intOf]; omega
        · clear hu hh c0 c1 c2 c3 c4 f0 f1 f2 f3 f4
          have q2 : (s.size : Int) < (a : Int) + u.size := by omega
          go_wp2_with fail
          refine (HC.out _).mono ?_
          rintro e w1 ⟨rfl, hw1⟩
          obtain rfl := hw1.symm
          go_wp2
          go_roundw
          case rel => exact ⟨n + 1, HN', by omega, by omega, by go_num, by trivial⟩
          case measure => simp [intOf]; omega
    · have hn : n = 4 := by omega
      subst hn
      have HE : Hid (k = 0) := by
        show _ = _
        rw [HK.out]
        unfold befN
        rw [if_neg (HN.out 1 (by omega) (by omega)), if_neg (HN.out 2 (by omega) (by omega)), if_neg (HN.out 3 (by omega) (by omega))]
      have HV : Hid (kd = 0 ∧ kf = 0) := by
        show _ ∧ _
        rw [HKD.out.1, HKD.out.2, HE.out]
        exact ⟨rfl, rfl⟩
      go_wp2
      exact fin5 rfl (by rfl) HR.out Tryz.underlying160 rfl sizeTokC HB.out (Nat.le_refl _) (by rw [HV.out.1, HV.out.2, HE.out]; rfl)

end Go.Proofs.YtpclldccjpncdabGreat

namespace Go.Proofs.YtpclldccjpncdabGreat
open Go.RowKit

def wkF (la : Option Addr) (n lc : Nat) (ea : Option Addr) (m ec : Nat) (sa : Option Addr) (k sc : Nat) (an nm : Int) : Nat → Value := fun j => #[Value.slice la n lc, .slice ea m ec, .slice sa k sc, .int .i64 an, .int .i64 nm].getD j undef
def intsC (l : List Int) : List Value := l.map (Value.int .i64)
/-- the work as it lies in memory -/
structure WkA (B g : Nat) (K : Wk) (la ea sa : Option Addr) (lc ec sc : Nat) (vs : Nat → Option Addr) (cs : Nat → Nat) (w : World) : Prop where
  row : w.rowIs g 127 5 (wkF la K.ls.length lc ea K.es.length ec sa K.stem.length sc K.anchor K.names)
  base : B ≤ g
  list : w.ownsRow B 129 6 (.slice la K.ls.length lc) K.ls.length (spsC K.ls)
  ents : w.ownsRow B 63 2 (.slice ea K.es.length ec) K.es.length (entC (fun j => (K.es.getD j default).tx) (fun j => (K.es.getD j default).zs.length) vs cs K.es.length)
  ints : ∀ j, j < K.es.length → w.ownsRow B 3 1 (.slice (vs j) (K.es.getD j default).zs.length (cs j)) (K.es.getD j default).zs.length (intsC (K.es.getD j default).zs)
  stem : w.ownsRow B 3 1 (.slice sa K.stem.length sc) K.stem.length (intsC K.stem)
theorem own_far {w : World} {g n : Nat} {t : TypeId} {f : Nat → Value} (hr : w.rowIs g t n f) {base : Nat} {e : TypeId} {size : Nat} {v : Value} {m : Nat} {xs : List Value} (ho : w.ownsRow base e size v m xs) (ht : e ≠ t) : v.ownBlock ≠ some g := fun hb => by
  obtain ⟨_, h2⟩ := ho
  obtain ⟨c, hc, _⟩ := hr
  rcases h2 with ⟨rfl, _⟩ | ⟨g', cap, cur, rfl, _, hh, _⟩
  · simp [Value.ownBlock] at hb
  · simp only [Value.ownBlock, Option.some.injEq] at hb
    subst hb
    rw [hh] at hc
    cases hc
    exact ht rfl
theorem ownC_cap {w : World} {base : Nat} {e : TypeId} {size : Nat} {vo : Option Addr} {n vc : Nat} {xs : List Value} (ho : w.ownsRow base e size (.slice vo n vc) n xs) : n ≤ vc := by
  rcases ho.2 with ⟨hv, h0⟩ | ⟨g, cap, cur, hv, _, _, hnc, _⟩
  · omega
  · injection hv with _ _ h
    omega
theorem row5K {w : World} {g : Nat} {la : Option Addr} {n lc : Nat} {ea : Option Addr} {m ec : Nat} {sa : Option Addr} {k sc : Nat} {an nm : Int} (h : w.rowIs g 127 5 (wkF la n lc ea m ec sa k sc an nm)) : (w.cell? ⟨g, 0, none⟩ = some (.slice la n lc) ∧ w.cell? ⟨g, 1, none⟩ = some (.slice ea m ec) ∧ w.cell? ⟨g, 2, none⟩ = some (.slice sa k sc) ∧ w.cell? ⟨g, 3, none⟩ = some (.int .i64 an) ∧ w.cell? ⟨g, 4, none⟩ = some (.int .i64 nm)) ∧ (w.frozen? ⟨g, 0, none⟩ = false ∧ w.frozen? ⟨g, 1, none⟩ = false ∧ w.frozen? ⟨g, 2, none⟩ = false ∧ w.frozen? ⟨g, 3, none⟩ = false ∧ w.frozen? ⟨g, 4, none⟩ = false) := row5F h
theorem spsC_take (l : List Sp) (a : Nat) : spsC (l.take a) = (spsC l).take (a * 6) := by
  induction l generalizing a with
  | nil => simp [spsC]
  | cons x l ih =>
    cases a with
    | zero => simp [spsC]
    | succ a =>
      show x.cs ++ spsC (l.take a) = (x.cs ++ spsC l).take ((a + 1) * 6)
      rw [ih, List.take_append, List.take_of_length_le (l := x.cs) (by show 6 ≤ _; omega), show (a + 1) * 6 - x.cs.length = a * 6 by show _ - 6 = _; omega]
theorem spsC_drop (l : List Sp) (a : Nat) : spsC (l.drop a) = (spsC l).drop (a * 6) := by
  induction l generalizing a with
  | nil => simp [spsC]
  | cons x l ih =>
    cases a with
    | zero => simp [spsC]
    | succ a =>
      show spsC (l.drop a) = (x.cs ++ spsC l).drop ((a + 1) * 6)
      rw [ih, List.drop_append, List.drop_of_length_le (l := x.cs) (by show 6 ≤ _; omega), List.nil_append, show (a + 1) * 6 - x.cs.length = a * 6 by show _ - 6 = _; omega]
theorem hB6 (w : World) {B : Nat} (hB : w.heap.size = B) (a b c d e f : Value) (t : TypeId) : ∀ (j : Nat) (u : Value), [a, b, c, d, e, f][j]? = some u → (w.alloc (.cells #[a, b, c, d, e, f] t)).cell? ((⟨B, 0, none⟩ : Addr).add j) = some u :=
  hB ▸ World.news_of_block (cs := #[a, b, c, d, e, f]) (t := t) (fr := (0, 0)) (heap_alloc_new w _)
theorem spsC_one (l : List Sp) : ∀ u ∈ spsC l, u.oneCell' = true := fun u hu => by
  rw [spsC, List.mem_flatMap] at hu
  obtain ⟨x, _, hx⟩ := hu
  simp only [Sp.cs, List.mem_cons, List.not_mem_nil, or_false] at hx
  rcases hx with rfl | rfl | rfl | rfl | rfl | rfl <;> rfl

set_option maxRecDepth 100000 in
set_option maxHeartbeats 2000000 in
theorem put_any (B g : Nat) (K : Wk) (la ea sa : Option Addr) (lc ec sc : Nat) (vs : Nat → Option Addr) (cs : Nat → Nat) (w : World) (a : Nat) (lev : Int) (h : WkA B g K la ea sa lc ec sc vs cs w) (ha : a ≤ K.ls.length) (h0 : 0 < K.ls.length) (hn : K.ls.length ≤ 1000) (hnm : 0 ≤ K.names ∧ K.names ≤ 1000) :
    Calls Tryz.prog 93 #[.pointer (some ⟨g, 0, none⟩), .int .i64 (a : Nat), .int .i64 lev] w fun e w' => ∃ (v : Value) (la' : Option Addr) (lc' : Nat), e = .returned v ∧ Hid (WkA B g (putS K a lev) la' ea sa lc' ec sc vs cs w') ∧ Below B w w' := by
  obtain ⟨i0, hi0, hq0, hq1, hq2⟩ := info_parts infoSpC
  have HK : Hid (WkA B g K la ea sa lc ec sc vs cs w) := h
  obtain ⟨⟨c0, c1, c2, c3, c4⟩, f0, f1, f2, f3, f4⟩ := row5K h.row
  have hcap := ownC_cap h.list
  obtain ⟨vo, vc, gv, hv, hva, hvc⟩ := ownC_cells h.list
  have hvo := hva h0
  injection hv with hv1 _ hv3
  obtain ⟨hvo1, hvo2, hvo3⟩ := hvo
  rw [← hv1] at hvo1
  subst hvo1
  obtain ⟨n, hnn⟩ : ∃ n, n = K.ls.length := ⟨_, rfl⟩
  obtain ⟨nm, hnme⟩ : ∃ n, n = K.names := ⟨_, rfl⟩
  rw [← hnn] at c0 ha h0 hn hcap
  rw [← hnme] at c4 hnm
  have hgl : g < w.heap.size := h.row.lt
  have HN1 : Hid (∀ (j : Nat) (u : Value), (spsC (K.ls.take a))[j]? = some u → w.cell? ((⟨gv, 0, none⟩ : Addr).add j) = some u) := fun j u hu => by
    rw [spsC_take, List.getElem?_take] at hu
    split at hu
    · have hj : j < K.ls.length * 6 := by omega
      have := hvc j u hj hu
      by_cases hj0 : j = 0
      · subst hj0
        simpa [Addr.add] using this
      · simpa [Addr.add, hj0] using this
    · cases hu
  have HL1 : Hid ((spsC (K.ls.take a)).length = a * 6) := by show _ = _; rw [spsC_len, List.length_take, Nat.min_eq_left (by omega)]
  clear h hva hv1 hv3
  have HVC : Hid (∀ c u, c < K.ls.length * 6 → (spsC K.ls)[c]? = some u → w.cell? ⟨gv, c, none⟩ = some u) := hvc
  clear hvc
  have HNN : Hid (n = K.ls.length ∧ nm = K.names) := ⟨hnn, hnme⟩
  clear hnn hnme
  go_enter Tryz.func93, Tryz.ntmps93
  go_wp2_with (first
    | (at_builtin; refine wpList_append_all _ (by rfl) (.tmp 7) (.tmp 13) 125 (by rfl) w.heap.size 129 i0 (.agg #[.int .i64 0, .int .i64 0, .bool false, .int .i64 0, .int .i64 0, .int .i64 0]) 6 48 Tryz.underlying125 hi0 hq0 hq1 hq2 rfl (by omega) _ 0 [] (by rfl) (World.ownsRow_nil _ _ _ _) _ ⟨gv, 0, none⟩ a lc (spsC (K.ls.take a)) (by rfl) ?a0 HL1.out HN1.out ?a1 ?a2 ?a3 (Nat.le_refl _) ?_))
  case a1 => exact spsC_one _
  case a2 => unfold maxLen; omega
  case a3 => omega
  · intro v1 w1 hown1 hgrow1
    obtain ⟨l1, lc1, hl1⟩ := ownC_shape hown1
    subst hl1
    have HB1 : Hid (Below w.heap.size w w1) := (Below.refl w.heap.size w).grown hgrow1 (Nat.le_refl _) (fun _ hr => by simp [Value.ownBlock] at hr)
    have HO1 : Hid (w1.ownsRow w.heap.size 129 6 (.slice l1 a lc1) a (spsC (K.ls.take a))) := hown1
    have hz1 := HB1.out.size
    have e0 := cellTo HB1.out c0 hgl
    have e4 := cellTo HB1.out c4 hgl
    clear hown1 hgrow1
    go_wp2_with (first
      | (at_builtin; refine wpList_append_lies _ (by rfl) (.tmp 15) (.tmp 22) 125 (by rfl) w.heap.size 129 i0 (.agg #[.int .i64 0, .int .i64 0, .bool false, .int .i64 0, .int .i64 0, .int .i64 0]) 6 48 Tryz.underlying125 hi0 hq0 hq1 hq2 rfl (by omega) _ a _ (by rfl) (HO1.out.alloc _) ⟨w1.heap.size, 0, none⟩ 1 1 [.int .i64 nm, .int .i64 lev, .bool false, .int .i64 0, .int .i64 0, .int .i64 0] (by rfl) (by rfl) ?b1 ?b2 (by omega) ?b3 ?b5 ?b4 (w1.heap.size + 1) (by simp) ?_))
    case b1 => exact hB6 _ rfl _ _ _ _ _ _ _
    case b2 => intro u hu; simp at hu; rcases hu with rfl | rfl | rfl | rfl <;> rfl
    case b3 => unfold maxLen; omega
    case b5 => omega
    case b4 => simp; omega
    · intro g2 lc2 w2 hown2 hgrow2 _ _
      have HB2 : Hid (Below w.heap.size w w2) := ownC_grown_below (below_then HB1.out (below_one _)) (by simp; omega) (HO1.out.alloc _) (Nat.le_refl _) hgrow2
      have HO2 : Hid (w2.ownsRow w.heap.size 129 6 (.slice (some ⟨g2, 0, none⟩) (a + 1) lc2) (a + 1) (spsC (K.ls.take a ++ [Sp.mk nm lev false 0 0 0]))) := by
        show World.ownsRow _ _ _ _ _ _ _
        rw [spsC_app]
        exact hown2
      have hz2 := HB2.out.size
      have d0 := cellTo HB2.out c0 hgl
      clear hown2 hgrow2 e0 e4
      have HN2 : Hid (∀ (j : Nat) (u : Value), (spsC (K.ls.drop a))[j]? = some u → w2.cell? ((⟨gv, a * 6, none⟩ : Addr).add j) = some u) := fun j u hu => by
        rw [spsC_drop, List.getElem?_drop] at hu
        have hj : a * 6 + j < K.ls.length * 6 := by rw [← spsC_len]; exact (List.getElem?_eq_some_iff.1 hu).1
        have := cellTo HB2.out (HVC.out _ u hj hu) hvo2
        by_cases hj0 : j = 0
        · subst hj0
          simpa [Addr.add] using this
        · simpa [Addr.add, hj0] using this
      have HL2 : Hid ((spsC (K.ls.drop a)).length = (n - a) * 6) := by show _ = _; rw [spsC_len, List.length_drop, HNN.out.1]
      go_wp2_with (first
        | (at_builtin; refine wpList_append_all _ (by rfl) (.tmp 24) (.tmp 30) 125 (by rfl) w.heap.size 129 i0 (.agg #[.int .i64 0, .int .i64 0, .bool false, .int .i64 0, .int .i64 0, .int .i64 0]) 6 48 Tryz.underlying125 hi0 hq0 hq1 hq2 rfl (by omega) _ (a + 1) _ (by rfl) HO2.out _ ⟨gv, a * 6, none⟩ (n - a) _ (spsC (K.ls.drop a)) (by rfl) ?x0 HL2.out HN2.out ?x1 ?x2 ?x3 ?x4 ?_))
      any_goals first
        | (exact spsC_one _)
        | (unfold maxLen; omega)
        | omega
        | (intro _; rfl)
      all_goals
        intro v3 w3 hown3 hgrow3
        have hlen3 : a + 1 + (n - a) = (putS K a lev).ls.length := by
          show _ = (K.ls.take a ++ [Sp.mk K.names lev false 0 0 0] ++ K.ls.drop a).length
          rw [List.length_append, List.length_append, List.length_take, List.length_drop, ← HNN.out.1, Nat.min_eq_left ha]
          rfl
        have HO3 : Hid (w3.ownsRow w.heap.size 129 6 v3 (putS K a lev).ls.length (spsC (putS K a lev).ls)) := by
          show World.ownsRow _ _ _ _ _ _ _
          rw [← hlen3]
          show World.ownsRow _ _ _ _ _ _ (spsC (K.ls.take a ++ [Sp.mk K.names lev false 0 0 0] ++ K.ls.drop a))
          rw [spsC_app, ← HNN.out.2]
          exact hown3
        obtain ⟨n3, hn3⟩ : ∃ x, x = (putS K a lev).ls.length := ⟨_, rfl⟩
        rw [← hn3] at HO3
        have HN3 : Hid (n3 = (putS K a lev).ls.length) := hn3
        obtain ⟨l3, lc3, hl3⟩ := ownC_shape HO3.out
        subst hl3
        have HB3 : Hid (Below w.heap.size w w3) := ownC_grown_below HB2.out hz2 HO2.out (Nat.le_refl _) hgrow3
        have HRW : Hid (w3.rowIs g 127 5 (wkF (some ⟨gv, 0, none⟩) K.ls.length lc ea K.es.length ec sa K.stem.length sc K.anchor K.names)) := HK.out.row.of_block (HB3.out.block _ hgl)
        obtain ⟨⟨k0, k1, k2, k3, k4⟩, q0, q1, q2, q3, q4⟩ := row5K HRW.out
        rw [← HNN.out.2] at k4
        have r1 := HRW.out.set 0 (.slice l3 n3 lc3)
        have r2 := r1.set 3 (.int .i64 nm)
        have r3 := r2.set 4 (.int .i64 (nm + 1))
        have y4 : (w3.setCell ⟨g, 0, none⟩ (.slice l3 n3 lc3)).cell? ⟨g, 4, none⟩ = some (.int .i64 nm) := by have := r1.cell (i := 4) (by omega); rw [HNN.out.2]; exact this
        have y3 := r1.cell (i := 3) (by omega)
        have z3 := r1.frozen 3
        have y4b : ((w3.setCell ⟨g, 0, none⟩ (.slice l3 n3 lc3)).setCell ⟨g, 3, none⟩ (.int .i64 nm)).cell? ⟨g, 4, none⟩ = some (.int .i64 nm) := by have := r2.cell (i := 4) (by omega); rw [HNN.out.2]; rw [HNN.out.2] at this; exact this
        have z4 := r2.frozen 4
        have HR3 : Hid ((((w3.setCell ⟨g, 0, none⟩ (.slice l3 n3 lc3)).setCell ⟨g, 3, none⟩ (.int .i64 nm)).setCell ⟨g, 4, none⟩ (.int .i64 (nm + 1))).rowIs g 127 5 (wkF l3 n3 lc3 ea K.es.length ec sa K.stem.length sc nm (nm + 1))) := r3.congr fun j hj => by
          have : j = 0 ∨ j = 1 ∨ j = 2 ∨ j = 3 ∨ j = 4 := by omega
          rcases this with rfl | rfl | rfl | rfl | rfl <;> rfl
        have HOn : Hid (OnlyRow g w3 (((w3.setCell ⟨g, 0, none⟩ (.slice l3 n3 lc3)).setCell ⟨g, 3, none⟩ (.int .i64 nm)).setCell ⟨g, 4, none⟩ (.int .i64 (nm + 1)))) := ((OnlyRow.setCell _ _ _ _).trans (OnlyRow.setCell _ _ _ _)).trans (OnlyRow.setCell _ _ _ _)
        have HBB : Hid (Below B w3 (((w3.setCell ⟨g, 0, none⟩ (.slice l3 n3 lc3)).setCell ⟨g, 3, none⟩ (.int .i64 nm)).setCell ⟨g, 4, none⟩ (.int .i64 (nm + 1)))) := HOn.out.below (Below.refl _ _) HK.out.base
        simp only [wkF] at y3
        clear hown3 hgrow3 r1 r2 r3 hn3 hlen3 d0
        go_wp2
        have hBw : B ≤ w.heap.size := by have := HK.out.base; omega
        refine bodyPost_end (results_none rfl _ _ _) rfl ⟨_, l3, lc3, rfl, ?_, (HB3.out.mono hBw).trans HBB.out⟩
        have hrow := HR3.out
        rw [HN3.out, HNN.out.2] at hrow
        have hlist := own_only HOn.out HO3.out (own_far HRW.out HO3.out (by decide))
        rw [HN3.out, HNN.out.2] at hlist
        refine ⟨?_, HK.out.base, ?_, ?_, fun j hj => ?_, ?_⟩
        · rw [HN3.out, HNN.out.2]
          exact hrow
        · rw [HN3.out, HNN.out.2]
          exact ownC_base hlist hBw
        · have ho := ownC_below HK.out.ents HB3.out
          exact own_only HOn.out ho (own_far HRW.out ho (by decide))
        · have ho := ownC_below (HK.out.ints j hj) HB3.out
          exact own_only HOn.out ho (own_far HRW.out ho (by decide))
        · have ho := ownC_below HK.out.stem HB3.out
          exact own_only HOn.out ho (own_far HRW.out ho (by decide))

end Go.Proofs.YtpclldccjpncdabGreat
