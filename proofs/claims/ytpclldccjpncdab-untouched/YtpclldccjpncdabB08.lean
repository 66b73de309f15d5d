import Derived.Test.YtpclldccjpncdabB07
namespace Go.Proofs.Ytpclldccjpncdab
open Go.RowKit

set_option maxRecDepth 100000 in
set_option maxHeartbeats 1000000 in
theorem needsBackslash_any (c : Int) (w : World) : Calls Try.prog 73 #[.int .u8 c] w fun e w' => e = .returned (.bool (sp c)) ∧ w' = w := by
  by_cases h1 : c = 32
  · subst h1
    go_enter Try.func73, Try.ntmps73
    go_wp2
    go_ret
    exact ⟨rfl, rfl⟩
  by_cases h2 : c = 38
  · subst h2
    go_enter Try.func73, Try.ntmps73
    go_wp2
    go_ret
    exact ⟨rfl, rfl⟩
  by_cases h3 : c = 60
  · subst h3
    go_enter Try.func73, Try.ntmps73
    go_wp2
    go_ret
    exact ⟨rfl, rfl⟩
  by_cases h4 : c = 61
  · subst h4
    go_enter Try.func73, Try.ntmps73
    go_wp2
    go_ret
    exact ⟨rfl, rfl⟩
  by_cases h5 : c = 47
  · subst h5
    go_enter Try.func73, Try.ntmps73
    go_wp2
    go_ret
    exact ⟨rfl, rfl⟩
  by_cases h6 : c = 91
  · subst h6
    go_enter Try.func73, Try.ntmps73
    go_wp2
    go_ret
    exact ⟨rfl, rfl⟩
  by_cases h7 : c = 93
  · subst h7
    go_enter Try.func73, Try.ntmps73
    go_wp2
    go_ret
    exact ⟨rfl, rfl⟩
  by_cases h8 : c = 92
  · subst h8
    go_enter Try.func73, Try.ntmps73
    go_wp2
    go_ret
    exact ⟨rfl, rfl⟩
  have HS : Hid (sp c = false) := by show _ = _; simp [sp, sgl]; omega
  have e1 := beq_eq_false_iff_ne.2 h1
  have e2 := beq_eq_false_iff_ne.2 h2
  have e3 := beq_eq_false_iff_ne.2 h3
  have e4 := beq_eq_false_iff_ne.2 h4
  have e5 := beq_eq_false_iff_ne.2 h5
  have e6 := beq_eq_false_iff_ne.2 h6
  have e7 := beq_eq_false_iff_ne.2 h7
  have e8 := beq_eq_false_iff_ne.2 h8
  clear h1 h2 h3 h4 h5 h6 h7 h8
  go_enter Try.func73, Try.ntmps73
  go_wp2
  go_ret
  exact ⟨by rw [HS.out]; rfl, rfl⟩

set_option maxRecDepth 100000 in
set_option maxHeartbeats 1000000 in
theorem partText_any (s : ByteArray) (w : World) (hs : s.size ≤ 1000) :
    Calls Try.prog 53 #[.string s] w fun e w' => e = .returned (.string (strOfNums (quo (blC s)))) ∧ Below w.heap.size w w' := by
  obtain ⟨i0, hi0, hq0, hq1, hq2⟩ := info_parts infoByteC
  go_enter Try.func53, Try.ntmps53
  go_wp2
  go_loopw [3, 4] (fun v iv wr => ∃ (i : Nat) (us : List Int), Hid (us = quo ((blC s).take i)) ∧ i ≤ s.size ∧ iv = .int .i64 (i : Nat) ∧ Below w.heap.size w wr ∧ wr.ownsRow w.heap.size 5 1 v us.length (us.map (Value.int .u8))) (fun _ iv _ => s.size - (intOf iv).toNat)
  case atStart => exact ⟨0, [], rfl, Nat.zero_le _, rfl, Below.refl _ _, World.ownsRow_nil _ _ _ _⟩
  case round =>
    obtain ⟨i, us, HUS, hi, rfl, hbel, hown⟩ := hrel
    have HOW : Hid (wr.ownsRow w.heap.size 5 1 _ us.length (us.map (Value.int .u8))) := hown
    have hul : us.length ≤ 2000 := by
      have := quo_len ((blC s).take i)
      rw [HUS.out]
      have h2 := List.length_take_le i (blC s)
      omega
    clear hown
    have hsz := hbel.size
    by_cases hlt : i < s.size
    · obtain ⟨x, hx⟩ : ∃ x : Nat, x = (s[i]'hlt).toNat := ⟨_, rfl⟩
      have hxs : ((s[i]'hlt).toNat : Int) = x := by rw [hx]
      have hxb : x ≤ 255 := by rw [hx]; have := UInt8.toNat_lt (s[i]'hlt); omega
      have HTK : Hid ((blC s).take (i + 1) = (blC s).take i ++ [(x : Int)]) := by show _ = _; rw [blC_take s i hlt, hxs]
      clear hx
      by_cases hsp : sp x = true
      · have HUN : Hid (us ++ [92] ++ [(x : Int)] = quo ((blC s).take (i + 1))) := by show _ = _; rw [HTK.out, quo_snoc, if_pos hsp, HUS.out]; simp
        go_wp2_with fail
        refine (needsBackslash_any x _).mono ?_
        rintro e w1 ⟨rfl, hw1⟩
        obtain rfl := hw1.symm
        rw [hsp]
        go_wp2_with (first
          | (at_builtin; refine wpList_append_lies _ (by rfl) (.tmp 15) (.tmp 16) 69 (by rfl) w.heap.size 5 i0 (.int .u8 0) 1 1 Try.underlying69 hi0 hq0 hq1 hq2 rfl (by omega) _ us.length _ (by rfl) (HOW.out.alloc _) ⟨wr.heap.size, 0, none⟩ 1 1 [.int .u8 92] (by rfl) (by rfl) ?c1 ?c2 (by omega) ?c3 ?c5 ?c4 (wr.heap.size + 1) (by simp) ?_))
        case c1 => exact cell_one_new _ _ _
        case c2 => intro u hu; simp at hu; subst hu; rfl
        case c3 => unfold maxLen; omega
        case c5 => omega
        case c4 => simp; omega
        · intro g2 cap2 w2 hown2 hgrow2 _ _
          have HB2 : Hid (Below w.heap.size w w2) := ownC_grown_below (hbel.alloc hsz _) (by simp; omega) (HOW.out.alloc _) (Nat.le_refl _) hgrow2
          have HO2 : Hid (w2.ownsRow w.heap.size 5 1 (.slice (some ⟨g2, 0, none⟩) (us.length + 1) cap2) (us ++ [92]).length ((us ++ [92]).map (Value.int .u8))) := by
            show _
            rw [List.length_append, List.map_append]
            exact hown2
          obtain ⟨us2, hus2⟩ : ∃ x : List Int, x = us ++ [92] := ⟨_, rfl⟩
          rw [← hus2] at HO2 HUN
          have hu2l : us2.length = us.length + 1 := by rw [hus2]; simp
          have hz2 := hgrow2.size
          simp at hz2
          rw [← hu2l] at HO2 ⊢
          have hul2 : us2.length ≤ 2001 := by omega
          clear hown2 hgrow2 hus2 hu2l
          go_wp2_with (first
            | (at_builtin; refine wpList_append_lies _ (by rfl) (.tmp 18) (.tmp 22) 69 (by rfl) w.heap.size 5 i0 (.int .u8 0) 1 1 Try.underlying69 hi0 hq0 hq1 hq2 rfl (by omega) _ us2.length _ (by rfl) (HO2.out.alloc _) ⟨w2.heap.size, 0, none⟩ 1 1 [.int .u8 x] (by rfl) (by rfl) ?d1 ?d2 (by omega) ?d3 ?d5 ?d4 (w2.heap.size + 1) (by simp) ?_))
          case d1 => exact cell_one_new _ _ _
          case d2 => intro u hu; simp at hu; subst hu; rfl
          case d3 => unfold maxLen; omega
          case d5 => omega
          case d4 => simp; omega
          · intro g3 cap3 w3 hown3 hgrow3 _ _
            have HB3 : Hid (Below w.heap.size w w3) := ownC_grown_below (below_then HB2.out (below_one _)) (by simp; omega) (HO2.out.alloc _) (Nat.le_refl _) hgrow3
            have HO3 : Hid (w3.ownsRow w.heap.size 5 1 (.slice (some ⟨g3, 0, none⟩) (us2.length + 1) cap3) (us2 ++ [(x : Int)]).length ((us2 ++ [(x : Int)]).map (Value.int .u8))) := by
              show _
              rw [List.length_append, List.map_append]
              exact hown3
            clear hown3 hgrow3
            go_wp2
            go_roundw
            case rel => exact ⟨i + 1, us2 ++ [(x : Int)], HUN.out, by omega, by go_num, HB3.out, HO3.out⟩
            case measure => simp [intOf]; omega
      · have hsp' : sp x = false := by simpa using hsp
        have HUN : Hid (us ++ [(x : Int)] = quo ((blC s).take (i + 1))) := by show _ = _; rw [HTK.out, quo_snoc, if_neg hsp, HUS.out]
        clear hsp
        go_wp2_with fail
        refine (needsBackslash_any x _).mono ?_
        rintro e w1 ⟨rfl, hw1⟩
        obtain rfl := hw1.symm
        rw [hsp']
        go_wp2_with (first
          | (at_builtin; refine wpList_append_lies _ (by rfl) (.tmp 18) (.tmp 22) 69 (by rfl) w.heap.size 5 i0 (.int .u8 0) 1 1 Try.underlying69 hi0 hq0 hq1 hq2 rfl (by omega) _ us.length _ (by rfl) (HOW.out.alloc _) ⟨wr.heap.size, 0, none⟩ 1 1 [.int .u8 x] (by rfl) (by rfl) ?d1 ?d2 (by omega) ?d3 ?d5 ?d4 (wr.heap.size + 1) (by simp) ?_))
        case d1 => exact cell_one_new _ _ _
        case d2 => intro u hu; simp at hu; subst hu; rfl
        case d3 => unfold maxLen; omega
        case d5 => omega
        case d4 => simp; omega
        · intro g3 cap3 w3 hown3 hgrow3 _ _
          have HB3 : Hid (Below w.heap.size w w3) := ownC_grown_below (hbel.alloc hsz _) (by simp; omega) (HOW.out.alloc _) (Nat.le_refl _) hgrow3
          have HO3 : Hid (w3.ownsRow w.heap.size 5 1 (.slice (some ⟨g3, 0, none⟩) (us.length + 1) cap3) (us ++ [(x : Int)]).length ((us ++ [(x : Int)]).map (Value.int .u8))) := by
            show _
            rw [List.length_append, List.map_append]
            exact hown3
          clear hown3 hgrow3
          go_wp2
          go_roundw
          case rel => exact ⟨i + 1, us ++ [(x : Int)], HUN.out, by omega, by go_num, HB3.out, HO3.out⟩
          case measure => simp [intOf]; omega
    · have hie : i = s.size := by omega
      subst hie
      obtain ⟨vo9, vc9, hv9, hcv⟩ := convC HOW.out
      subst hv9
      have HE : Hid (us = quo (blC s)) := by
        show _ = _
        rw [HUS.out, List.take_of_length_le (by rw [blC_len]; exact Nat.le_refl _)]
      go_wp2
      go_ret
      exact ⟨by rw [← HE.out]; rfl, hbel⟩

theorem beforeSign_any (n : Nat) (w : World) (hn : n ≤ 3) : Calls Try.prog 54 #[.int .i64 (n : Nat)] w fun e w' => e = .returned (.string (strOfNums (beN n))) ∧ w' = w := by
  have : n = 0 ∨ n = 1 ∨ n = 2 ∨ n = 3 := by omega
  rcases this with rfl | rfl | rfl | rfl
  all_goals
    go_enter Try.func54, Try.ntmps54
    go_wp2
    go_ret
    exact ⟨rfl, rfl⟩
theorem relationSign_any (n : Nat) (w : World) (hn : n ≤ 3) : Calls Try.prog 52 #[.int .i64 (n : Nat)] w fun e w' => e = .returned (.string (strOfNums (sgN n))) ∧ w' = w := by
  have : n = 0 ∨ n = 1 ∨ n = 2 ∨ n = 3 := by omega
  rcases this with rfl | rfl | rfl | rfl
  all_goals
    go_enter Try.func52, Try.ntmps52
    go_wp2
    go_ret
    exact ⟨rfl, rfl⟩

set_option maxRecDepth 100000 in
set_option maxHeartbeats 1000000 in
theorem ruleIsRule_any (x : Rl) (w : World) (hs : x.reset.size ≤ 140737488351232 ∧ x.text.size ≤ 140737488351232 ∧ x.more.size ≤ 140737488351232) :
    Calls Try.prog 51 #[.agg #[.string x.reset, .int .i64 x.before, .int .i64 x.level, .string x.text, .string x.more]] w fun e w' => e = .returned (.bool (decide x.ok)) ∧ Below w.heap.size w w' := by
  obtain ⟨reset, before, level, text, more⟩ := x
  simp only at hs ⊢
  obtain ⟨h1, h2, h3⟩ := hs
  by_cases a1 : text.size = 0
  · have HV : Hid (decide (Rl.ok ⟨reset, before, level, text, more⟩) = false) := by show _ = _; simp [Rl.ok]; omega
    have a1' : ((text.size : Int) == 0) = true := by simp [a1]
    clear a1
    go_enter Try.func51, Try.ntmps51
    go_wp2
    go_ret
    exact ⟨by rw [HV.out]; rfl, below_one _⟩
  have a1' : ((text.size : Int) == 0) = false := beq_eq_false_iff_ne.2 (by omega)
  by_cases a2 : 3 < text.size
  · have HV : Hid (decide (Rl.ok ⟨reset, before, level, text, more⟩) = false) := by show _ = _; simp [Rl.ok]; omega
    clear a1
    go_enter Try.func51, Try.ntmps51
    go_wp2
    go_ret
    exact ⟨by rw [HV.out]; rfl, below_one _⟩
  by_cases a3 : 6 < more.size
  · have HV : Hid (decide (Rl.ok ⟨reset, before, level, text, more⟩) = false) := by show _ = _; simp [Rl.ok]; omega
    clear a1
    go_enter Try.func51, Try.ntmps51
    go_wp2
    go_ret
    exact ⟨by rw [HV.out]; rfl, below_one _⟩
  by_cases a4 : 6 < reset.size
  · have HV : Hid (decide (Rl.ok ⟨reset, before, level, text, more⟩) = false) := by show _ = _; simp [Rl.ok]; omega
    clear a1
    go_enter Try.func51, Try.ntmps51
    go_wp2
    go_ret
    exact ⟨by rw [HV.out]; rfl, below_one _⟩
  by_cases a5 : level < 0
  · have HV : Hid (decide (Rl.ok ⟨reset, before, level, text, more⟩) = false) := by show _ = _; simp [Rl.ok]; omega
    clear a1
    go_enter Try.func51, Try.ntmps51
    go_wp2
    go_ret
    exact ⟨by rw [HV.out]; rfl, below_one _⟩
  by_cases a6 : 3 < level
  · have HV : Hid (decide (Rl.ok ⟨reset, before, level, text, more⟩) = false) := by show _ = _; simp [Rl.ok]; omega
    clear a1
    go_enter Try.func51, Try.ntmps51
    go_wp2
    go_ret
    exact ⟨by rw [HV.out]; rfl, below_one _⟩
  by_cases a7 : before < 0
  · have HV : Hid (decide (Rl.ok ⟨reset, before, level, text, more⟩) = false) := by show _ = _; simp [Rl.ok]; omega
    clear a1
    go_enter Try.func51, Try.ntmps51
    go_wp2
    go_ret
    exact ⟨by rw [HV.out]; rfl, below_one _⟩
  by_cases a8 : 3 < before
  · have HV : Hid (decide (Rl.ok ⟨reset, before, level, text, more⟩) = false) := by show _ = _; simp [Rl.ok]; omega
    clear a1
    go_enter Try.func51, Try.ntmps51
    go_wp2
    go_ret
    exact ⟨by rw [HV.out]; rfl, below_one _⟩
  by_cases a9 : before = 0
  · have HV : Hid (decide (Rl.ok ⟨reset, before, level, text, more⟩) = true) := by show _ = _; simp [Rl.ok]; omega
    subst a9
    clear a1
    go_enter Try.func51, Try.ntmps51
    go_wp2
    go_ret
    exact ⟨by rw [HV.out]; rfl, below_one _⟩
  · have a9' : (before == 0) = false := beq_eq_false_iff_ne.2 a9
    by_cases b1 : reset.size = 0
    · have HV : Hid (decide (Rl.ok ⟨reset, before, level, text, more⟩) = false) := decide_eq_false (fun h => by obtain ⟨_, _, _, _, _, h6⟩ := h; simp only at h6; omega)
      have b2 : reset.toList.isEmpty = true := by rw [empty_iff]; simp [b1]
      clear a9 a1
      go_enter Try.func51, Try.ntmps51
      go_wp2
      go_ret
      exact ⟨by rw [HV.out]; rfl, below_one _⟩
    · have HV : Hid (decide (Rl.ok ⟨reset, before, level, text, more⟩) = true) := decide_eq_true ⟨⟨by show _ ≤ text.size; omega, by show text.size ≤ _; omega⟩, by show more.size ≤ _; omega, by show reset.size ≤ _; omega, ⟨by show _ ≤ level; omega, by show level ≤ _; omega⟩, ⟨by show _ ≤ before; omega, by show before ≤ _; omega⟩, .inr b1⟩
      have b2 : reset.toList.isEmpty = false := by rw [empty_iff]; simp [b1]
      clear a9 a1
      go_enter Try.func51, Try.ntmps51
      go_wp2
      go_ret
      exact ⟨by rw [HV.out]; rfl, below_one _⟩

end Go.Proofs.Ytpclldccjpncdab

namespace Go.Proofs.Ytpclldccjpncdab
open Go.RowKit

theorem sizeTokC : (Try.prog.info? 121).map (·.size) = some 5 := by kernel_rfl
theorem row5C {w : World} {b : Nat} {t : TypeId} {f : Nat → Value} (h : w.rowIs b t 5 f) : w.heap[b]? = some (.cells #[f 0, f 1, f 2, f 3, f 4] t (0, 0)) := by
  obtain ⟨c, hc, hs, hf⟩ := h
  rw [hc]
  have : c = #[f 0, f 1, f 2, f 3, f 4] := by
    apply Array.ext_getElem?
    intro i
    match i with
    | 0 => rw [hf 0 (by omega)]; rfl
    | 1 => rw [hf 1 (by omega)]; rfl
    | 2 => rw [hf 2 (by omega)]; rfl
    | 3 => rw [hf 3 (by omega)]; rfl
    | 4 => rw [hf 4 (by omega)]; rfl
    | j + 5 => rw [Array.getElem?_eq_none (by omega)]; rfl
  rw [this]
/-- a result of five cells -/
theorem res5 {w : World} {P : Program} {fn : Func} {p : Tmp} {ty : TypeId} (h : fn.results = #[.cell p ty]) (tmps : Array Value) (g : Nat) (f : Nat → Value) (d : TypeDesc)
    (hp : tmps.getD p undef = .pointer (some ⟨g, 0, none⟩)) (hg : w.rowIs g ty 5 f)
    (hu : P.underlying ty = some d) (hd : (match d with | .struct _ | .array _ _ => true | _ => false) = true) (hi : (P.info? ty).map (·.size) = some 5) :
    (results fn tmps).run P w = .ok (.agg #[f 0, f 1, f 2, f 3, f 4]) w :=
  results_cell_row h tmps w g ty _ (0, 0) d hp (row5C hg) hu hd hi
theorem res53 {w : World} {P : Program} {fn : Func} {p u v : Tmp} {ty : TypeId} (h : fn.results = #[.cell p ty, .tmp u, .tmp v]) (tmps : Array Value) (g : Nat) (f : Nat → Value) (d : TypeDesc)
    (hp : tmps.getD p undef = .pointer (some ⟨g, 0, none⟩)) (hg : w.rowIs g ty 5 f)
    (hu : P.underlying ty = some d) (hd : (match d with | .struct _ | .array _ _ => true | _ => false) = true) (hi : (P.info? ty).map (·.size) = some 5) :
    (results fn tmps).run P w = .ok (.tuple #[.agg #[f 0, f 1, f 2, f 3, f 4], tmps.getD u undef, tmps.getD v undef]) w := by
  have hp' : tmps[p]?.getD undef = .pointer (some ⟨g, 0, none⟩) := by simpa using hp
  simp [results, h, hp', asAddr, run_loadVar_row w g ty ty #[f 0, f 1, f 2, f 3, f 4] (0, 0) d (row5C hg) hu hd hi]

theorem row5F {w : World} {g : Nat} {t : TypeId} {f : Nat → Value} (h : w.rowIs g t 5 f) : (w.cell? ⟨g, 0, none⟩ = some (f 0) ∧ w.cell? ⟨g, 1, none⟩ = some (f 1) ∧ w.cell? ⟨g, 2, none⟩ = some (f 2) ∧ w.cell? ⟨g, 3, none⟩ = some (f 3) ∧ w.cell? ⟨g, 4, none⟩ = some (f 4)) ∧ (w.frozen? ⟨g, 0, none⟩ = false ∧ w.frozen? ⟨g, 1, none⟩ = false ∧ w.frozen? ⟨g, 2, none⟩ = false ∧ w.frozen? ⟨g, 3, none⟩ = false ∧ w.frozen? ⟨g, 4, none⟩ = false) :=
  ⟨⟨World.rowIs.cell h (i := 0) (by omega), World.rowIs.cell h (i := 1) (by omega), World.rowIs.cell h (i := 2) (by omega), World.rowIs.cell h (i := 3) (by omega), World.rowIs.cell h (i := 4) (by omega)⟩, World.rowIs.frozen h 0, World.rowIs.frozen h 1, World.rowIs.frozen h 2, World.rowIs.frozen h 3, World.rowIs.frozen h 4⟩
/-- five cells written, one behind the other -/
def set5 (W : World) (g : Nat) (v0 v1 v2 v3 v4 : Value) : World := ((((W.setCell ⟨g, 0, none⟩ v0).setCell ⟨g, 1, none⟩ v1).setCell ⟨g, 2, none⟩ v2).setCell ⟨g, 3, none⟩ v3).setCell ⟨g, 4, none⟩ v4
theorem set5_only (W : World) (g : Nat) (v0 v1 v2 v3 v4 : Value) : OnlyRow g W (set5 W g v0 v1 v2 v3 v4) :=
  ((((OnlyRow.setCell _ _ _ _).trans (OnlyRow.setCell _ _ _ _)).trans (OnlyRow.setCell _ _ _ _)).trans (OnlyRow.setCell _ _ _ _)).trans (OnlyRow.setCell _ _ _ _)
theorem fin5 {P : Program} {fn : Func} {p : Tmp} {ty : TypeId} {w0 W : World} {B g : Nat} {f : Nat → Value} {v0 v1 v2 v3 v4 v : Value} {d : TypeDesc} {tmps : Array Value} (h : fn.results = #[.cell p ty]) (hp : tmps.getD p undef = .pointer (some ⟨g, 0, none⟩)) (hg : W.rowIs g ty 5 f)
    (hu : P.underlying ty = some d) (hd : (match d with | .struct _ | .array _ _ => true | _ => false) = true) (hi : (P.info? ty).map (·.size) = some 5) (hb : Below B w0 W) (hB : B ≤ g) (hv : v = .agg #[v0, v1, v2, v3, v4]) :
    bodyPost P fn (fun e w' => e = .returned v ∧ Below B w0 w') Exit.ret { tmps := tmps, defers := [] } (set5 W g v0 v1 v2 v3 v4) := by
  have := res5 (P := P) h tmps g _ d hp (((((hg.set 0 v0).set 1 v1).set 2 v2).set 3 v3).set 4 v4) hu hd hi
  exact bodyPost_ret this rfl ⟨by rw [hv]; rfl, (set5_only W g v0 v1 v2 v3 v4).below hb hB⟩
theorem fin53 {P : Program} {fn : Func} {p x y : Tmp} {ty : TypeId} {w0 W : World} {B g : Nat} {f : Nat → Value} {v0 v1 v2 v3 v4 v : Value} {d : TypeDesc} {tmps : Array Value} (h : fn.results = #[.cell p ty, .tmp x, .tmp y]) (hp : tmps.getD p undef = .pointer (some ⟨g, 0, none⟩)) (hg : W.rowIs g ty 5 f)
    (hu : P.underlying ty = some d) (hd : (match d with | .struct _ | .array _ _ => true | _ => false) = true) (hi : (P.info? ty).map (·.size) = some 5) (hb : Below B w0 W) (hB : B ≤ g) (hv : v = .tuple #[.agg #[v0, v1, v2, v3, v4], tmps.getD x undef, tmps.getD y undef]) :
    bodyPost P fn (fun e w' => e = .returned v ∧ Below B w0 w') Exit.ret { tmps := tmps, defers := [] } (set5 W g v0 v1 v2 v3 v4) := by
  have := res53 (P := P) h tmps g _ d hp (((((hg.set 0 v0).set 1 v1).set 2 v2).set 3 v3).set 4 v4) hu hd hi
  exact bodyPost_ret this rfl ⟨by rw [hv]; rfl, (set5_only W g v0 v1 v2 v3 v4).below hb hB⟩
def tok0 : Nat → Value := fun i => #[Value.int .i64 0, .int .i64 0, .string ByteArray.empty, .int .i64 0, .int .i64 0].getD i undef

set_option maxRecDepth 100000 in
set_option maxHeartbeats 1000000 in
theorem behindSpaces_any (s : ByteArray) (i : Nat) (w : World) (hs : s.size ≤ 140737488351232) (hi : i ≤ s.size) :
    Calls Try.prog 55 #[.string s, .int .i64 (i : Nat)] w fun e w' => e = .returned (.int .i64 (skp s i : Nat)) ∧ w' = w := by
  obtain ⟨k, hk⟩ : ∃ k, k = skp s i := ⟨_, rfl⟩
  have HK : Hid (k = skp s i) := hk
  rw [← hk]
  clear hk
  go_enter Try.func55, Try.ntmps55
  go_wp2
  go_loopw [5] (fun iv wr => ∃ j : Nat, Hid (k = skp s j) ∧ j ≤ s.size ∧ iv = .int .i64 (j : Nat) ∧ wr = w) (fun iv _ => s.size - (intOf iv).toNat)
  case atStart => exact ⟨i, HK, hi, rfl, rfl⟩
  case round =>
    obtain ⟨j, HJ, hj, rfl, hw⟩ := hrel
    obtain rfl := hw.symm
    clear hw
    by_cases hlt : j < s.size
    · have hbi := bt_in hlt
      obtain ⟨x, hx⟩ : ∃ x, x = bt s j := ⟨_, rfl⟩
      have hxs : ((s[j]'hlt).toNat : Int) = x := by rw [hx, hbi]
      by_cases h32 : x = 32
      · have HN : Hid (k = skp s (j + 1)) := by show _ = _; rw [HJ.out]; exact skp_sp ⟨hlt, by omega⟩
        subst h32
        clear hbi hx
        go_wp2
        go_roundw
        case rel => exact ⟨j + 1, HN, by omega, by go_num, by trivial⟩
        case measure => simp [intOf]; omega
      · have HN : Hid (k = j) := by show _ = _; rw [HJ.out]; exact skp_no (by omega)
        have h32' : ((x : Int) == 32) = false := beq_eq_false_iff_ne.2 (by omega)
        clear hbi hx h32
        go_wp2
        go_ret
        exact ⟨by rw [HN.out]; rfl, rfl⟩
    · have HN : Hid (k = j) := by show _ = _; rw [HJ.out]; exact skp_no (by omega)
      go_wp2
      go_ret
      exact ⟨by rw [HN.out]; rfl, rfl⟩

set_option maxRecDepth 100000 in
set_option maxHeartbeats 1000000 in
theorem lessAt_any (s : ByteArray) (a : Nat) (w : World) (hs : s.size ≤ 1000) (ha : a < s.size) :
    Calls Try.prog 83 #[.string s, .int .i64 (a : Nat)] w fun e w' => e = .returned (.agg #[.int .i64 3, .int .i64 (lessN s a : Nat), .string { data := #[] }, .int .i64 (a : Nat), .int .i64 ((a + lessN s a : Nat) : Int)]) ∧ Below w.heap.size w w' := by
  obtain ⟨k, hk⟩ : ∃ k, k = lessN s a := ⟨_, rfl⟩
  have HK : Hid (k = lessN s a) := hk
  rw [← hk]
  clear hk
  obtain ⟨W, hW⟩ : ∃ W, W = w.alloc (.cells #[.int .i64 0, .int .i64 0, .string ByteArray.empty, .int .i64 0, .int .i64 0] 121) := ⟨_, rfl⟩
  have HW : Hid (W = w.alloc (.cells #[.int .i64 0, .int .i64 0, .string ByteArray.empty, .int .i64 0, .int .i64 0] 121)) := hW
  clear hW
  go_enter Try.func83, Try.ntmps83
  go_wp2
  go_loopw [5] (fun iv wr => ∃ n : Nat, Hid (∀ j, 1 ≤ j → j < n → bt s (a + j) = 60) ∧ 1 ≤ n ∧ n ≤ 3 ∧ iv = .int .i64 (n : Nat) ∧ wr = W) (fun iv _ => 3 - (intOf iv).toNat)
  case atStart => exact ⟨1, fun j h1 h2 => by omega, by omega, by omega, rfl, HW.out.symm⟩
  case round =>
    obtain ⟨n, HN, hn1, hn3, rfl, hw⟩ := hrel
    obtain rfl := hw.symm
    clear hw
    have HR : Hid (W.rowIs w.heap.size 121 5 tok0) := by show World.rowIs _ _ _ _ _; rw [HW.out]; exact row_new _ _ _ 5 rfl
    have HB : Hid (Below w.heap.size w W) := by show Below _ _ _; rw [HW.out]; exact below_one _
    obtain ⟨⟨c0, c1, c2, c3, c4⟩, f0, f1, f2, f3, f4⟩ := row5F HR.out
    by_cases h3 : n < 3
    · by_cases hlt : a + n < s.size
      · have hbi := bt_in hlt
        obtain ⟨x, hx⟩ : ∃ x, x = bt s (a + n) := ⟨_, rfl⟩
        have hxs : ((s[a + n]'hlt).toNat : Int) = x := by rw [hx, hbi]
        have q1 : ((a : Int) + n).toNat = a + n := by omega
        have q2 : (a : Int) + n < (s.size : Int) := by omega
        have q3 : (0 : Int) ≤ (a : Int) + n := by omega
        by_cases h60 : x = 60
        · have HN' : Hid (∀ j, 1 ≤ j → j < n + 1 → bt s (a + j) = 60) := fun j h1 h2 => by
            by_cases e : j = n
            · rw [e]; omega
            · exact HN.out j h1 (by omega)
          subst h60
          clear hbi hx c0 c1 c2 c3 c4 f0 f1 f2 f3 f4
          go_wp2
          go_roundw
          case rel => exact ⟨n + 1, HN', by omega, by omega, by go_num, by trivial⟩
          case measure => simp [intOf]; omega
        · have HE : Hid (k = n) := by
            show _ = _
            rw [HK.out]
            unfold lessN
            have : n = 1 ∨ n = 2 := by omega
            rcases this with rfl | rfl
            · rw [if_neg (by omega)]
            · rw [if_pos (HN.out 1 (by omega) (by omega)), if_neg (by omega)]
          have h60' : ((x : Int) == 60) = false := beq_eq_false_iff_ne.2 (by omega)
          clear hbi hx h60
          go_wp2
          exact fin5 rfl (by rfl) HR.out Try.underlying121 rfl sizeTokC HB.out (Nat.le_refl _) (by rw [HE.out] <;> simp)
      · have HE : Hid (k = n) := by
          show _ = _
          rw [HK.out]
          unfold lessN
          have h0 := bt_out (s := s) (p := a + n) (by omega)
          have : n = 1 ∨ n = 2 := by omega
          rcases this with rfl | rfl
          · rw [if_neg (by omega)]
          · rw [if_pos (HN.out 1 (by omega) (by omega)), if_neg (by omega)]
        have q2 : (s.size : Int) ≤ (a : Int) + n := by omega
        go_wp2
        exact fin5 rfl (by rfl) HR.out Try.underlying121 rfl sizeTokC HB.out (Nat.le_refl _) (by rw [HE.out] <;> simp)
    · have hn : n = 3 := by omega
      subst hn
      have HE : Hid (k = 3) := by
        show _ = _
        rw [HK.out]
        unfold lessN
        rw [if_pos (HN.out 1 (by omega) (by omega)), if_pos (HN.out 2 (by omega) (by omega))]
      go_wp2
      exact fin5 rfl (by rfl) HR.out Try.underlying121 rfl sizeTokC HB.out (Nat.le_refl _) (by rw [HE.out] <;> simp)

set_option maxRecDepth 100000 in
set_option maxHeartbeats 1000000 in
theorem beforeAt_any (s : ByteArray) (a : Nat) (w : World) (hs : s.size ≤ 1000) (ha : a < s.size) :
    Calls Try.prog 84 #[.string s, .int .i64 (a : Nat)] w fun e w' => e = .returned (.agg #[.int .i64 ((if befN s a = 0 then 0 else 2 : Nat) : Int), .int .i64 (befN s a : Nat), .string { data := #[] }, .int .i64 (a : Nat), .int .i64 ((if befN s a = 0 then 0 else a + 10 : Nat) : Int)]) ∧ Below w.heap.size w w' := by
  obtain ⟨k, hk⟩ : ∃ k, k = befN s a := ⟨_, rfl⟩
  have HK : Hid (k = befN s a) := hk
  rw [← hk]
  clear hk
  obtain ⟨kd, hkd⟩ : ∃ x, x = (if k = 0 then 0 else 2 : Nat) := ⟨_, rfl⟩
  obtain ⟨kf, hkf⟩ : ∃ x, x = (if k = 0 then 0 else a + 10 : Nat) := ⟨_, rfl⟩
  have HKD : Hid (kd = (if k = 0 then 0 else 2 : Nat) ∧ kf = (if k = 0 then 0 else a + 10 : Nat)) := ⟨hkd, hkf⟩
  rw [← hkd, ← hkf]
  clear hkd hkf
  obtain ⟨W, hW⟩ : ∃ W, W = w.alloc (.cells #[.int .i64 0, .int .i64 0, .string ByteArray.empty, .int .i64 0, .int .i64 0] 121) := ⟨_, rfl⟩
  have HW : Hid (W = w.alloc (.cells #[.int .i64 0, .int .i64 0, .string ByteArray.empty, .int .i64 0, .int .i64 0] 121)) := hW
  clear hW
  go_enter Try.func84, Try.ntmps84
  go_wp2
  go_loopw [5] (fun iv wr => ∃ n : Nat, Hid (∀ j, 1 ≤ j → j < n → ¬ hasB s a (strOfNums (beN j))) ∧ 1 ≤ n ∧ n ≤ 4 ∧ iv = .int .i64 (n : Nat) ∧ wr = W) (fun iv _ => 4 - (intOf iv).toNat)
  case atStart => exact ⟨1, fun j h1 h2 => by omega, by omega, by omega, rfl, HW.out.symm⟩
  case round =>
    obtain ⟨n, HN, hn1, hn4, rfl, hw⟩ := hrel
    obtain rfl := hw.symm
    clear hw
    have HR : Hid (W.rowIs w.heap.size 121 5 tok0) := by show World.rowIs _ _ _ _ _; rw [HW.out]; exact row_new _ _ _ 5 rfl
    have HB : Hid (Below w.heap.size w W) := by show Below _ _ _; rw [HW.out]; exact below_one _
    obtain ⟨⟨c0, c1, c2, c3, c4⟩, f0, f1, f2, f3, f4⟩ := row5F HR.out
    by_cases h3 : n ≤ 3
    · obtain ⟨u, hu⟩ : ∃ u, u = strOfNums (beN n) := ⟨_, rfl⟩
      have HU : Hid (u.size = 10) := by show _ = _; rw [hu, strOfNums_size]; have : n = 1 ∨ n = 2 ∨ n = 3 := by omega
                                        rcases this with rfl | rfl | rfl <;> rfl
      have hul : u.size ≤ 10 := by rw [HU.out]; exact Nat.le_refl _
      have HC : Hid (∀ wz, Calls Try.prog 54 #[.int .i64 (n : Nat)] wz fun e w' => e = .returned (.string u) ∧ w' = wz) := fun wz => by rw [hu]; exact beforeSign_any n wz h3
      by_cases hh : hasB s a u
      · have HE : Hid (k = n) := by
          show _ = _
          rw [HK.out]
          unfold befN
          rw [hu] at hh
          have : n = 1 ∨ n = 2 ∨ n = 3 := by omega
          rcases this with rfl | rfl | rfl
          · rw [if_pos hh]
          · rw [if_neg (HN.out 1 (by omega) (by omega)), if_pos hh]
          · rw [if_neg (HN.out 1 (by omega) (by omega)), if_neg (HN.out 2 (by omega) (by omega)), if_pos hh]
        obtain ⟨h1, h2⟩ := hh
        have e3 : ((s.extract a (a + u.size)).toList == u.toList) = true := by
          have : s.extract a (a + u.size) = u := h2
          rw [this]; simp
        have HV : Hid (kd = 2 ∧ kf = a + u.size) := by
          show _ ∧ _
          rw [HKD.out.1, HKD.out.2, HE.out, if_neg (by omega), if_neg (by omega), HU.out]
          exact ⟨rfl, rfl⟩
        clear hu h2
        go_wp2_with fail
        refine (HC.out _).mono ?_
        rintro e w1 ⟨rfl, hw1⟩
        obtain rfl := hw1.symm
        go_wp2
        exact fin5 rfl (by rfl) HR.out Try.underlying121 rfl sizeTokC HB.out (Nat.le_refl _) (by rw [HV.out.1, HV.out.2, HE.out]; simp)
      · have HN' : Hid (∀ j, 1 ≤ j → j < n + 1 → ¬ hasB s a (strOfNums (beN j))) := fun j h1 h2 => by
          by_cases e : j = n
          · rw [e, ← hu]; exact hh
          · exact HN.out j h1 (by omega)
        by_cases h1 : a + u.size ≤ s.size
        · have e3 : ((s.extract a (a + u.size)).toList == u.toList) = false := by
            rw [beq_eq_false_iff_ne]
            intro h
            exact hh ⟨h1, bytes_eq.1 h⟩
          clear hu hh c0 c1 c2 c3 c4 f0 f1 f2 f3 f4
          go_wp2_with fail
          refine (HC.out _).mono ?_
          rintro e w1 ⟨rfl, hw1⟩
          obtain rfl := hw1.symm
          go_wp2
          go_roundw
          case rel => exact ⟨n + 1, HN', by omega, by omega, by go_num, by trivial⟩
          case measure => simp [intOf]; omega
        · clear hu hh c0 c1 c2 c3 c4 f0 f1 f2 f3 f4
          have q2 : (s.size : Int) < (a : Int) + u.size := by omega
          go_wp2_with fail
          refine (HC.out _).mono ?_
          rintro e w1 ⟨rfl, hw1⟩
          obtain rfl := hw1.symm
          go_wp2
          go_roundw
          case rel => exact ⟨n + 1, HN', by omega, by omega, by go_num, by trivial⟩
          case measure => simp [intOf]; omega
    · have hn : n = 4 := by omega
      subst hn
      have HE : Hid (k = 0) := by
        show _ = _
        rw [HK.out]
        unfold befN
        rw [if_neg (HN.out 1 (by omega) (by omega)), if_neg (HN.out 2 (by omega) (by omega)), if_neg (HN.out 3 (by omega) (by omega))]
      have HV : Hid (kd = 0 ∧ kf = 0) := by
        show _ ∧ _
        rw [HKD.out.1, HKD.out.2, HE.out]
        exact ⟨rfl, rfl⟩
      go_wp2
      exact fin5 rfl (by rfl) HR.out Try.underlying121 rfl sizeTokC HB.out (Nat.le_refl _) (by rw [HV.out.1, HV.out.2, HE.out]; rfl)

end Go.Proofs.Ytpclldccjpncdab

namespace Go.Proofs.Ytpclldccjpncdab
open Go.RowKit

def wkF (la : Option Addr) (n lc : Nat) (ea : Option Addr) (m ec : Nat) (sa : Option Addr) (k sc : Nat) (an nm : Int) : Nat → Value := fun j => #[Value.slice la n lc, .slice ea m ec, .slice sa k sc, .int .i64 an, .int .i64 nm].getD j undef
def intsC (l : List Int) : List Value := l.map (Value.int .i64)
theorem own_far {w : World} {g n : Nat} {t : TypeId} {f : Nat → Value} (hr : w.rowIs g t n f) {base : Nat} {e : TypeId} {size : Nat} {v : Value} {m : Nat} {xs : List Value} (ho : w.ownsRow base e size v m xs) (ht : e ≠ t) : v.ownBlock ≠ some g := fun hb => by
  obtain ⟨_, h2⟩ := ho
  obtain ⟨c, hc, _⟩ := hr
  rcases h2 with ⟨rfl, _⟩ | ⟨g', cap, cur, rfl, _, hh, _⟩
  · simp [Value.ownBlock] at hb
  · simp only [Value.ownBlock, Option.some.injEq] at hb
    subst hb
    rw [hh] at hc
    cases hc
    exact ht rfl
theorem ownC_cap {w : World} {base : Nat} {e : TypeId} {size : Nat} {vo : Option Addr} {n vc : Nat} {xs : List Value} (ho : w.ownsRow base e size (.slice vo n vc) n xs) : n ≤ vc := by
  rcases ho.2 with ⟨hv, h0⟩ | ⟨g, cap, cur, hv, _, _, hnc, _⟩
  · omega
  · injection hv with _ _ h
    omega
theorem spsC_take (l : List Sp) (a : Nat) : spsC (l.take a) = (spsC l).take (a * 6) := by
  induction l generalizing a with
  | nil => simp [spsC]
  | cons x l ih =>
    cases a with
    | zero => simp [spsC]
    | succ a =>
      show x.cs ++ spsC (l.take a) = (x.cs ++ spsC l).take ((a + 1) * 6)
      rw [ih, List.take_append, List.take_of_length_le (l := x.cs) (by show 6 ≤ _; omega), show (a + 1) * 6 - x.cs.length = a * 6 by show _ - 6 = _; omega]
theorem spsC_drop (l : List Sp) (a : Nat) : spsC (l.drop a) = (spsC l).drop (a * 6) := by
  induction l generalizing a with
  | nil => simp [spsC]
  | cons x l ih =>
    cases a with
    | zero => simp [spsC]
    | succ a =>
      show spsC (l.drop a) = (x.cs ++ spsC l).drop ((a + 1) * 6)
      rw [ih, List.drop_append, List.drop_of_length_le (l := x.cs) (by show 6 ≤ _; omega), List.nil_append, show (a + 1) * 6 - x.cs.length = a * 6 by show _ - 6 = _; omega]
theorem hB6 (w : World) {B : Nat} (hB : w.heap.size = B) (a b c d e f : Value) (t : TypeId) : ∀ (j : Nat) (u : Value), [a, b, c, d, e, f][j]? = some u → (w.alloc (.cells #[a, b, c, d, e, f] t)).cell? ((⟨B, 0, none⟩ : Addr).add j) = some u :=
  hB ▸ World.news_of_block (cs := #[a, b, c, d, e, f]) (t := t) (fr := (0, 0)) (heap_alloc_new w _)
theorem spsC_one (l : List Sp) : ∀ u ∈ spsC l, u.oneCell' = true := fun u hu => by
  rw [spsC, List.mem_flatMap] at hu
  obtain ⟨x, _, hx⟩ := hu
  simp only [Sp.cs, List.mem_cons, List.not_mem_nil, or_false] at hx
  rcases hx with rfl | rfl | rfl | rfl | rfl | rfl <;> rfl

end Go.Proofs.Ytpclldccjpncdab

namespace Go.Proofs.Ytpclldccjpncdab
open Go.RowKit

/-! what is written is read back -/
/-- these bytes stand there -/
def Has (s : ByteArray) (i : Nat) (l : List Int) : Prop := i + l.length ≤ s.size ∧ ∀ k, k < l.length → (bt s (i + k) : Int) = l.getD k 0
theorem Has.nil {s : ByteArray} {i : Nat} (h : i ≤ s.size) : Has s i [] := ⟨by simpa using h, fun k hk => by simp at hk⟩
theorem Has.left {s : ByteArray} {i : Nat} {a b : List Int} (h : Has s i (a ++ b)) : Has s i a := by
  obtain ⟨h1, h2⟩ := h
  rw [List.length_append] at h1
  refine ⟨by omega, fun k hk => ?_⟩
  have := h2 k (by rw [List.length_append]; omega)
  rw [List.getD_eq_getElem?_getD, List.getElem?_append_left hk, ← List.getD_eq_getElem?_getD] at this
  exact this
theorem Has.right {s : ByteArray} {i : Nat} {a b : List Int} (h : Has s i (a ++ b)) : Has s (i + a.length) b := by
  obtain ⟨h1, h2⟩ := h
  rw [List.length_append] at h1
  refine ⟨by omega, fun k hk => ?_⟩
  have := h2 (a.length + k) (by rw [List.length_append]; omega)
  rw [List.getD_eq_getElem?_getD, List.getElem?_append_right (by omega), Nat.add_sub_cancel_left, ← Nat.add_assoc, ← List.getD_eq_getElem?_getD] at this
  exact this
theorem Has.head {s : ByteArray} {i : Nat} {c : Int} {l : List Int} (h : Has s i (c :: l)) : i < s.size ∧ (bt s i : Int) = c := by
  obtain ⟨h1, h2⟩ := h
  rw [List.length_cons] at h1
  exact ⟨by omega, h2 0 (by simp)⟩
theorem Has.tail {s : ByteArray} {i : Nat} {c : Int} {l : List Int} (h : Has s i (c :: l)) : Has s (i + 1) l := Has.right (a := [c]) h
theorem quo_cons (c : Int) (l : List Int) : quo (c :: l) = (if sp c then [92, c] else [c]) ++ quo l := by simp [quo]
/-- a part ends there -/
theorem part_has {s : ByteArray} : ∀ (l : List Int) (i : Nat), Has s i (quo l) → pch s (i + (quo l).length) = none → part s i = (l, i + (quo l).length)
  | [], i, _, hp => by
    simp only [quo, List.flatMap_nil, List.length_nil, Nat.add_zero] at hp ⊢
    exact part_none hp
  | c :: l, i, h, hp => by
    rw [quo_cons] at h hp ⊢
    by_cases hc : sp c = true
    · rw [if_pos hc] at h hp ⊢
      have h0 := h.left.head
      have h1 := h.left.tail.head
      have ih := part_has l (i + 2) (by have := h.right; simpa using this) (by rw [← hp]; congr 1; simp; omega)
      have hb : bt s i = 92 := by omega
      have e : pch s i = some (c, i + 2) := by
        unfold pch
        rw [if_pos h0.1, hb, if_neg (by decide), if_pos ⟨rfl, h1.1⟩, h1.2]
      rw [part_some e, ih]
      simp
      omega
    · rw [if_neg hc] at h hp ⊢
      have h0 := h.left.head
      have ih := part_has l (i + 1) (by have := h.right; simpa using this) (by rw [← hp]; congr 1; simp; omega)
      have e : pch s i = some (c, i + 1) := by
        unfold pch
        rw [if_pos h0.1, h0.2, if_pos (by simpa using hc)]
      rw [part_some e, ih]
      simp
      omega
theorem skp_here {s : ByteArray} {i : Nat} (h : bt s i ≠ 32) : skp s i = i := skp_no fun hh => h hh.2
theorem tk_and {s : ByteArray} {i : Nat} (h : i < s.size) (hb : bt s i = 38) : tk s i = ⟨1, 0, [], i, i + 1⟩ := by
  unfold tk
  rw [skp_here (by omega)]
  unfold tkA
  rw [if_neg (by omega), if_pos hb]
theorem tk_slash {s : ByteArray} {i : Nat} (h : i < s.size) (hb : bt s i = 47) : tk s i = ⟨4, 0, [], i, i + 1⟩ := by
  unfold tk
  rw [skp_here (by omega)]
  unfold tkA
  rw [if_neg (by omega), if_neg (by omega), if_pos hb]
theorem tk_equal {s : ByteArray} {i : Nat} (h : i < s.size) (hb : bt s i = 61) : tk s i = ⟨3, 0, [], i, i + 1⟩ := by
  unfold tk
  rw [skp_here (by omega)]
  unfold tkA
  rw [if_neg (by omega), if_neg (by omega), if_neg (by omega), if_pos hb]
theorem tk_less {s : ByteArray} {i : Nat} (h : i < s.size) (hb : bt s i = 60) : tk s i = ⟨3, lessN s i, [], i, i + lessN s i⟩ := by
  unfold tk
  rw [skp_here (by omega)]
  unfold tkA
  rw [if_neg (by omega), if_neg (by omega), if_neg (by omega), if_neg (by omega), if_pos hb]
/-- a sign, with what is no less behind it -/
theorem tk_sign {s : ByteArray} {i : Nat} {n : Nat} (hn : n ≤ 3) (h : Has s i (sgN n)) (hb : bt s (i + (sgN n).length) ≠ 60) : tk s i = ⟨3, n, [], i, i + (sgN n).length⟩ := by
  have : n = 0 ∨ n = 1 ∨ n = 2 ∨ n = 3 := by omega
  rcases this with rfl | rfl | rfl | rfl
  · have h0 := h.head
    exact tk_equal h0.1 (by omega)
  · have h0 := h.head
    have hb' : bt s (i + 1) ≠ 60 := hb
    have e : lessN s i = 1 := by unfold lessN; rw [if_neg hb']
    have := tk_less h0.1 (by omega)
    rw [e] at this
    exact this
  · have h0 := h.head
    have h1 := h.tail.head
    have hb' : bt s (i + 2) ≠ 60 := hb
    have e : lessN s i = 2 := by unfold lessN; rw [if_pos (by omega), if_neg hb']
    have := tk_less h0.1 (by omega)
    rw [e] at this
    exact this
  · have h0 := h.head
    have h1 := h.tail.head
    have h2 := h.tail.tail.head
    have h2' : bt s (i + 2) = 60 := by have := h2.2; rw [show i + 1 + 1 = i + 2 from rfl] at this; omega
    have e : lessN s i = 3 := by unfold lessN; rw [if_pos (by omega), if_pos h2']
    have := tk_less h0.1 (by omega)
    rw [e] at this
    exact this
theorem bt_strR (l : List Int) (h : ∀ x ∈ l, 0 ≤ x ∧ x ≤ 255) (p : Nat) : bt (strOfNums l) p = (l.getD p 0).toNat := by
  by_cases hp : p < l.length
  · have hs : p < (strOfNums l).size := by rw [strOfNums_size]; exact hp
    rw [bt_in hs]
    have hx := h l[p] (List.getElem_mem hp)
    have e : (strOfNums l)[p] = UInt8.ofNat (l[p]).toNat := by
      show (strOfNums l).data[p] = _
      simp [strOfNums]
    rw [e, List.getD, List.getElem?_eq_getElem hp]
    simp
    omega
  · rw [bt_out (by rw [strOfNums_size]; omega), List.getD, List.getElem?_eq_none (by omega)]
    rfl
theorem bt_strS (l : List Int) (h : ∀ x ∈ l, 0 ≤ x ∧ x ≤ 255) (p : Nat) (hp : p < l.length) : (bt (strOfNums l) p : Int) = l.getD p 0 := by
  rw [bt_strR l h p]
  have : l.getD p 0 ∈ l := by rw [List.getD_eq_getElem?_getD, List.getElem?_eq_getElem hp]; exact List.getElem_mem hp
  have := h _ this
  omega
theorem beN_in {n : Nat} : ∀ x ∈ beN n, 0 ≤ x ∧ x ≤ 255 := by
  unfold beN
  split <;> decide
theorem beN_10 {n : Nat} (h : 1 ≤ n) : (beN n).length = 10 := by
  match n, h with
  | 1, _ => rfl
  | 2, _ => rfl
  | _ + 3, _ => rfl
theorem beN_8 {n : Nat} (h1 : 1 ≤ n) (h3 : n ≤ 3) : (beN n).getD 8 0 = 48 + (n : Int) := by
  have hn' : n = 1 ∨ n = 2 ∨ n = 3 := by omega
  rcases hn' with rfl | rfl | rfl <;> rfl
theorem hasB_has {s : ByteArray} {i : Nat} {l : List Int} (hl : ∀ x ∈ l, 0 ≤ x ∧ x ≤ 255) (h : Has s i l) : hasB s i (strOfNums l) := by
  rw [hasB_iff]
  rw [strOfNums_size]
  refine ⟨h.1, fun k hk => ?_⟩
  have h1 := h.2 k hk
  have h2 := bt_strS l hl k hk
  omega
theorem befN_has {s : ByteArray} {i n : Nat} (h1 : 1 ≤ n) (h3 : n ≤ 3) (h : Has s i (beN n)) : befN s i = n := by
  have hB := hasB_has beN_in h
  have no : ∀ m, 1 ≤ m → m ≤ 3 → m ≠ n → ¬ hasB s i (strOfNums (beN m)) := fun m m1 m3 hmn hm => by
    have e1 := (hasB_iff.1 hm).2 8 (by rw [strOfNums_size, beN_10 m1]; omega)
    have e2 := (hasB_iff.1 hB).2 8 (by rw [strOfNums_size, beN_10 h1]; omega)
    have e3 := bt_strS (beN m) beN_in 8 (by rw [beN_10 m1]; omega)
    have e4 := bt_strS (beN n) beN_in 8 (by rw [beN_10 h1]; omega)
    rw [beN_8 m1 m3] at e3
    rw [beN_8 h1 h3] at e4
    omega
  unfold befN
  have hn' : n = 1 ∨ n = 2 ∨ n = 3 := by omega
  rcases hn' with rfl | rfl | rfl
  · rw [if_pos hB]
  · rw [if_neg (no 1 (by omega) (by omega) (by omega)), if_pos hB]
  · rw [if_neg (no 1 (by omega) (by omega) (by omega)), if_neg (no 2 (by omega) (by omega) (by omega)), if_pos hB]
theorem tk_bef {s : ByteArray} {i n : Nat} (h1 : 1 ≤ n) (h3 : n ≤ 3) (h : Has s i (beN n)) : tk s i = ⟨2, n, [], i, i + 10⟩ := by
  have hh : ∃ l, beN n = 91 :: l := by
    have hn' : n = 1 ∨ n = 2 ∨ n = 3 := by omega
    rcases hn' with rfl | rfl | rfl <;> exact ⟨_, rfl⟩
  obtain ⟨l, hl⟩ := hh
  have h0 := (hl ▸ h : Has s i (91 :: l)).head
  have hb : bt s i = 91 := by omega
  unfold tk
  rw [skp_here (by omega)]
  unfold tkA
  rw [if_neg (by omega), if_neg (by omega), if_neg (by omega), if_neg (by omega), if_neg (by omega), if_pos hb, befN_has h1 h3 h, if_neg (by omega)]
/-- the first byte of a part is none of the signs -/
theorem quo_head {s : ByteArray} {i : Nat} {l : List Int} (hl : l ≠ []) (h : Has s i (quo l)) : i < s.size ∧ bt s i ≠ 32 ∧ bt s i ≠ 38 ∧ bt s i ≠ 47 ∧ bt s i ≠ 61 ∧ bt s i ≠ 60 ∧ bt s i ≠ 91 := by
  cases l with
  | nil => exact absurd rfl hl
  | cons c l =>
    rw [quo_cons] at h
    by_cases hc : sp c = true
    · rw [if_pos hc] at h
      have h0 := h.left.head
      omega
    · rw [if_neg hc] at h
      have h0 := h.left.head
      rw [← h0.2] at hc
      refine ⟨h0.1, ?_, ?_, ?_, ?_, ?_, ?_⟩
      all_goals
        intro e
        rw [e] at hc
        exact hc rfl
theorem tk_part {s : ByteArray} {i : Nat} {l : List Int} (hl : l ≠ []) (h : Has s i (quo l)) (hp : pch s (i + (quo l).length) = none) : tk s i = ⟨5, 0, l, i, i + (quo l).length⟩ := by
  obtain ⟨h0, h1, h2, h3, h4, h5, h6⟩ := quo_head hl h
  have hq := part_has l i h hp
  have hne : (quo l).length ≠ 0 := by
    cases l with
    | nil => exact absurd rfl hl
    | cons c l =>
      rw [quo_cons]
      split <;> simp
  unfold tk
  rw [skp_here h1]
  unfold tkA
  rw [if_neg (by omega), if_neg h2, if_neg h3, if_neg h4, if_neg h5, if_neg h6, hq]
  rw [if_neg (by show i + _ ≠ i; omega)]
theorem pch_stop {s : ByteArray} {j : Nat} (h : s.size ≤ j ∨ bt s j = 38 ∨ bt s j = 60 ∨ bt s j = 61 ∨ bt s j = 32 ∨ bt s j = 47) : pch s j = none := by
  unfold pch
  by_cases hj : j < s.size
  · rw [if_pos hj]
    rcases h with h | h | h | h | h | h
    · omega
    all_goals
      rw [h, if_neg (by decide), if_neg (by omega)]
  · rw [if_neg hj]
/-- a rule may end there -/
def Stop (s : ByteArray) (j : Nat) : Prop := s.size ≤ j ∨ bt s j = 38 ∨ bt s j = 60 ∨ bt s j = 61 ∨ bt s j = 32
theorem rd_skp (s : ByteArray) (st i : Nat) (nx : Rl) (out : List Rl) : rd s ⟨st, i, nx, out⟩ = rd s ⟨st, skp s i, nx, out⟩ := by
  have hk := tk_skp s i
  cases ht : thn st (tk s i).kind with
  | none => rw [rd_bad (S := ⟨st, i, nx, out⟩) ht, rd_bad (S := ⟨st, skp s i, nx, out⟩) (by show thn st (tk s (skp s i)).kind = _; rw [hk]; exact ht)]; simp only; rw [hk]
  | some st' =>
    by_cases hl : lim st' < (tk s i).tx.length
    · rw [rd_part (S := ⟨st, i, nx, out⟩) ht hl, rd_part (S := ⟨st, skp s i, nx, out⟩) (st' := st') (by show thn st (tk s (skp s i)).kind = _; rw [hk]; exact ht) (by show lim st' < (tk s (skp s i)).tx.length; rw [hk]; exact hl)]; simp only; rw [hk]
    · by_cases h8 : st' = 8
      · subst h8
        rw [rd_end (S := ⟨st, i, nx, out⟩) ht, rd_end (S := ⟨st, skp s i, nx, out⟩) (by show thn st (tk s (skp s i)).kind = _; rw [hk]; exact ht)]
      · rw [rd_step (S := ⟨st, i, nx, out⟩) ht hl h8, rd_step (S := ⟨st, skp s i, nx, out⟩) (st' := st') (by show thn st (tk s (skp s i)).kind = _; rw [hk]; exact ht) (by show ¬ lim st' < (tk s (skp s i)).tx.length; rw [hk]; exact hl) h8]
        show rd s (adv ⟨st, i, nx, out⟩ st' (tk s i)) = rd s (adv ⟨st, skp s i, nx, out⟩ st' (tk s (skp s i)))
        rw [hk]
        rfl
theorem blC_nil {s : ByteArray} (h : s.size ≠ 0) : blC s ≠ [] := fun hh => by
  have := blC_len s
  rw [hh] at this
  exact h this.symm
theorem sz0 {s : ByteArray} (h : s.size = 0) : s = { data := #[] } := ByteArray.ext (Array.eq_empty_of_size_eq_zero h)
theorem thn_sg {st : Nat} (h : st = 3 ∨ st = 5 ∨ st = 7) : thn st 3 = some 4 := by unfold thn; rw [if_neg (by decide), if_neg (by decide), if_pos rfl, if_pos h]
/-- a relation is read back -/
theorem rel_rd {s : ByteArray} {st i : Nat} {nx : Rl} {out : List Rl} {x : Rl} (hok : x.ok) (hst : st = 3 ∨ st = 5 ∨ st = 7) (hx : nx.reset = x.reset ∧ nx.before = x.before ∧ nx.more = { data := #[] }) (h : Has s i (rt2 x ++ rt3 x)) (hs : Stop s (i + (rt2 x ++ rt3 x).length)) :
    ∃ st', (st' = 5 ∨ st' = 7) ∧ rd s ⟨st, i, nx, out⟩ = rd s ⟨st', i + (rt2 x ++ rt3 x).length, default, out ++ [x]⟩ := by
  obtain ⟨⟨k1, k2⟩, k3, k4, ⟨k5, k6⟩, ⟨k7, k8⟩, k9⟩ := hok
  obtain ⟨lv, hlv⟩ : ∃ k : Nat, x.level = (k : Int) := ⟨x.level.toNat, by omega⟩
  have e2 : rt2 x = sgN lv ++ quo (blC x.text) := by rw [rt2, hlv]; rfl
  have ht0 : blC x.text ≠ [] := blC_nil (by omega)
  rw [e2] at h hs ⊢
  have hsg := h.left.left
  have htx := h.left.right
  have hmo := h.right
  rw [List.length_append, ← Nat.add_assoc] at hmo
  obtain ⟨j, hj⟩ : ∃ j, j = i + (sgN lv).length := ⟨_, rfl⟩
  rw [← hj] at htx hmo
  have hq := quo_head ht0 htx
  have t1 := tk_sign (by omega) hsg (by rw [← hj]; exact hq.2.2.2.2.2.1)
  rw [← hj] at t1
  have r1 : rd s ⟨st, i, nx, out⟩ = rd s ⟨4, j, { nx with level := (lv : Int) }, out⟩ := by
    have := rd_step (s := s) (S := ⟨st, i, nx, out⟩) (st' := 4) (by show thn st (tk s i).kind = _; rw [t1]; exact thn_sg hst) (by show ¬ lim 4 < (tk s i).tx.length; rw [t1]; simp) (by decide)
    rw [this]
    show rd s (adv ⟨st, i, nx, out⟩ 4 (tk s i)) = _
    rw [t1]
    rfl
  obtain ⟨m, hm⟩ : ∃ m, m = j + (quo (blC x.text)).length := ⟨_, rfl⟩
  rw [← hm] at hmo
  have step2 : pch s m = none → rd s ⟨4, j, { nx with level := (lv : Int) }, out⟩ = rd s ⟨5, m, default, out ++ [{ nx with level := (lv : Int), text := x.text }]⟩ := fun hp => by
    have t2 := tk_part ht0 htx (by rw [← hm]; exact hp)
    rw [← hm] at t2
    have := rd_step (s := s) (S := ⟨4, j, { nx with level := (lv : Int) }, out⟩) (st' := 5) (by show thn 4 (tk s j).kind = _; rw [t2]; rfl) (by show ¬ lim 5 < (tk s j).tx.length; rw [t2]; show ¬ 3 < (blC x.text).length; rw [blC_len]; omega) (by decide)
    rw [this]
    show rd s (adv ⟨4, j, { nx with level := (lv : Int) }, out⟩ 5 (tk s j)) = _
    rw [t2]
    show rd s ⟨5, m, default, out ++ [{ nx with level := (lv : Int), text := strOfNums (blC x.text) }]⟩ = _
    rw [blC_str]
  by_cases hz : x.more.size = 0
  · have e3 : rt3 x = [] := by rw [rt3, if_pos hz]
    rw [e3, List.append_nil, List.length_append, ← Nat.add_assoc, ← hj, ← hm] at hs ⊢
    refine ⟨5, .inl rfl, ?_⟩
    rw [r1, step2 (pch_stop (by rcases hs with h | h | h | h | h <;> simp [h]))]
    have : x = { nx with level := (lv : Int), text := x.text } := by
      obtain ⟨xr, xb, xl, xt, xm⟩ := x
      obtain ⟨h1, h2, h3⟩ := hx
      simp only at h1 h2 hz hlv
      rw [sz0 hz, h1, h2, h3, hlv]
    rw [← this]
  · have e3 : rt3 x = 47 :: quo (blC x.more) := by rw [rt3, if_neg hz]; rfl
    rw [e3] at hmo hs ⊢
    have h0 := hmo.head
    have hb : bt s m = 47 := by omega
    have t3 := tk_slash h0.1 hb
    have r3 : rd s ⟨5, m, default, out ++ [{ nx with level := (lv : Int), text := x.text }]⟩ = rd s ⟨6, m + 1, default, out ++ [{ nx with level := (lv : Int), text := x.text }]⟩ := by
      have := rd_step (s := s) (S := ⟨5, m, default, out ++ [{ nx with level := (lv : Int), text := x.text }]⟩) (st' := 6) (by show thn 5 (tk s m).kind = _; rw [t3]; rfl) (by show ¬ lim 6 < (tk s m).tx.length; rw [t3]; simp) (by decide)
      rw [this]
      show rd s (adv ⟨5, m, default, _⟩ 6 (tk s m)) = _
      rw [t3]
      rfl
    have hend : i + (sgN lv ++ quo (blC x.text) ++ 47 :: quo (blC x.more)).length = m + 1 + (quo (blC x.more)).length := by
      rw [hm, hj]; simp; omega
    rw [hend] at hs ⊢
    have hm0 : blC x.more ≠ [] := blC_nil hz
    have t4 := tk_part hm0 hmo.tail (pch_stop (by rcases hs with h | h | h | h | h <;> simp [h]))
    refine ⟨7, .inr rfl, ?_⟩
    rw [r1, step2 (pch_stop (by simp [hb])), r3]
    have := rd_step (s := s) (S := ⟨6, m + 1, default, out ++ [{ nx with level := (lv : Int), text := x.text }]⟩) (st' := 7) (by show thn 6 (tk s (m + 1)).kind = _; rw [t4]; rfl) (by show ¬ lim 7 < (tk s (m + 1)).tx.length; rw [t4]; show ¬ 6 < (blC x.more).length; rw [blC_len]; omega) (by decide)
    rw [this]
    show rd s (adv ⟨6, m + 1, default, _⟩ 7 (tk s (m + 1))) = _
    rw [t4]
    show rd s ⟨7, m + 1 + (quo (blC x.more)).length, default, setMore (out ++ [{ nx with level := (lv : Int), text := x.text }]) (strOfNums (blC x.more))⟩ = _
    rw [setMore_snoc, blC_str]
    have : x = { nx with level := (lv : Int), text := x.text, more := x.more } := by
      obtain ⟨xr, xb, xl, xt, xm⟩ := x
      obtain ⟨h1, h2, h3⟩ := hx
      simp only at h1 h2 hlv
      rw [h1, h2, hlv]
    rw [← this]
/-- a rule is read back -/
theorem rule_rd {s : ByteArray} {st i : Nat} {out : List Rl} {x : Rl} (hok : x.ok) (hst : st = 0 ∨ st = 5 ∨ st = 7) (h0 : st = 0 → x.reset.size ≠ 0) (h : Has s i (rtx x)) (hs : Stop s (i + (rtx x).length)) :
    ∃ st', (st' = 5 ∨ st' = 7) ∧ rd s ⟨st, i, default, out⟩ = rd s ⟨st', i + (rtx x).length, default, out ++ [x]⟩ := by
  have hok' := hok
  obtain ⟨⟨k1, k2⟩, k3, k4, ⟨k5, k6⟩, ⟨k7, k8⟩, k9⟩ := hok'
  have er : rtx x = rt1 x ++ (rt2 x ++ rt3 x) := by rw [rtx, List.append_assoc]
  rw [er] at h hs ⊢
  rw [List.length_append, ← Nat.add_assoc] at hs ⊢
  have hr1 := h.left
  have hr2 := h.right
  by_cases hz : x.reset.size = 0
  · have e1 : rt1 x = [] := by rw [rt1, if_pos hz]
    rw [e1] at hr2 hs ⊢
    simp only [List.length_nil, Nat.add_zero] at hr2 hs ⊢
    have hb0 : x.before = 0 := by rcases k9 with h | h
                                  · exact h
                                  · exact absurd hz h
    exact rel_rd hok (by rcases hst with h | h | h
                         · exact absurd hz (h0 h)
                         · exact .inr (.inl h)
                         · exact .inr (.inr h)) ⟨(sz0 hz).symm, hb0.symm, rfl⟩ hr2 hs
  · obtain ⟨be, hbe⟩ : ∃ k : Nat, x.before = (k : Int) := ⟨x.before.toNat, by omega⟩
    have e1 : rt1 x = 38 :: (beN be ++ quo (blC x.reset)) := by rw [rt1, if_neg hz, hbe]; rfl
    have hm0 : blC x.reset ≠ [] := blC_nil hz
    have hd := (e1 ▸ hr1 : Has s i (38 :: (beN be ++ quo (blC x.reset))))
    have hh := hd.head
    have t1 := tk_and hh.1 (by omega)
    have r1 : rd s ⟨st, i, default, out⟩ = rd s ⟨1, i + 1, default, out⟩ := by
      have := rd_step (s := s) (S := ⟨st, i, default, out⟩) (st' := 1) (by show thn st (tk s i).kind = _; rw [t1]; exact thn_w hst rfl) (by show ¬ lim 1 < (tk s i).tx.length; rw [t1]; simp) (by decide)
      rw [this]
      show rd s (adv ⟨st, i, default, out⟩ 1 (tk s i)) = _
      rw [t1]
      rfl
    have hrs := hd.tail.right
    obtain ⟨j, hj⟩ : ∃ j, j = i + 1 + (beN be).length := ⟨_, rfl⟩
    rw [← hj] at hrs
    have hend : i + (rt1 x).length = j + (quo (blC x.reset)).length := by rw [e1, hj]; simp; omega
    rw [hend] at hr2 hs ⊢
    have hstop : pch s (j + (quo (blC x.reset)).length) = none := by
      have hsg := hr2.left
      rw [rt2] at hsg
      have hsg := hsg.left
      generalize x.level.toNat = lv at hsg
      have : ∃ c l, sgN lv = c :: l ∧ (c = 60 ∨ c = 61) := by
        unfold sgN
        split
        · exact ⟨_, _, rfl, .inr rfl⟩
        all_goals exact ⟨_, _, rfl, .inl rfl⟩
      obtain ⟨c, l, hc, hcc⟩ := this
      rw [hc] at hsg
      have := hsg.head
      exact pch_stop (by omega)
    have t3 := tk_part hm0 hrs hstop
    have r2 : rd s ⟨1, i + 1, default, out⟩ = rd s ⟨3, j + (quo (blC x.reset)).length, { (default : Rl) with reset := x.reset, before := x.before }, out⟩ := by
      by_cases hb0 : be = 0
      · subst hb0
        have hj' : i + 1 = j := by rw [hj]; rfl
        rw [hj']
        have := rd_step (s := s) (S := ⟨1, j, default, out⟩) (st' := 3) (by show thn 1 (tk s j).kind = _; rw [t3]; rfl) (by show ¬ lim 3 < (tk s j).tx.length; rw [t3]; show ¬ 6 < (blC x.reset).length; rw [blC_len]; omega) (by decide)
        rw [this]
        show rd s (adv ⟨1, j, default, out⟩ 3 (tk s j)) = _
        rw [t3]
        show rd s ⟨3, j + (quo (blC x.reset)).length, { (default : Rl) with reset := strOfNums (blC x.reset) }, out⟩ = _
        rw [blC_str, hbe]
        rfl
      · have t2 := tk_bef (by omega) (by omega) hd.tail.left
        have hj' : i + 1 + 10 = j := by rw [hj, beN_10 (by omega)]
        rw [hj'] at t2
        have := rd_step (s := s) (S := ⟨1, i + 1, default, out⟩) (st' := 2) (by show thn 1 (tk s (i + 1)).kind = _; rw [t2]; rfl) (by show ¬ lim 2 < (tk s (i + 1)).tx.length; rw [t2]; simp) (by decide)
        rw [this]
        show rd s (adv ⟨1, i + 1, default, out⟩ 2 (tk s (i + 1))) = _
        rw [t2]
        show rd s ⟨2, j, { (default : Rl) with before := (be : Int) }, out⟩ = _
        have := rd_step (s := s) (S := ⟨2, j, { (default : Rl) with before := (be : Int) }, out⟩) (st' := 3) (by show thn 2 (tk s j).kind = _; rw [t3]; rfl) (by show ¬ lim 3 < (tk s j).tx.length; rw [t3]; show ¬ 6 < (blC x.reset).length; rw [blC_len]; omega) (by decide)
        rw [this]
        show rd s (adv ⟨2, j, { (default : Rl) with before := (be : Int) }, out⟩ 3 (tk s j)) = _
        rw [t3]
        show rd s ⟨3, j + (quo (blC x.reset)).length, { (default : Rl) with reset := strOfNums (blC x.reset), before := (be : Int) }, out⟩ = _
        rw [blC_str, hbe]
    rw [r1, r2]
    exact rel_rd hok (.inl rfl) ⟨rfl, rfl, rfl⟩ hr2 hs
theorem rtx_head {x : Rl} : ∃ c l, rtx x = c :: l ∧ (c = 38 ∨ c = 60 ∨ c = 61) := by
  rw [rtx, List.append_assoc]
  unfold rt1
  split
  · rw [rt2]
    have : ∃ c l, sgN x.level.toNat = c :: l ∧ (c = 60 ∨ c = 61) := by
      unfold sgN
      split
      · exact ⟨_, _, rfl, .inr rfl⟩
      all_goals exact ⟨_, _, rfl, .inl rfl⟩
    obtain ⟨c, l, hc, hcc⟩ := this
    rw [hc]
    exact ⟨c, _, rfl, .inr hcc⟩
  · exact ⟨38, _, rfl, .inl rfl⟩
/-- rules are read back -/
theorem rls_rd {s : ByteArray} {f : Nat → Rl} {i : Nat} : ∀ n, (∀ j, j < n → (f j).first j) → Has s i (rls f n) → Stop s (i + (rls f n).length) →
    ∃ st, ((n = 0 ∧ st = 0) ∨ (0 < n ∧ (st = 5 ∨ st = 7))) ∧ rd s ⟨0, i, default, []⟩ = rd s ⟨st, i + (rls f n).length, default, (List.range n).map f⟩
  | 0, _, _, _ => ⟨0, .inl ⟨rfl, rfl⟩, rfl⟩
  | n + 1, hf, h, hs => by
    rw [rls_snoc] at h hs ⊢
    obtain ⟨c, l, hc, hcc⟩ := rtx_head (x := f n)
    have h2 := h.right
    have hd := (hc ▸ h2 : Has s (i + (rls f n).length) (c :: l)).head
    obtain ⟨st, hst, hr⟩ := rls_rd n (fun j hj => hf j (by omega)) h.left (by unfold Stop; omega)
    rw [List.length_append, ← Nat.add_assoc] at hs ⊢
    obtain ⟨st', hst', hr'⟩ := rule_rd (out := (List.range n).map f) (st := st) (hf n (by omega)).1 (by omega) (fun h0 => (hf n (by omega)).2 (by omega)) h2 hs
    refine ⟨st', .inr ⟨by omega, hst'⟩, ?_⟩
    rw [hr, hr', List.range_succ, List.map_append]
    rfl
/-- rules with spaces around them are read back -/
theorem rls_all {s : ByteArray} {f : Nat → Rl} {n i : Nat} (hf : ∀ j, j < n → (f j).first j) (hs : s.size ≤ 120) (h : Has s i (rls f n)) (h1 : ∀ k, k < i → bt s k = 32) (h2 : ∀ k, i + (rls f n).length ≤ k → k < s.size → bt s k = 32) : rdAll s = ((List.range n).map f, 0, 0) := by
  unfold rdAll
  rw [if_neg (by omega)]
  have hle := h.1
  have sk : ∀ m i0 e, e - i0 ≤ m → i0 ≤ e → e ≤ s.size → (∀ k, i0 ≤ k → k < e → bt s k = 32) → skp s i0 = skp s e := by
    intro m
    induction m with
    | zero => intro i0 e h1 h2 _ _; rw [show i0 = e by omega]
    | succ m ih =>
      intro i0 e h1 h2 h3 h4
      by_cases he : i0 = e
      · rw [he]
      · rw [skp_sp ⟨by omega, h4 i0 (by omega) (by omega)⟩]
        exact ih (i0 + 1) e (by omega) (by omega) h3 fun k k1 k2 => h4 k (by omega) k2
  have e1 : rd s ⟨0, 0, default, []⟩ = rd s ⟨0, i, default, []⟩ := by
    rw [rd_skp, sk i 0 i (by omega) (by omega) (by omega) (fun k _ hk => h1 k hk), ← rd_skp]
  obtain ⟨st, hst, hr⟩ := rls_rd n hf h (by
    unfold Stop
    by_cases hz : i + (rls f n).length < s.size
    · have := h2 _ (Nat.le_refl _) hz
      omega
    · omega)
  rw [e1, hr]
  have hz : skp s (i + (rls f n).length) = s.size := by
    rw [sk (s.size) _ s.size (by omega) hle (Nat.le_refl _) (fun k k1 k2 => h2 k k1 k2)]
    exact skp_no (by omega)
  have hk : (tk s (i + (rls f n).length)).kind = 7 := by unfold tk; rw [hz]; exact tkA_end.2 (Nat.le_refl _)
  rw [rd_end]
  show thn st (tk s (i + (rls f n).length)).kind = some 8
  rw [hk]
  unfold thn
  rw [if_neg (by decide), if_neg (by decide), if_neg (by decide), if_neg (by decide), if_pos rfl, if_pos (by omega)]

end Go.Proofs.Ytpclldccjpncdab
