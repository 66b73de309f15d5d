import Derived.Test.YtpclldccjpncdaaRefWr
namespace Go.Proofs.Ytpclldccjpncdaa
open Go.RowKit

set_option maxRecDepth 100000 in
set_option maxHeartbeats 1000000 in
theorem needsBackslash_any (c : Int) (w : World) : Calls Try.prog 72 #[.int .u8 c] w fun e w' => e = .returned (.bool (sp c)) ∧ w' = w := by
  by_cases h1 : c = 32
  · subst h1
    go_enter Try.func72, Try.ntmps72
    go_wp2
    go_ret
    exact ⟨rfl, rfl⟩
  by_cases h2 : c = 38
  · subst h2
    go_enter Try.func72, Try.ntmps72
    go_wp2
    go_ret
    exact ⟨rfl, rfl⟩
  by_cases h3 : c = 60
  · subst h3
    go_enter Try.func72, Try.ntmps72
    go_wp2
    go_ret
    exact ⟨rfl, rfl⟩
  by_cases h4 : c = 61
  · subst h4
    go_enter Try.func72, Try.ntmps72
    go_wp2
    go_ret
    exact ⟨rfl, rfl⟩
  by_cases h5 : c = 47
  · subst h5
    go_enter Try.func72, Try.ntmps72
    go_wp2
    go_ret
    exact ⟨rfl, rfl⟩
  by_cases h6 : c = 91
  · subst h6
    go_enter Try.func72, Try.ntmps72
    go_wp2
    go_ret
    exact ⟨rfl, rfl⟩
  by_cases h7 : c = 93
  · subst h7
    go_enter Try.func72, Try.ntmps72
    go_wp2
    go_ret
    exact ⟨rfl, rfl⟩
  by_cases h8 : c = 92
  · subst h8
    go_enter Try.func72, Try.ntmps72
    go_wp2
    go_ret
    exact ⟨rfl, rfl⟩
  have HS : Hid (sp c = false) := by show _ = _; simp [sp, sgl]; omega
  have e1 := beq_eq_false_iff_ne.2 h1
  have e2 := beq_eq_false_iff_ne.2 h2
  have e3 := beq_eq_false_iff_ne.2 h3
  have e4 := beq_eq_false_iff_ne.2 h4
  have e5 := beq_eq_false_iff_ne.2 h5
  have e6 := beq_eq_false_iff_ne.2 h6
  have e7 := beq_eq_false_iff_ne.2 h7
  have e8 := beq_eq_false_iff_ne.2 h8
  clear h1 h2 h3 h4 h5 h6 h7 h8
  go_enter Try.func72, Try.ntmps72
  go_wp2
  go_ret
  exact ⟨by rw [HS.out]; rfl, rfl⟩

set_option maxRecDepth 100000 in
set_option maxHeartbeats 1000000 in
theorem partText_any (s : ByteArray) (w : World) (hs : s.size ≤ 1000) :
    Calls Try.prog 62 #[.string s] w fun e w' => e = .returned (.string (strOfNums (quo (blC s)))) ∧ Below w.heap.size w w' := by
  obtain ⟨i0, hi0, hq0, hq1, hq2⟩ := info_parts infoByteC
  go_enter Try.func62, Try.ntmps62
  go_wp2
  go_loopw [3, 4] (fun v iv wr => ∃ (i : Nat) (us : List Int), Hid (us = quo ((blC s).take i)) ∧ i ≤ s.size ∧ iv = .int .i64 (i : Nat) ∧ Below w.heap.size w wr ∧ wr.ownsRow w.heap.size 5 1 v us.length (us.map (Value.int .u8))) (fun _ iv _ => s.size - (intOf iv).toNat)
  case atStart => exact ⟨0, [], rfl, Nat.zero_le _, rfl, Below.refl _ _, World.ownsRow_nil _ _ _ _⟩
  case round =>
    obtain ⟨i, us, HUS, hi, rfl, hbel, hown⟩ := hrel
    have HOW : Hid (wr.ownsRow w.heap.size 5 1 _ us.length (us.map (Value.int .u8))) := hown
    have hul : us.length ≤ 2000 := by
      have := quo_len ((blC s).take i)
      rw [HUS.out]
      have h2 := List.length_take_le i (blC s)
      omega
    clear hown
    have hsz := hbel.size
    by_cases hlt : i < s.size
    · obtain ⟨x, hx⟩ : ∃ x : Nat, x = (s[i]'hlt).toNat := ⟨_, rfl⟩
      have hxs : ((s[i]'hlt).toNat : Int) = x := by rw [hx]
      have hxb : x ≤ 255 := by rw [hx]; have := UInt8.toNat_lt (s[i]'hlt); omega
      have HTK : Hid ((blC s).take (i + 1) = (blC s).take i ++ [(x : Int)]) := by show _ = _; rw [blC_take s i hlt, hxs]
      clear hx
      by_cases hsp : sp x = true
      · have HUN : Hid (us ++ [92] ++ [(x : Int)] = quo ((blC s).take (i + 1))) := by show _ = _; rw [HTK.out, quo_snoc, if_pos hsp, HUS.out]; simp
        go_wp2_with fail
        refine (needsBackslash_any x _).mono ?_
        rintro e w1 ⟨rfl, hw1⟩
        obtain rfl := hw1.symm
        rw [hsp]
        go_wp2_with (first
          | (at_builtin; refine wpList_append_lies _ (by rfl) (.tmp 15) (.tmp 16) 50 (by rfl) w.heap.size 5 i0 (.int .u8 0) 1 1 Try.underlying50 hi0 hq0 hq1 hq2 rfl (by omega) _ us.length _ (by rfl) (HOW.out.alloc _) ⟨wr.heap.size, 0, none⟩ 1 1 [.int .u8 92] (by rfl) (by rfl) ?c1 ?c2 (by omega) ?c3 ?c5 ?c4 (wr.heap.size + 1) (by simp) ?_))
        case c1 => exact cell_one_new _ _ _
        case c2 => intro u hu; simp at hu; subst hu; rfl
        case c3 => unfold maxLen; omega
        case c5 => omega
        case c4 => simp; omega
        · intro g2 cap2 w2 hown2 hgrow2 _ _
          have HB2 : Hid (Below w.heap.size w w2) := ownC_grown_below (hbel.alloc hsz _) (by simp; omega) (HOW.out.alloc _) (Nat.le_refl _) hgrow2
          have HO2 : Hid (w2.ownsRow w.heap.size 5 1 (.slice (some ⟨g2, 0, none⟩) (us.length + 1) cap2) (us ++ [92]).length ((us ++ [92]).map (Value.int .u8))) := by
            show _
            rw [List.length_append, List.map_append]
            exact hown2
          obtain ⟨us2, hus2⟩ : ∃ x : List Int, x = us ++ [92] := ⟨_, rfl⟩
          rw [← hus2] at HO2 HUN
          have hu2l : us2.length = us.length + 1 := by rw [hus2]; simp
          have hz2 := hgrow2.size
          simp at hz2
          rw [← hu2l] at HO2 ⊢
          have hul2 : us2.length ≤ 2001 := by omega
          clear hown2 hgrow2 hus2 hu2l
          go_wp2_with (first
            | (at_builtin; refine wpList_append_lies _ (by rfl) (.tmp 18) (.tmp 22) 50 (by rfl) w.heap.size 5 i0 (.int .u8 0) 1 1 Try.underlying50 hi0 hq0 hq1 hq2 rfl (by omega) _ us2.length _ (by rfl) (HO2.out.alloc _) ⟨w2.heap.size, 0, none⟩ 1 1 [.int .u8 x] (by rfl) (by rfl) ?d1 ?d2 (by omega) ?d3 ?d5 ?d4 (w2.heap.size + 1) (by simp) ?_))
          case d1 => exact cell_one_new _ _ _
          case d2 => intro u hu; simp at hu; subst hu; rfl
          case d3 => unfold maxLen; omega
          case d5 => omega
          case d4 => simp; omega
          · intro g3 cap3 w3 hown3 hgrow3 _ _
            have HB3 : Hid (Below w.heap.size w w3) := ownC_grown_below (below_then HB2.out (below_one _)) (by simp; omega) (HO2.out.alloc _) (Nat.le_refl _) hgrow3
            have HO3 : Hid (w3.ownsRow w.heap.size 5 1 (.slice (some ⟨g3, 0, none⟩) (us2.length + 1) cap3) (us2 ++ [(x : Int)]).length ((us2 ++ [(x : Int)]).map (Value.int .u8))) := by
              show _
              rw [List.length_append, List.map_append]
              exact hown3
            clear hown3 hgrow3
            go_wp2
            go_roundw
            case rel => exact ⟨i + 1, us2 ++ [(x : Int)], HUN.out, by omega, by go_num, HB3.out, HO3.out⟩
            case measure => simp [intOf]; omega
      · have hsp' : sp x = false := by simpa using hsp
        have HUN : Hid (us ++ [(x : Int)] = quo ((blC s).take (i + 1))) := by show _ = _; rw [HTK.out, quo_snoc, if_neg hsp, HUS.out]
        clear hsp
        go_wp2_with fail
        refine (needsBackslash_any x _).mono ?_
        rintro e w1 ⟨rfl, hw1⟩
        obtain rfl := hw1.symm
        rw [hsp']
        go_wp2_with (first
          | (at_builtin; refine wpList_append_lies _ (by rfl) (.tmp 18) (.tmp 22) 50 (by rfl) w.heap.size 5 i0 (.int .u8 0) 1 1 Try.underlying50 hi0 hq0 hq1 hq2 rfl (by omega) _ us.length _ (by rfl) (HOW.out.alloc _) ⟨wr.heap.size, 0, none⟩ 1 1 [.int .u8 x] (by rfl) (by rfl) ?d1 ?d2 (by omega) ?d3 ?d5 ?d4 (wr.heap.size + 1) (by simp) ?_))
        case d1 => exact cell_one_new _ _ _
        case d2 => intro u hu; simp at hu; subst hu; rfl
        case d3 => unfold maxLen; omega
        case d5 => omega
        case d4 => simp; omega
        · intro g3 cap3 w3 hown3 hgrow3 _ _
          have HB3 : Hid (Below w.heap.size w w3) := ownC_grown_below (hbel.alloc hsz _) (by simp; omega) (HOW.out.alloc _) (Nat.le_refl _) hgrow3
          have HO3 : Hid (w3.ownsRow w.heap.size 5 1 (.slice (some ⟨g3, 0, none⟩) (us.length + 1) cap3) (us ++ [(x : Int)]).length ((us ++ [(x : Int)]).map (Value.int .u8))) := by
            show _
            rw [List.length_append, List.map_append]
            exact hown3
          clear hown3 hgrow3
          go_wp2
          go_roundw
          case rel => exact ⟨i + 1, us ++ [(x : Int)], HUN.out, by omega, by go_num, HB3.out, HO3.out⟩
          case measure => simp [intOf]; omega
    · have hie : i = s.size := by omega
      subst hie
      obtain ⟨vo9, vc9, hv9, hcv⟩ := convC HOW.out
      subst hv9
      have HE : Hid (us = quo (blC s)) := by
        show _ = _
        rw [HUS.out, List.take_of_length_le (by rw [blC_len]; exact Nat.le_refl _)]
      go_wp2
      go_ret
      exact ⟨by rw [← HE.out]; rfl, hbel⟩

theorem beforeSign_any (n : Nat) (w : World) (hn : n ≤ 3) : Calls Try.prog 63 #[.int .i64 (n : Nat)] w fun e w' => e = .returned (.string (strOfNums (beN n))) ∧ w' = w := by
  have : n = 0 ∨ n = 1 ∨ n = 2 ∨ n = 3 := by omega
  rcases this with rfl | rfl | rfl | rfl
  all_goals
    go_enter Try.func63, Try.ntmps63
    go_wp2
    go_ret
    exact ⟨rfl, rfl⟩
theorem relationSign_any (n : Nat) (w : World) (hn : n ≤ 3) : Calls Try.prog 61 #[.int .i64 (n : Nat)] w fun e w' => e = .returned (.string (strOfNums (sgN n))) ∧ w' = w := by
  have : n = 0 ∨ n = 1 ∨ n = 2 ∨ n = 3 := by omega
  rcases this with rfl | rfl | rfl | rfl
  all_goals
    go_enter Try.func61, Try.ntmps61
    go_wp2
    go_ret
    exact ⟨rfl, rfl⟩

set_option maxRecDepth 100000 in
set_option maxHeartbeats 1000000 in
theorem ruleIsRule_any (x : Rl) (w : World) (hs : x.reset.size ≤ 140737488351232 ∧ x.text.size ≤ 140737488351232 ∧ x.more.size ≤ 140737488351232) :
    Calls Try.prog 60 #[.agg #[.string x.reset, .int .i64 x.before, .int .i64 x.level, .string x.text, .string x.more]] w fun e w' => e = .returned (.bool (decide x.ok)) ∧ Below w.heap.size w w' := by
  obtain ⟨reset, before, level, text, more⟩ := x
  simp only at hs ⊢
  obtain ⟨h1, h2, h3⟩ := hs
  by_cases a1 : text.size = 0
  · have HV : Hid (decide (Rl.ok ⟨reset, before, level, text, more⟩) = false) := by show _ = _; simp [Rl.ok]; omega
    have a1' : ((text.size : Int) == 0) = true := by simp [a1]
    clear a1
    go_enter Try.func60, Try.ntmps60
    go_wp2
    go_ret
    exact ⟨by rw [HV.out]; rfl, below_one _⟩
  have a1' : ((text.size : Int) == 0) = false := beq_eq_false_iff_ne.2 (by omega)
  by_cases a2 : 3 < text.size
  · have HV : Hid (decide (Rl.ok ⟨reset, before, level, text, more⟩) = false) := by show _ = _; simp [Rl.ok]; omega
    clear a1
    go_enter Try.func60, Try.ntmps60
    go_wp2
    go_ret
    exact ⟨by rw [HV.out]; rfl, below_one _⟩
  by_cases a3 : 6 < more.size
  · have HV : Hid (decide (Rl.ok ⟨reset, before, level, text, more⟩) = false) := by show _ = _; simp [Rl.ok]; omega
    clear a1
    go_enter Try.func60, Try.ntmps60
    go_wp2
    go_ret
    exact ⟨by rw [HV.out]; rfl, below_one _⟩
  by_cases a4 : 6 < reset.size
  · have HV : Hid (decide (Rl.ok ⟨reset, before, level, text, more⟩) = false) := by show _ = _; simp [Rl.ok]; omega
    clear a1
    go_enter Try.func60, Try.ntmps60
    go_wp2
    go_ret
    exact ⟨by rw [HV.out]; rfl, below_one _⟩
  by_cases a5 : level < 0
  · have HV : Hid (decide (Rl.ok ⟨reset, before, level, text, more⟩) = false) := by show _ = _; simp [Rl.ok]; omega
    clear a1
    go_enter Try.func60, Try.ntmps60
    go_wp2
    go_ret
    exact ⟨by rw [HV.out]; rfl, below_one _⟩
  by_cases a6 : 3 < level
  · have HV : Hid (decide (Rl.ok ⟨reset, before, level, text, more⟩) = false) := by show _ = _; simp [Rl.ok]; omega
    clear a1
    go_enter Try.func60, Try.ntmps60
    go_wp2
    go_ret
    exact ⟨by rw [HV.out]; rfl, below_one _⟩
  by_cases a7 : before < 0
  · have HV : Hid (decide (Rl.ok ⟨reset, before, level, text, more⟩) = false) := by show _ = _; simp [Rl.ok]; omega
    clear a1
    go_enter Try.func60, Try.ntmps60
    go_wp2
    go_ret
    exact ⟨by rw [HV.out]; rfl, below_one _⟩
  by_cases a8 : 3 < before
  · have HV : Hid (decide (Rl.ok ⟨reset, before, level, text, more⟩) = false) := by show _ = _; simp [Rl.ok]; omega
    clear a1
    go_enter Try.func60, Try.ntmps60
    go_wp2
    go_ret
    exact ⟨by rw [HV.out]; rfl, below_one _⟩
  by_cases a9 : before = 0
  · have HV : Hid (decide (Rl.ok ⟨reset, before, level, text, more⟩) = true) := by show _ = _; simp [Rl.ok]; omega
    subst a9
    clear a1
    go_enter Try.func60, Try.ntmps60
    go_wp2
    go_ret
    exact ⟨by rw [HV.out]; rfl, below_one _⟩
  · have a9' : (before == 0) = false := beq_eq_false_iff_ne.2 a9
    by_cases b1 : reset.size = 0
    · have HV : Hid (decide (Rl.ok ⟨reset, before, level, text, more⟩) = false) := decide_eq_false (fun h => by obtain ⟨_, _, _, _, _, h6⟩ := h; simp only at h6; omega)
      have b2 : reset.toList.isEmpty = true := by rw [empty_iff]; simp [b1]
      clear a9 a1
      go_enter Try.func60, Try.ntmps60
      go_wp2
      go_ret
      exact ⟨by rw [HV.out]; rfl, below_one _⟩
    · have HV : Hid (decide (Rl.ok ⟨reset, before, level, text, more⟩) = true) := decide_eq_true ⟨⟨by show _ ≤ text.size; omega, by show text.size ≤ _; omega⟩, by show more.size ≤ _; omega, by show reset.size ≤ _; omega, ⟨by show _ ≤ level; omega, by show level ≤ _; omega⟩, ⟨by show _ ≤ before; omega, by show before ≤ _; omega⟩, .inr b1⟩
      have b2 : reset.toList.isEmpty = false := by rw [empty_iff]; simp [b1]
      clear a9 a1
      go_enter Try.func60, Try.ntmps60
      go_wp2
      go_ret
      exact ⟨by rw [HV.out]; rfl, below_one _⟩

end Go.Proofs.Ytpclldccjpncdaa
