import Derived.Test.YtpclldccjpncdabGreatM19
namespace Go.Proofs.YtpclldccjpncdabGreat
open Go.RowKit

/-- the eight bytes that want a backslash, in the document's order -/
def sgl : List Int := [32, 38, 60, 61, 47, 91, 93, 92]
/-- a byte that stands for itself only behind a backslash -/
def sp (c : Int) : Bool := sgl.contains c

set_option maxRecDepth 100000 in
set_option maxHeartbeats 1000000 in
theorem special_any (c : Int) (w : World) : Calls Tryz.prog 84 #[.int .u8 c] w fun e w' => e = .returned (.bool (sp c)) ∧ w' = w := by
  go_enter Tryz.func84, Tryz.ntmps84
  go_wp2
  go_loopw [3] (fun iv wr => ∃ i : Nat, i ≤ 8 ∧ iv = .int .i64 (i : Nat) ∧ wr = w ∧ Hid (∀ j, j < i → sgl.getD j 0 ≠ c)) (fun iv _ => 8 - (intOf iv).toNat)
  case atStart => exact ⟨0, Nat.zero_le _, rfl, rfl, fun j hj => by omega⟩
  case round =>
    obtain ⟨i, hi, rfl, hw, HN⟩ := hrel
    obtain rfl := hw.symm
    clear hw
    have q0 : ((({ data := #[32, 38, 60, 61, 47, 91, 93, 92] } : ByteArray)[0]'(by decide)).toNat : Int) = 32 := rfl
    have q1 : ((({ data := #[32, 38, 60, 61, 47, 91, 93, 92] } : ByteArray)[1]'(by decide)).toNat : Int) = 38 := rfl
    have q2 : ((({ data := #[32, 38, 60, 61, 47, 91, 93, 92] } : ByteArray)[2]'(by decide)).toNat : Int) = 60 := rfl
    have q3 : ((({ data := #[32, 38, 60, 61, 47, 91, 93, 92] } : ByteArray)[3]'(by decide)).toNat : Int) = 61 := rfl
    have q4 : ((({ data := #[32, 38, 60, 61, 47, 91, 93, 92] } : ByteArray)[4]'(by decide)).toNat : Int) = 47 := rfl
    have q5 : ((({ data := #[32, 38, 60, 61, 47, 91, 93, 92] } : ByteArray)[5]'(by decide)).toNat : Int) = 91 := rfl
    have q6 : ((({ data := #[32, 38, 60, 61, 47, 91, 93, 92] } : ByteArray)[6]'(by decide)).toNat : Int) = 93 := rfl
    have q7 : ((({ data := #[32, 38, 60, 61, 47, 91, 93, 92] } : ByteArray)[7]'(by decide)).toNat : Int) = 92 := rfl
    by_cases hlt : i < 8
    · by_cases hc : sgl.getD i 0 = c
      · have HS : Hid (true = sp c) := by
          show true = sp c
          rw [← hc]
          have : i = 0 ∨ i = 1 ∨ i = 2 ∨ i = 3 ∨ i = 4 ∨ i = 5 ∨ i = 6 ∨ i = 7 := by omega
          rcases this with rfl | rfl | rfl | rfl | rfl | rfl | rfl | rfl <;> rfl
        have : i = 0 ∨ i = 1 ∨ i = 2 ∨ i = 3 ∨ i = 4 ∨ i = 5 ∨ i = 6 ∨ i = 7 := by omega
        rcases this with rfl | rfl | rfl | rfl | rfl | rfl | rfl | rfl
        all_goals
          simp [sgl] at hc
          subst hc
          go_wp2
          go_ret
          exact ⟨by rw [← HS.out]; rfl, rfl⟩
      · have HN' : Hid (∀ j, j < i + 1 → sgl.getD j 0 ≠ c) := fun j hj => by
          by_cases e : j = i
          · rw [e]; exact hc
          · exact HN.out j (by omega)
        have : i = 0 ∨ i = 1 ∨ i = 2 ∨ i = 3 ∨ i = 4 ∨ i = 5 ∨ i = 6 ∨ i = 7 := by omega
        rcases this with rfl | rfl | rfl | rfl | rfl | rfl | rfl | rfl
        all_goals
          simp [sgl] at hc
          have hc' := beq_eq_false_iff_ne.2 hc
          clear hc
          go_wp2
          go_roundw
          case rel => exact ⟨_, by omega, by go_num, by trivial, HN'⟩
          case measure => simp [intOf]
    · have hie : i = 8 := by omega
      subst hie
      have HS : Hid (false = sp c) := by
        show false = sp c
        have h0 := HN.out 0 (by omega)
        have h1 := HN.out 1 (by omega)
        have h2 := HN.out 2 (by omega)
        have h3 := HN.out 3 (by omega)
        have h4 := HN.out 4 (by omega)
        have h5 := HN.out 5 (by omega)
        have h6 := HN.out 6 (by omega)
        have h7 := HN.out 7 (by omega)
        simp [sgl] at h0 h1 h2 h3 h4 h5 h6 h7
        simp [sp, sgl]
        omega
      go_wp2
      go_ret
      exact ⟨by rw [← HS.out]; rfl, rfl⟩

/-- a part as it is written -/
def quo (l : List Int) : List Int := l.flatMap fun c => if sp c then [92, c] else [c]
theorem quo_snoc (l : List Int) (c : Int) : quo (l ++ [c]) = quo l ++ (if sp c then [92, c] else [c]) := by simp [quo]
theorem quo_len : ∀ l : List Int, (quo l).length ≤ l.length * 2
  | [] => by simp [quo]
  | c :: l => by
    have := quo_len l
    have h2 : (if sp c then [92, c] else [c]).length ≤ 2 := by split <;> simp
    have h3 : quo (c :: l) = (if sp c then [92, c] else [c]) ++ quo l := by simp [quo]
    rw [h3, List.length_append, List.length_cons]
    omega
theorem blC_at (s : ByteArray) (i : Nat) (h : i < s.size) : (blC s).getD i 0 = ((s[i]'h).toNat : Int) := by
  have h' : i < s.data.size := h
  rw [blC, List.getD_eq_getElem?_getD, List.getElem?_map, Array.getElem?_toList, Array.getElem?_eq_getElem h']
  rfl
theorem blC_take (s : ByteArray) (i : Nat) (h : i < s.size) : (blC s).take (i + 1) = (blC s).take i ++ [((s[i]'h).toNat : Int)] := by
  have hl : i < (blC s).length := by rw [blC_len]; exact h
  rw [List.take_succ_eq_append_getElem hl]
  congr 2
  have := blC_at s i h
  rw [List.getD, List.getElem?_eq_getElem hl] at this
  exact this

set_option maxRecDepth 100000 in
set_option maxHeartbeats 1000000 in
theorem quoted_any (s : ByteArray) (w : World) (hs : s.size ≤ 1000) :
    Calls Tryz.prog 59 #[.string s] w fun e w' => e = .returned (.string (strOfNums (quo (blC s)))) ∧ Below w.heap.size w w' := by
  obtain ⟨i0, hi0, hq0, hq1, hq2⟩ := info_parts infoByteC
  go_enter Tryz.func59, Tryz.ntmps59
  go_wp2
  go_loopw [3, 4] (fun v iv wr => ∃ (i : Nat) (us : List Int), Hid (us = quo ((blC s).take i)) ∧ i ≤ s.size ∧ iv = .int .i64 (i : Nat) ∧ Below w.heap.size w wr ∧ wr.ownsRow w.heap.size 5 1 v us.length (us.map (Value.int .u8))) (fun _ iv _ => s.size - (intOf iv).toNat)
  case atStart => exact ⟨0, [], rfl, Nat.zero_le _, rfl, Below.refl _ _, World.ownsRow_nil _ _ _ _⟩
  case round =>
    obtain ⟨i, us, HUS, hi, rfl, hbel, hown⟩ := hrel
    have HOW : Hid (wr.ownsRow w.heap.size 5 1 _ us.length (us.map (Value.int .u8))) := hown
    have hul : us.length ≤ 2000 := by
      have := quo_len ((blC s).take i)
      rw [HUS.out]
      have h2 := List.length_take_le i (blC s)
      omega
    clear hown
    have hsz := hbel.size
    by_cases hlt : i < s.size
    · obtain ⟨x, hx⟩ : ∃ x : Nat, x = (s[i]'hlt).toNat := ⟨_, rfl⟩
      have hxs : ((s[i]'hlt).toNat : Int) = x := by rw [hx]
      have hxb : x ≤ 255 := by rw [hx]; have := UInt8.toNat_lt (s[i]'hlt); omega
      have HTK : Hid ((blC s).take (i + 1) = (blC s).take i ++ [(x : Int)]) := by show _ = _; rw [blC_take s i hlt, hxs]
      clear hx
      by_cases hsp : sp x = true
      · have HUN : Hid (us ++ [92] ++ [(x : Int)] = quo ((blC s).take (i + 1))) := by show _ = _; rw [HTK.out, quo_snoc, if_pos hsp, HUS.out]; simp
        go_wp2_with fail
        refine (special_any x _).mono ?_
        rintro e w1 ⟨rfl, hw1⟩
        obtain rfl := hw1.symm
        rw [hsp]
        go_wp2_with (first
          | (at_builtin; refine wpList_append_lies _ (by rfl) (.tmp 17) (.tmp 18) 73 (by rfl) w.heap.size 5 i0 (.int .u8 0) 1 1 Tryz.underlying73 hi0 hq0 hq1 hq2 rfl (by omega) _ us.length _ (by rfl) (HOW.out.alloc _) ⟨wr.heap.size, 0, none⟩ 1 1 [.int .u8 92] (by rfl) (by rfl) ?c1 ?c2 (by omega) ?c3 ?c5 ?c4 (wr.heap.size + 1) (by simp) ?_))
        case c1 => exact cell_one_new _ _ _
        case c2 => intro u hu; simp at hu; subst hu; rfl
        case c3 => unfold maxLen; omega
        case c5 => omega
        case c4 => simp; omega
        · intro g2 cap2 w2 hown2 hgrow2 _ _
          have HB2 : Hid (Below w.heap.size w w2) := ownC_grown_below (hbel.alloc hsz _) (by simp; omega) (HOW.out.alloc _) (Nat.le_refl _) hgrow2
          have HO2 : Hid (w2.ownsRow w.heap.size 5 1 (.slice (some ⟨g2, 0, none⟩) (us.length + 1) cap2) (us ++ [92]).length ((us ++ [92]).map (Value.int .u8))) := by
            show _
            rw [List.length_append, List.map_append]
            exact hown2
          obtain ⟨us2, hus2⟩ : ∃ x : List Int, x = us ++ [92] := ⟨_, rfl⟩
          rw [← hus2] at HO2 HUN
          have hu2l : us2.length = us.length + 1 := by rw [hus2]; simp
          have hz2 := hgrow2.size
          simp at hz2
          rw [← hu2l] at HO2 ⊢
          have hul2 : us2.length ≤ 2001 := by omega
          clear hown2 hgrow2 hus2 hu2l
          go_wp2_with (first
            | (at_builtin; refine wpList_append_lies _ (by rfl) (.tmp 20) (.tmp 24) 73 (by rfl) w.heap.size 5 i0 (.int .u8 0) 1 1 Tryz.underlying73 hi0 hq0 hq1 hq2 rfl (by omega) _ us2.length _ (by rfl) (HO2.out.alloc _) ⟨w2.heap.size, 0, none⟩ 1 1 [.int .u8 x] (by rfl) (by rfl) ?d1 ?d2 (by omega) ?d3 ?d5 ?d4 (w2.heap.size + 1) (by simp) ?_))
          case d1 => exact cell_one_new _ _ _
          case d2 => intro u hu; simp at hu; subst hu; rfl
          case d3 => unfold maxLen; omega
          case d5 => omega
          case d4 => simp; omega
          · intro g3 cap3 w3 hown3 hgrow3 _ _
            have HB3 : Hid (Below w.heap.size w w3) := ownC_grown_below (below_then HB2.out (below_one _)) (by simp; omega) (HO2.out.alloc _) (Nat.le_refl _) hgrow3
            have HO3 : Hid (w3.ownsRow w.heap.size 5 1 (.slice (some ⟨g3, 0, none⟩) (us2.length + 1) cap3) (us2 ++ [(x : Int)]).length ((us2 ++ [(x : Int)]).map (Value.int .u8))) := by
              show _
              rw [List.length_append, List.map_append]
              exact hown3
            clear hown3 hgrow3
            go_wp2
            go_roundw
            case rel => exact ⟨i + 1, us2 ++ [(x : Int)], HUN.out, by omega, by go_num, HB3.out, HO3.out⟩
            case measure => simp [intOf]; omega
      · have hsp' : sp x = false := by simpa using hsp
        have HUN : Hid (us ++ [(x : Int)] = quo ((blC s).take (i + 1))) := by show _ = _; rw [HTK.out, quo_snoc, if_neg hsp, HUS.out]
        clear hsp
        go_wp2_with fail
        refine (special_any x _).mono ?_
        rintro e w1 ⟨rfl, hw1⟩
        obtain rfl := hw1.symm
        rw [hsp']
        go_wp2_with (first
          | (at_builtin; refine wpList_append_lies _ (by rfl) (.tmp 20) (.tmp 24) 73 (by rfl) w.heap.size 5 i0 (.int .u8 0) 1 1 Tryz.underlying73 hi0 hq0 hq1 hq2 rfl (by omega) _ us.length _ (by rfl) (HOW.out.alloc _) ⟨wr.heap.size, 0, none⟩ 1 1 [.int .u8 x] (by rfl) (by rfl) ?d1 ?d2 (by omega) ?d3 ?d5 ?d4 (wr.heap.size + 1) (by simp) ?_))
        case d1 => exact cell_one_new _ _ _
        case d2 => intro u hu; simp at hu; subst hu; rfl
        case d3 => unfold maxLen; omega
        case d5 => omega
        case d4 => simp; omega
        · intro g3 cap3 w3 hown3 hgrow3 _ _
          have HB3 : Hid (Below w.heap.size w w3) := ownC_grown_below (hbel.alloc hsz _) (by simp; omega) (HOW.out.alloc _) (Nat.le_refl _) hgrow3
          have HO3 : Hid (w3.ownsRow w.heap.size 5 1 (.slice (some ⟨g3, 0, none⟩) (us.length + 1) cap3) (us ++ [(x : Int)]).length ((us ++ [(x : Int)]).map (Value.int .u8))) := by
            show _
            rw [List.length_append, List.map_append]
            exact hown3
          clear hown3 hgrow3
          go_wp2
          go_roundw
          case rel => exact ⟨i + 1, us ++ [(x : Int)], HUN.out, by omega, by go_num, HB3.out, HO3.out⟩
          case measure => simp [intOf]; omega
    · have hie : i = s.size := by omega
      subst hie
      obtain ⟨vo9, vc9, hv9, hcv⟩ := convC HOW.out
      subst hv9
      have HE : Hid (us = quo (blC s)) := by
        show _ = _
        rw [HUS.out, List.take_of_length_le (by rw [blC_len]; exact Nat.le_refl _)]
      go_wp2
      go_ret
      exact ⟨by rw [← HE.out]; rfl, hbel⟩

end Go.Proofs.YtpclldccjpncdabGreat

namespace Go.Proofs.YtpclldccjpncdabGreat
open Go.RowKit

/-- a rule that may be written -/
def Rl.ok (x : Rl) : Prop := (1 ≤ x.text.size ∧ x.text.size ≤ 3) ∧ x.more.size ≤ 6 ∧ x.reset.size ≤ 6 ∧ (0 ≤ x.level ∧ x.level ≤ 3) ∧ (0 ≤ x.before ∧ x.before ≤ 3) ∧ (x.before = 0 ∨ x.reset.size ≠ 0)
instance (x : Rl) : Decidable x.ok := by unfold Rl.ok; infer_instance
theorem empty_iff {s : ByteArray} : s.toList.isEmpty = decide (s.size = 0) := by
  by_cases h : s.size = 0
  · have h3 : s = ByteArray.empty := ByteArray.ext (Array.eq_empty_of_size_eq_zero h)
    subst h3
    simp
  · have : s.toList.isEmpty = false := by
      cases hq : s.toList with
      | cons a b => rfl
      | nil =>
        exfalso
        have h3 : s = ByteArray.empty := bytes_eq.1 (hq.trans (by simp))
        rw [h3] at h
        exact h rfl
    simp [this, h]

set_option maxRecDepth 100000 in
set_option maxHeartbeats 1000000 in
theorem isRule_any (x : Rl) (w : World) (hs : x.reset.size ≤ 140737488351232 ∧ x.text.size ≤ 140737488351232 ∧ x.more.size ≤ 140737488351232) :
    Calls Tryz.prog 58 #[.agg #[.string x.reset, .int .i64 x.before, .int .i64 x.level, .string x.text, .string x.more]] w fun e w' => e = .returned (.bool (decide x.ok)) ∧ Below w.heap.size w w' := by
  obtain ⟨reset, before, level, text, more⟩ := x
  simp only at hs ⊢
  obtain ⟨h1, h2, h3⟩ := hs
  by_cases a1 : text.size < 1
  · have HV : Hid (decide (Rl.ok ⟨reset, before, level, text, more⟩) = false) := by show _ = _; simp [Rl.ok]; omega
    go_enter Tryz.func58, Tryz.ntmps58
    go_wp2
    go_ret
    exact ⟨by rw [HV.out]; rfl, below_one _⟩
  by_cases a2 : 3 < text.size
  · have HV : Hid (decide (Rl.ok ⟨reset, before, level, text, more⟩) = false) := by show _ = _; simp [Rl.ok]; omega
    go_enter Tryz.func58, Tryz.ntmps58
    go_wp2
    go_ret
    exact ⟨by rw [HV.out]; rfl, below_one _⟩
  by_cases a3 : 6 < more.size
  · have HV : Hid (decide (Rl.ok ⟨reset, before, level, text, more⟩) = false) := by show _ = _; simp [Rl.ok]; omega
    go_enter Tryz.func58, Tryz.ntmps58
    go_wp2
    go_ret
    exact ⟨by rw [HV.out]; rfl, below_one _⟩
  by_cases a4 : 6 < reset.size
  · have HV : Hid (decide (Rl.ok ⟨reset, before, level, text, more⟩) = false) := by show _ = _; simp [Rl.ok]; omega
    go_enter Tryz.func58, Tryz.ntmps58
    go_wp2
    go_ret
    exact ⟨by rw [HV.out]; rfl, below_one _⟩
  by_cases a5 : level < 0
  · have HV : Hid (decide (Rl.ok ⟨reset, before, level, text, more⟩) = false) := by show _ = _; simp [Rl.ok]; omega
    go_enter Tryz.func58, Tryz.ntmps58
    go_wp2
    go_ret
    exact ⟨by rw [HV.out]; rfl, below_one _⟩
  by_cases a6 : 3 < level
  · have HV : Hid (decide (Rl.ok ⟨reset, before, level, text, more⟩) = false) := by show _ = _; simp [Rl.ok]; omega
    go_enter Tryz.func58, Tryz.ntmps58
    go_wp2
    go_ret
    exact ⟨by rw [HV.out]; rfl, below_one _⟩
  by_cases a7 : before < 0
  · have HV : Hid (decide (Rl.ok ⟨reset, before, level, text, more⟩) = false) := by show _ = _; simp [Rl.ok]; omega
    go_enter Tryz.func58, Tryz.ntmps58
    go_wp2
    go_ret
    exact ⟨by rw [HV.out]; rfl, below_one _⟩
  by_cases a8 : 3 < before
  · have HV : Hid (decide (Rl.ok ⟨reset, before, level, text, more⟩) = false) := by show _ = _; simp [Rl.ok]; omega
    go_enter Tryz.func58, Tryz.ntmps58
    go_wp2
    go_ret
    exact ⟨by rw [HV.out]; rfl, below_one _⟩
  by_cases a9 : before = 0
  · have HV : Hid (decide (Rl.ok ⟨reset, before, level, text, more⟩) = true) := by show _ = _; simp [Rl.ok]; omega
    subst a9
    go_enter Tryz.func58, Tryz.ntmps58
    go_wp2
    go_ret
    exact ⟨by rw [HV.out]; rfl, below_one _⟩
  · have a9' : (before == 0) = false := beq_eq_false_iff_ne.2 a9
    by_cases b1 : reset.size = 0
    · have HV : Hid (decide (Rl.ok ⟨reset, before, level, text, more⟩) = false) := decide_eq_false (fun h => by obtain ⟨_, _, _, _, _, h6⟩ := h; simp only at h6; omega)
      have b2 : reset.toList.isEmpty = true := by rw [empty_iff]; simp [b1]
      clear a9
      go_enter Tryz.func58, Tryz.ntmps58
      go_wp2
      go_ret
      exact ⟨by rw [HV.out]; rfl, below_one _⟩
    · have HV : Hid (decide (Rl.ok ⟨reset, before, level, text, more⟩) = true) := decide_eq_true ⟨⟨by show _ ≤ text.size; omega, by show text.size ≤ _; omega⟩, by show more.size ≤ _; omega, by show reset.size ≤ _; omega, ⟨by show _ ≤ level; omega, by show level ≤ _; omega⟩, ⟨by show _ ≤ before; omega, by show before ≤ _; omega⟩, .inr b1⟩
      have b2 : reset.toList.isEmpty = false := by rw [empty_iff]; simp [b1]
      clear a9
      go_enter Tryz.func58, Tryz.ntmps58
      go_wp2
      go_ret
      exact ⟨by rw [HV.out]; rfl, below_one _⟩

end Go.Proofs.YtpclldccjpncdabGreat

namespace Go.Proofs.YtpclldccjpncdabGreat
open Go.RowKit

/-- the character at a place: what it stands for, and where it ends -/
def pch (s : ByteArray) (i : Nat) : Option (Int × Nat) :=
  if i < s.size then (if sp (bt s i) = false then some (((bt s i : Nat) : Int), i + 1) else if bt s i = 92 ∧ i + 1 < s.size then some (((bt s (i + 1) : Nat) : Int), i + 2) else none) else none
/-- the characters that stand at a place, and where they end -/
def prt (s : ByteArray) : Nat → Nat → List Int × Nat
  | 0, i => ([], i)
  | k + 1, i => match pch s i with
    | none => ([], i)
    | some (c, j) => (c :: (prt s k j).1, (prt s k j).2)
theorem pch_lt {s : ByteArray} {i : Nat} {c : Int} {j : Nat} (h : pch s i = some (c, j)) : i < s.size ∧ i < j ∧ j ≤ s.size ∧ 0 ≤ c ∧ c ≤ 255 := by
  unfold pch at h
  have b1 := bt_le s i
  have b2 := bt_le s (i + 1)
  split at h
  · split at h
    · cases h; omega
    · split at h
      · cases h; omega
      · cases h
  · cases h
/-- more rounds than there are bytes left change nothing -/
theorem prt_fuel (s : ByteArray) : ∀ k k' i, s.size - i ≤ k → s.size - i ≤ k' → prt s k i = prt s k' i
  | 0, 0, _, _, _ => rfl
  | 0, k' + 1, i, h, _ => by
    have hn : pch s i = none := by unfold pch; rw [if_neg (by omega)]
    simp [prt, hn]
  | k + 1, 0, i, _, h => by
    have hn : pch s i = none := by unfold pch; rw [if_neg (by omega)]
    simp [prt, hn]
  | k + 1, k' + 1, i, h, h' => by
    unfold prt
    cases hp : pch s i with
    | none => rfl
    | some x =>
      obtain ⟨c, j⟩ := x
      have hl := pch_lt hp
      simp only
      rw [prt_fuel s k k' j (by omega) (by omega)]
/-- the part at a place -/
def part (s : ByteArray) (i : Nat) : List Int × Nat := prt s s.size i
theorem part_none {s : ByteArray} {i : Nat} (h : pch s i = none) : part s i = ([], i) := by
  unfold part
  cases hq : s.size with
  | zero => rfl
  | succ k => simp [prt, h]
theorem part_some {s : ByteArray} {i : Nat} {c : Int} {j : Nat} (h : pch s i = some (c, j)) : part s i = (c :: (part s j).1, (part s j).2) := by
  have hl := pch_lt h
  unfold part
  rw [prt_fuel s s.size (s.size - 1 + 1) i (by omega) (by omega)]
  show (match pch s i with | none => ([], i) | some (c, j) => (c :: (prt s (s.size - 1) j).1, (prt s (s.size - 1) j).2)) = _
  rw [h, prt_fuel s s.size (s.size - 1) j (by omega) (by omega)]

set_option maxRecDepth 100000 in
set_option maxHeartbeats 1000000 in
theorem begins_any (s u : ByteArray) (i : Nat) (w : World) (hs : s.size ≤ 1000) (hu : u.size ≤ 1000) (hi : i ≤ s.size) :
    Calls Tryz.prog 80 #[.string s, .int .i64 (i : Nat), .string u] w fun e w' => e = .returned (.bool (decide (i + u.size ≤ s.size ∧ sub s i u.size = u))) ∧ w' = w := by
  by_cases h1 : i + u.size ≤ s.size
  · by_cases h2 : sub s i u.size = u
    · have HV : Hid (decide (i + u.size ≤ s.size ∧ sub s i u.size = u) = true) := decide_eq_true ⟨h1, h2⟩
      have h3 : ((s.extract i (i + u.size)).toList == u.toList) = true := by
        have : s.extract i (i + u.size) = u := h2
        rw [this]; simp
      go_enter Tryz.func80, Tryz.ntmps80
      go_wp2
      go_ret
      exact ⟨by rw [HV.out]; simp_all, rfl⟩
    · have HV : Hid (decide (i + u.size ≤ s.size ∧ sub s i u.size = u) = false) := decide_eq_false fun h => h2 h.2
      have h3 : ((s.extract i (i + u.size)).toList == u.toList) = false := by
        rw [beq_eq_false_iff_ne]
        intro h
        exact h2 (bytes_eq.1 h)
      go_enter Tryz.func80, Tryz.ntmps80
      go_wp2
      go_ret
      exact ⟨by rw [HV.out]; simp_all, rfl⟩
  · go_enter Tryz.func80, Tryz.ntmps80
    go_wp2
    go_ret
    exact ⟨by simp, rfl⟩

set_option maxRecDepth 100000 in
set_option maxHeartbeats 1000000 in
theorem part_any (s : ByteArray) (i0 : Nat) (w : World) (hs : s.size ≤ 1000) (hi0 : i0 ≤ s.size) :
    Calls Tryz.prog 81 #[.string s, .int .i64 (i0 : Nat)] w fun e w' => e = .returned (.tuple #[.string (strOfNums (part s i0).1), .int .i64 ((part s i0).2 : Nat)]) ∧ Below w.heap.size w w' := by
  obtain ⟨t0, ht0, hq0, hq1, hq2⟩ := info_parts infoByteC
  go_enter Tryz.func81, Tryz.ntmps81
  go_wp2
  go_loopw [1, 6] (fun iv v wr => ∃ (i : Nat) (us : List Int), Hid (part s i0 = (us ++ (part s i).1, (part s i).2)) ∧ i ≤ s.size ∧ us.length ≤ i ∧ iv = .int .i64 (i : Nat) ∧ Below w.heap.size w wr ∧ wr.ownsRow w.heap.size 5 1 v us.length (us.map (Value.int .u8))) (fun iv _ _ => s.size - (intOf iv).toNat)
  case atStart => exact ⟨i0, [], rfl, hi0, by simp, rfl, Below.refl _ _, World.ownsRow_nil _ _ _ _⟩
  case round =>
    obtain ⟨i, us, HUS, hi, hul, rfl, hbel, hown⟩ := hrel
    have HOW : Hid (wr.ownsRow w.heap.size 5 1 _ us.length (us.map (Value.int .u8))) := hown
    clear hown
    have hsz := hbel.size
    by_cases hlt : i < s.size
    · have hxb := bt_le s i
      have hbi := bt_in hlt
      obtain ⟨x, hx⟩ : ∃ x, x = bt s i := ⟨_, rfl⟩
      have hxs : ((s[i]'hlt).toNat : Int) = x := by rw [hx, hbi]
      have HX : Hid (x = bt s i) := hx
      rw [← hx] at hxb
      clear hbi hx
      by_cases hsp : sp x = true
      · by_cases h92 : x = 92 ∧ i + 1 < s.size
        · obtain ⟨rfl, h1⟩ := h92
          have hyb := bt_le s (i + 1)
          have hbi := bt_in h1
          obtain ⟨y, hy⟩ : ∃ y, y = bt s (i + 1) := ⟨_, rfl⟩
          have hys : ((s[i + 1]'h1).toNat : Int) = y := by rw [hy, hbi]
          have HUN : Hid (part s i0 = ((us ++ [(y : Int)]) ++ (part s (i + 2)).1, (part s (i + 2)).2)) := by
            show _ = _
            have hp : pch s i = some ((y : Int), i + 2) := by
              unfold pch
              rw [if_pos hlt, ← HX.out, if_neg (by decide), if_pos ⟨rfl, h1⟩, ← hy]
            rw [HUS.out, part_some hp]
            simp
          rw [← hy] at hyb
          have q1 : ((i : Int) + 1).toNat = i + 1 := by omega
          have q2 : (i : Int) + 1 < (s.size : Int) := by omega
          have q3 : (0 : Int) ≤ (i : Int) + 1 := by omega
          clear hbi hy
          go_wp2_with fail
          refine (special_any 92 _).mono ?_
          rintro e w1 ⟨rfl, hw1⟩
          obtain rfl := hw1.symm
          rw [show sp 92 = true from rfl]
          go_wp2_with (first
            | (at_builtin; refine wpList_append_lies _ (by rfl) (.tmp 42) (.tmp 44) 73 (by rfl) w.heap.size 5 t0 (.int .u8 0) 1 1 Tryz.underlying73 ht0 hq0 hq1 hq2 rfl (by omega) _ us.length _ (by rfl) (HOW.out.alloc _) ⟨wr.heap.size, 0, none⟩ 1 1 [.int .u8 y] (by rfl) (by rfl) ?d1 ?d2 (by omega) ?d3 ?d5 ?d4 (wr.heap.size + 1) (by simp) ?_))
          case d1 => exact cell_one_new _ _ _
          case d2 => intro u hu; simp at hu; subst hu; rfl
          case d3 => unfold maxLen; omega
          case d5 => omega
          case d4 => simp; omega
          · intro g3 cap3 w3 hown3 hgrow3 _ _
            have HB3 : Hid (Below w.heap.size w w3) := ownC_grown_below (hbel.alloc hsz _) (by simp; omega) (HOW.out.alloc _) (Nat.le_refl _) hgrow3
            have HO3 : Hid (w3.ownsRow w.heap.size 5 1 (.slice (some ⟨g3, 0, none⟩) (us.length + 1) cap3) (us ++ [(y : Int)]).length ((us ++ [(y : Int)]).map (Value.int .u8))) := by
              show _
              rw [List.length_append, List.map_append]
              exact hown3
            clear hown3 hgrow3
            go_wp2
            go_roundw
            case rel => exact ⟨i + 2, us ++ [(y : Int)], HUN.out, by omega, by simp; omega, by go_num, HB3.out, HO3.out⟩
            case measure => simp [intOf]; omega
        · have HUN : Hid (part s i0 = (us, i)) := by
            show _ = _
            have hp : pch s i = none := by
              unfold pch
              rw [if_pos hlt, ← HX.out, if_neg (by simp [hsp]), if_neg h92]
            rw [HUS.out, part_none hp]
            simp
          obtain ⟨vo9, vc9, hv9, hcv⟩ := convC HOW.out
          subst hv9
          by_cases hx92 : x = 92
          · have h1 : ¬ i + 1 < s.size := fun h => h92 ⟨hx92, h⟩
            subst hx92
            have q2 : (s.size : Int) ≤ (i : Int) + 1 := by omega
            go_wp2_with fail
            refine (special_any 92 _).mono ?_
            rintro e w1 ⟨rfl, hw1⟩
            obtain rfl := hw1.symm
            rw [show sp 92 = true from rfl]
            go_wp2
            go_ret2
            exact ⟨by rw [HUN.out]; rfl, hbel⟩
          · have hx' : ((x : Int) == 92) = false := beq_eq_false_iff_ne.2 (by omega)
            clear h92
            go_wp2_with fail
            refine (special_any x _).mono ?_
            rintro e w1 ⟨rfl, hw1⟩
            obtain rfl := hw1.symm
            rw [hsp]
            go_wp2
            go_ret2
            exact ⟨by rw [HUN.out]; rfl, hbel⟩
      · have hsp' : sp x = false := by simpa using hsp
        have HUN : Hid (part s i0 = ((us ++ [(x : Int)]) ++ (part s (i + 1)).1, (part s (i + 1)).2)) := by
          show _ = _
          have hp : pch s i = some ((x : Int), i + 1) := by
            unfold pch
            rw [if_pos hlt, ← HX.out, if_pos hsp']
          rw [HUS.out, part_some hp]
          simp
        clear hsp
        go_wp2_with fail
        refine (special_any x _).mono ?_
        rintro e w1 ⟨rfl, hw1⟩
        obtain rfl := hw1.symm
        rw [hsp']
        go_wp2_with (first
          | (at_builtin; refine wpList_append_lies _ (by rfl) (.tmp 42) (.tmp 44) 73 (by rfl) w.heap.size 5 t0 (.int .u8 0) 1 1 Tryz.underlying73 ht0 hq0 hq1 hq2 rfl (by omega) _ us.length _ (by rfl) (HOW.out.alloc _) ⟨wr.heap.size, 0, none⟩ 1 1 [.int .u8 x] (by rfl) (by rfl) ?d1 ?d2 (by omega) ?d3 ?d5 ?d4 (wr.heap.size + 1) (by simp) ?_))
        case d1 => exact cell_one_new _ _ _
        case d2 => intro u hu; simp at hu; subst hu; rfl
        case d3 => unfold maxLen; omega
        case d5 => omega
        case d4 => simp; omega
        · intro g3 cap3 w3 hown3 hgrow3 _ _
          have HB3 : Hid (Below w.heap.size w w3) := ownC_grown_below (hbel.alloc hsz _) (by simp; omega) (HOW.out.alloc _) (Nat.le_refl _) hgrow3
          have HO3 : Hid (w3.ownsRow w.heap.size 5 1 (.slice (some ⟨g3, 0, none⟩) (us.length + 1) cap3) (us ++ [(x : Int)]).length ((us ++ [(x : Int)]).map (Value.int .u8))) := by
            show _
            rw [List.length_append, List.map_append]
            exact hown3
          clear hown3 hgrow3
          go_wp2
          go_roundw
          case rel => exact ⟨i + 1, us ++ [(x : Int)], HUN.out, by omega, by simp; omega, by go_num, HB3.out, HO3.out⟩
          case measure => simp [intOf]; omega
    · have hie : i = s.size := by omega
      subst hie
      have HUN : Hid (part s i0 = (us, s.size)) := by
        show _ = _
        have hp : pch s s.size = none := by
          unfold pch
          rw [if_neg (by omega)]
        rw [HUS.out, part_none hp]
        simp
      obtain ⟨vo9, vc9, hv9, hcv⟩ := convC HOW.out
      subst hv9
      go_wp2
      go_ret2
      exact ⟨by rw [HUN.out]; rfl, hbel⟩

end Go.Proofs.YtpclldccjpncdabGreat
