import Derived.Test.YtpclldccjpncdaaGreatRulesW
import Derived.Test.YtpclldccjpncdaaGreatDecQ
namespace Go.Proofs.YtpclldccjpncdaaGreat
open Go.RowKit

/-- the character at a place: what it stands for, and where it ends -/
def pch (s : ByteArray) (i : Nat) : Option (Int × Nat) :=
  if i < s.size then (if sp (bt s i) = false then some (((bt s i : Nat) : Int), i + 1) else if bt s i = 92 ∧ i + 1 < s.size then some (((bt s (i + 1) : Nat) : Int), i + 2) else none) else none
/-- the characters that stand at a place, and where they end -/
def prt (s : ByteArray) : Nat → Nat → List Int × Nat
  | 0, i => ([], i)
  | k + 1, i => match pch s i with
    | none => ([], i)
    | some (c, j) => (c :: (prt s k j).1, (prt s k j).2)
theorem pch_lt {s : ByteArray} {i : Nat} {c : Int} {j : Nat} (h : pch s i = some (c, j)) : i < s.size ∧ i < j ∧ j ≤ s.size ∧ 0 ≤ c ∧ c ≤ 255 := by
  unfold pch at h
  have b1 := bt_le s i
  have b2 := bt_le s (i + 1)
  split at h
  · split at h
    · cases h; omega
    · split at h
      · cases h; omega
      · cases h
  · cases h
/-- more rounds than there are bytes left change nothing -/
theorem prt_fuel (s : ByteArray) : ∀ k k' i, s.size - i ≤ k → s.size - i ≤ k' → prt s k i = prt s k' i
  | 0, 0, _, _, _ => rfl
  | 0, k' + 1, i, h, _ => by
    have hn : pch s i = none := by unfold pch; rw [if_neg (by omega)]
    simp [prt, hn]
  | k + 1, 0, i, _, h => by
    have hn : pch s i = none := by unfold pch; rw [if_neg (by omega)]
    simp [prt, hn]
  | k + 1, k' + 1, i, h, h' => by
    unfold prt
    cases hp : pch s i with
    | none => rfl
    | some x =>
      obtain ⟨c, j⟩ := x
      have hl := pch_lt hp
      simp only
      rw [prt_fuel s k k' j (by omega) (by omega)]
/-- the part at a place -/
def part (s : ByteArray) (i : Nat) : List Int × Nat := prt s s.size i
theorem part_none {s : ByteArray} {i : Nat} (h : pch s i = none) : part s i = ([], i) := by
  unfold part
  cases hq : s.size with
  | zero => rfl
  | succ k => simp [prt, h]
theorem part_some {s : ByteArray} {i : Nat} {c : Int} {j : Nat} (h : pch s i = some (c, j)) : part s i = (c :: (part s j).1, (part s j).2) := by
  have hl := pch_lt h
  unfold part
  rw [prt_fuel s s.size (s.size - 1 + 1) i (by omega) (by omega)]
  show (match pch s i with | none => ([], i) | some (c, j) => (c :: (prt s (s.size - 1) j).1, (prt s (s.size - 1) j).2)) = _
  rw [h, prt_fuel s s.size (s.size - 1) j (by omega) (by omega)]

set_option maxRecDepth 100000 in
set_option maxHeartbeats 1000000 in
theorem begins_any (s u : ByteArray) (i : Nat) (w : World) (hs : s.size ≤ 1000) (hu : u.size ≤ 1000) (hi : i ≤ s.size) :
    Calls Tryz.prog 85 #[.string s, .int .i64 (i : Nat), .string u] w fun e w' => e = .returned (.bool (decide (i + u.size ≤ s.size ∧ sub s i u.size = u))) ∧ w' = w := by
  by_cases h1 : i + u.size ≤ s.size
  · by_cases h2 : sub s i u.size = u
    · have HV : Hid (decide (i + u.size ≤ s.size ∧ sub s i u.size = u) = true) := decide_eq_true ⟨h1, h2⟩
      have h3 : ((s.extract i (i + u.size)).toList == u.toList) = true := by
        have : s.extract i (i + u.size) = u := h2
        rw [this]; simp
      go_enter Tryz.func85, Tryz.ntmps85
      go_wp2
      go_ret
      exact ⟨by rw [HV.out]; simp_all, rfl⟩
    · have HV : Hid (decide (i + u.size ≤ s.size ∧ sub s i u.size = u) = false) := decide_eq_false fun h => h2 h.2
      have h3 : ((s.extract i (i + u.size)).toList == u.toList) = false := by
        rw [beq_eq_false_iff_ne]
        intro h
        exact h2 (bytes_eq.1 h)
      go_enter Tryz.func85, Tryz.ntmps85
      go_wp2
      go_ret
      exact ⟨by rw [HV.out]; simp_all, rfl⟩
  · go_enter Tryz.func85, Tryz.ntmps85
    go_wp2
    go_ret
    exact ⟨by simp, rfl⟩

set_option maxRecDepth 100000 in
set_option maxHeartbeats 1000000 in
theorem part_any (s : ByteArray) (i0 : Nat) (w : World) (hs : s.size ≤ 1000) (hi0 : i0 ≤ s.size) :
    Calls Tryz.prog 86 #[.string s, .int .i64 (i0 : Nat)] w fun e w' => e = .returned (.tuple #[.string (strOfNums (part s i0).1), .int .i64 ((part s i0).2 : Nat)]) ∧ Below w.heap.size w w' := by
  obtain ⟨t0, ht0, hq0, hq1, hq2⟩ := info_parts infoByteC
  go_enter Tryz.func86, Tryz.ntmps86
  go_wp2
  go_loopw [1, 6] (fun iv v wr => ∃ (i : Nat) (us : List Int), Hid (part s i0 = (us ++ (part s i).1, (part s i).2)) ∧ i ≤ s.size ∧ us.length ≤ i ∧ iv = .int .i64 (i : Nat) ∧ Below w.heap.size w wr ∧ wr.ownsRow w.heap.size 5 1 v us.length (us.map (Value.int .u8))) (fun iv _ _ => s.size - (intOf iv).toNat)
  case atStart => exact ⟨i0, [], rfl, hi0, by simp, rfl, Below.refl _ _, World.ownsRow_nil _ _ _ _⟩
  case round =>
    obtain ⟨i, us, HUS, hi, hul, rfl, hbel, hown⟩ := hrel
    have HOW : Hid (wr.ownsRow w.heap.size 5 1 _ us.length (us.map (Value.int .u8))) := hown
    clear hown
    have hsz := hbel.size
    by_cases hlt : i < s.size
    · have hxb := bt_le s i
      have hbi := bt_in hlt
      obtain ⟨x, hx⟩ : ∃ x, x = bt s i := ⟨_, rfl⟩
      have hxs : ((s[i]'hlt).toNat : Int) = x := by rw [hx, hbi]
      have HX : Hid (x = bt s i) := hx
      rw [← hx] at hxb
      clear hbi hx
      by_cases hsp : sp x = true
      · by_cases h92 : x = 92 ∧ i + 1 < s.size
        · obtain ⟨rfl, h1⟩ := h92
          have hyb := bt_le s (i + 1)
          have hbi := bt_in h1
          obtain ⟨y, hy⟩ : ∃ y, y = bt s (i + 1) := ⟨_, rfl⟩
          have hys : ((s[i + 1]'h1).toNat : Int) = y := by rw [hy, hbi]
          have HUN : Hid (part s i0 = ((us ++ [(y : Int)]) ++ (part s (i + 2)).1, (part s (i + 2)).2)) := by
            show _ = _
            have hp : pch s i = some ((y : Int), i + 2) := by
              unfold pch
              rw [if_pos hlt, ← HX.out, if_neg (by decide), if_pos ⟨rfl, h1⟩, ← hy]
            rw [HUS.out, part_some hp]
            simp
          rw [← hy] at hyb
          have q1 : ((i : Int) + 1).toNat = i + 1 := by omega
          have q2 : (i : Int) + 1 < (s.size : Int) := by omega
          have q3 : (0 : Int) ≤ (i : Int) + 1 := by omega
          clear hbi hy
          go_wp2_with fail
          refine (special_any 92 _).mono ?_
          rintro e w1 ⟨rfl, hw1⟩
          obtain rfl := hw1.symm
          rw [show sp 92 = true from rfl]
          go_wp2_with (first
            | (at_builtin; refine wpList_append_lies _ (by rfl) (.tmp 42) (.tmp 44) 73 (by rfl) w.heap.size 5 t0 (.int .u8 0) 1 1 Tryz.underlying73 ht0 hq0 hq1 hq2 rfl (by omega) _ us.length _ (by rfl) (HOW.out.alloc _) ⟨wr.heap.size, 0, none⟩ 1 1 [.int .u8 y] (by rfl) (by rfl) ?d1 ?d2 (by omega) ?d3 ?d5 ?d4 (wr.heap.size + 1) (by simp) ?_))
          case d1 => exact cell_one_new _ _ _
          case d2 => intro u hu; simp at hu; subst hu; rfl
          case d3 => unfold maxLen; omega
          case d5 => omega
          case d4 => simp; omega
          · intro g3 cap3 w3 hown3 hgrow3 _ _
            have HB3 : Hid (Below w.heap.size w w3) := ownC_grown_below (hbel.alloc hsz _) (by simp; omega) (HOW.out.alloc _) (Nat.le_refl _) hgrow3
            have HO3 : Hid (w3.ownsRow w.heap.size 5 1 (.slice (some ⟨g3, 0, none⟩) (us.length + 1) cap3) (us ++ [(y : Int)]).length ((us ++ [(y : Int)]).map (Value.int .u8))) := by
              show _
              rw [List.length_append, List.map_append]
              exact hown3
            clear hown3 hgrow3
            go_wp2
            go_roundw
            case rel => exact ⟨i + 2, us ++ [(y : Int)], HUN.out, by omega, by simp; omega, by go_num, HB3.out, HO3.out⟩
            case measure => simp [intOf]; omega
        · have HUN : Hid (part s i0 = (us, i)) := by
            show _ = _
            have hp : pch s i = none := by
              unfold pch
              rw [if_pos hlt, ← HX.out, if_neg (by simp [hsp]), if_neg h92]
            rw [HUS.out, part_none hp]
            simp
          obtain ⟨vo9, vc9, hv9, hcv⟩ := convC HOW.out
          subst hv9
          by_cases hx92 : x = 92
          · have h1 : ¬ i + 1 < s.size := fun h => h92 ⟨hx92, h⟩
            subst hx92
            have q2 : (s.size : Int) ≤ (i : Int) + 1 := by omega
            go_wp2_with fail
            refine (special_any 92 _).mono ?_
            rintro e w1 ⟨rfl, hw1⟩
            obtain rfl := hw1.symm
            rw [show sp 92 = true from rfl]
            go_wp2
            go_ret2
            exact ⟨by rw [HUN.out]; rfl, hbel⟩
          · have hx' : ((x : Int) == 92) = false := beq_eq_false_iff_ne.2 (by omega)
            clear h92
            go_wp2_with fail
            refine (special_any x _).mono ?_
            rintro e w1 ⟨rfl, hw1⟩
            obtain rfl := hw1.symm
            rw [hsp]
            go_wp2
            go_ret2
            exact ⟨by rw [HUN.out]; rfl, hbel⟩
      · have hsp' : sp x = false := by simpa using hsp
        have HUN : Hid (part s i0 = ((us ++ [(x : Int)]) ++ (part s (i + 1)).1, (part s (i + 1)).2)) := by
          show _ = _
          have hp : pch s i = some ((x : Int), i + 1) := by
            unfold pch
            rw [if_pos hlt, ← HX.out, if_pos hsp']
          rw [HUS.out, part_some hp]
          simp
        clear hsp
        go_wp2_with fail
        refine (special_any x _).mono ?_
        rintro e w1 ⟨rfl, hw1⟩
        obtain rfl := hw1.symm
        rw [hsp']
        go_wp2_with (first
          | (at_builtin; refine wpList_append_lies _ (by rfl) (.tmp 42) (.tmp 44) 73 (by rfl) w.heap.size 5 t0 (.int .u8 0) 1 1 Tryz.underlying73 ht0 hq0 hq1 hq2 rfl (by omega) _ us.length _ (by rfl) (HOW.out.alloc _) ⟨wr.heap.size, 0, none⟩ 1 1 [.int .u8 x] (by rfl) (by rfl) ?d1 ?d2 (by omega) ?d3 ?d5 ?d4 (wr.heap.size + 1) (by simp) ?_))
        case d1 => exact cell_one_new _ _ _
        case d2 => intro u hu; simp at hu; subst hu; rfl
        case d3 => unfold maxLen; omega
        case d5 => omega
        case d4 => simp; omega
        · intro g3 cap3 w3 hown3 hgrow3 _ _
          have HB3 : Hid (Below w.heap.size w w3) := ownC_grown_below (hbel.alloc hsz _) (by simp; omega) (HOW.out.alloc _) (Nat.le_refl _) hgrow3
          have HO3 : Hid (w3.ownsRow w.heap.size 5 1 (.slice (some ⟨g3, 0, none⟩) (us.length + 1) cap3) (us ++ [(x : Int)]).length ((us ++ [(x : Int)]).map (Value.int .u8))) := by
            show _
            rw [List.length_append, List.map_append]
            exact hown3
          clear hown3 hgrow3
          go_wp2
          go_roundw
          case rel => exact ⟨i + 1, us ++ [(x : Int)], HUN.out, by omega, by simp; omega, by go_num, HB3.out, HO3.out⟩
          case measure => simp [intOf]; omega
    · have hie : i = s.size := by omega
      subst hie
      have HUN : Hid (part s i0 = (us, s.size)) := by
        show _ = _
        have hp : pch s s.size = none := by
          unfold pch
          rw [if_neg (by omega)]
        rw [HUS.out, part_none hp]
        simp
      obtain ⟨vo9, vc9, hv9, hcv⟩ := convC HOW.out
      subst hv9
      go_wp2
      go_ret2
      exact ⟨by rw [HUN.out]; rfl, hbel⟩

end Go.Proofs.YtpclldccjpncdaaGreat
