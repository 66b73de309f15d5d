import Derived.Test.YtpclldccjpncdabGreatM11
import Derived.Deep.Cut
import Derived.Deep.CutRange
import Derived.Deep.DeepCutAuto
namespace Go.Proofs.YtpclldccjpncdabGreat
open Go.RowKit

/-- a rule that may be written -/
def Rl.ok (x : Rl) : Prop := (1 ≤ x.text.size ∧ x.text.size ≤ 3) ∧ x.more.size ≤ 6 ∧ x.reset.size ≤ 6 ∧ (0 ≤ x.level ∧ x.level ≤ 3) ∧ (0 ≤ x.before ∧ x.before ≤ 3) ∧ (x.before = 0 ∨ x.reset.size ≠ 0)
instance (x : Rl) : Decidable x.ok := by unfold Rl.ok; infer_instance
theorem empty_iff {s : ByteArray} : s.toList.isEmpty = decide (s.size = 0) := by
  by_cases h : s.size = 0
  · have h3 : s = ByteArray.empty := ByteArray.ext (Array.eq_empty_of_size_eq_zero h)
    subst h3
    simp
  · have : s.toList.isEmpty = false := by
      cases hq : s.toList with
      | cons a b => rfl
      | nil =>
        exfalso
        have h3 : s = ByteArray.empty := bytes_eq.1 (hq.trans (by simp))
        rw [h3] at h
        exact h rfl
    simp [this, h]

set_option maxRecDepth 100000 in
set_option maxHeartbeats 1000000 in
theorem isRule_any (x : Rl) (w : World) (hs : x.reset.size ≤ 140737488351232 ∧ x.text.size ≤ 140737488351232 ∧ x.more.size ≤ 140737488351232) :
    Calls Tryz.prog 58 #[.agg #[.string x.reset, .int .i64 x.before, .int .i64 x.level, .string x.text, .string x.more]] w fun e w' => e = .returned (.bool (decide x.ok)) ∧ Below w.heap.size w w' := by
  obtain ⟨reset, before, level, text, more⟩ := x
  simp only at hs ⊢
  obtain ⟨h1, h2, h3⟩ := hs
  by_cases a1 : text.size < 1
  · have HV : Hid (decide (Rl.ok ⟨reset, before, level, text, more⟩) = false) := by show _ = _; simp [Rl.ok]; omega
    go_enter Tryz.func58, Tryz.ntmps58
    go_wp2
    go_ret
    exact ⟨by rw [HV.out]; rfl, below_one _⟩
  by_cases a2 : 3 < text.size
  · have HV : Hid (decide (Rl.ok ⟨reset, before, level, text, more⟩) = false) := by show _ = _; simp [Rl.ok]; omega
    go_enter Tryz.func58, Tryz.ntmps58
    go_wp2
    go_ret
    exact ⟨by rw [HV.out]; rfl, below_one _⟩
  by_cases a3 : 6 < more.size
  · have HV : Hid (decide (Rl.ok ⟨reset, before, level, text, more⟩) = false) := by show _ = _; simp [Rl.ok]; omega
    go_enter Tryz.func58, Tryz.ntmps58
    go_wp2
    go_ret
    exact ⟨by rw [HV.out]; rfl, below_one _⟩
  by_cases a4 : 6 < reset.size
  · have HV : Hid (decide (Rl.ok ⟨reset, before, level, text, more⟩) = false) := by show _ = _; simp [Rl.ok]; omega
    go_enter Tryz.func58, Tryz.ntmps58
    go_wp2
    go_ret
    exact ⟨by rw [HV.out]; rfl, below_one _⟩
  by_cases a5 : level < 0
  · have HV : Hid (decide (Rl.ok ⟨reset, before, level, text, more⟩) = false) := by show _ = _; simp [Rl.ok]; omega
    go_enter Tryz.func58, Tryz.ntmps58
    go_wp2
    go_ret
    exact ⟨by rw [HV.out]; rfl, below_one _⟩
  by_cases a6 : 3 < level
  · have HV : Hid (decide (Rl.ok ⟨reset, before, level, text, more⟩) = false) := by show _ = _; simp [Rl.ok]; omega
    go_enter Tryz.func58, Tryz.ntmps58
    go_wp2
    go_ret
    exact ⟨by rw [HV.out]; rfl, below_one _⟩
  by_cases a7 : before < 0
  · have HV : Hid (decide (Rl.ok ⟨reset, before, level, text, more⟩) = false) := by show _ = _; simp [Rl.ok]; omega
    go_enter Tryz.func58, Tryz.ntmps58
    go_wp2
    go_ret
    exact ⟨by rw [HV.out]; rfl, below_one _⟩
  by_cases a8 : 3 < before
  · have HV : Hid (decide (Rl.ok ⟨reset, before, level, text, more⟩) = false) := by show _ = _; simp [Rl.ok]; omega
    go_enter Tryz.func58, Tryz.ntmps58
    go_wp2
    go_ret
    exact ⟨by rw [HV.out]; rfl, below_one _⟩
  by_cases a9 : before = 0
  · have HV : Hid (decide (Rl.ok ⟨reset, before, level, text, more⟩) = true) := by show _ = _; simp [Rl.ok]; omega
    subst a9
    go_enter Tryz.func58, Tryz.ntmps58
    go_wp2
    go_ret
    exact ⟨by rw [HV.out]; rfl, below_one _⟩
  · have a9' : (before == 0) = false := beq_eq_false_iff_ne.2 a9
    by_cases b1 : reset.size = 0
    · have HV : Hid (decide (Rl.ok ⟨reset, before, level, text, more⟩) = false) := decide_eq_false (fun h => by obtain ⟨_, _, _, _, _, h6⟩ := h; simp only at h6; omega)
      have b2 : reset.toList.isEmpty = true := by rw [empty_iff]; simp [b1]
      clear a9
      go_enter Tryz.func58, Tryz.ntmps58
      go_wp2
      go_ret
      exact ⟨by rw [HV.out]; rfl, below_one _⟩
    · have HV : Hid (decide (Rl.ok ⟨reset, before, level, text, more⟩) = true) := decide_eq_true ⟨⟨by show _ ≤ text.size; omega, by show text.size ≤ _; omega⟩, by show more.size ≤ _; omega, by show reset.size ≤ _; omega, ⟨by show _ ≤ level; omega, by show level ≤ _; omega⟩, ⟨by show _ ≤ before; omega, by show before ≤ _; omega⟩, .inr b1⟩
      have b2 : reset.toList.isEmpty = false := by rw [empty_iff]; simp [b1]
      clear a9
      go_enter Tryz.func58, Tryz.ntmps58
      go_wp2
      go_ret
      exact ⟨by rw [HV.out]; rfl, below_one _⟩

end Go.Proofs.YtpclldccjpncdabGreat

namespace Go.Proofs.YtpclldccjpncdabGreat
open Go.RowKit

/-- the character at a place: what it stands for, and where it ends -/
def pch (s : ByteArray) (i : Nat) : Option (Int × Nat) :=
  if i < s.size then (if sp (bt s i) = false then some (((bt s i : Nat) : Int), i + 1) else if bt s i = 92 ∧ i + 1 < s.size then some (((bt s (i + 1) : Nat) : Int), i + 2) else none) else none
/-- the characters that stand at a place, and where they end -/
def prt (s : ByteArray) : Nat → Nat → List Int × Nat
  | 0, i => ([], i)
  | k + 1, i => match pch s i with
    | none => ([], i)
    | some (c, j) => (c :: (prt s k j).1, (prt s k j).2)
theorem pch_lt {s : ByteArray} {i : Nat} {c : Int} {j : Nat} (h : pch s i = some (c, j)) : i < s.size ∧ i < j ∧ j ≤ s.size ∧ 0 ≤ c ∧ c ≤ 255 := by
  unfold pch at h
  have b1 := bt_le s i
  have b2 := bt_le s (i + 1)
  split at h
  · split at h
    · cases h; omega
    · split at h
      · cases h; omega
      · cases h
  · cases h
/-- more rounds than there are bytes left change nothing -/
theorem prt_fuel (s : ByteArray) : ∀ k k' i, s.size - i ≤ k → s.size - i ≤ k' → prt s k i = prt s k' i
  | 0, 0, _, _, _ => rfl
  | 0, k' + 1, i, h, _ => by
    have hn : pch s i = none := by unfold pch; rw [if_neg (by omega)]
    simp [prt, hn]
  | k + 1, 0, i, _, h => by
    have hn : pch s i = none := by unfold pch; rw [if_neg (by omega)]
    simp [prt, hn]
  | k + 1, k' + 1, i, h, h' => by
    unfold prt
    cases hp : pch s i with
    | none => rfl
    | some x =>
      obtain ⟨c, j⟩ := x
      have hl := pch_lt hp
      simp only
      rw [prt_fuel s k k' j (by omega) (by omega)]
/-- the part at a place -/
def part (s : ByteArray) (i : Nat) : List Int × Nat := prt s s.size i
theorem part_none {s : ByteArray} {i : Nat} (h : pch s i = none) : part s i = ([], i) := by
  unfold part
  cases hq : s.size with
  | zero => rfl
  | succ k => simp [prt, h]
theorem part_some {s : ByteArray} {i : Nat} {c : Int} {j : Nat} (h : pch s i = some (c, j)) : part s i = (c :: (part s j).1, (part s j).2) := by
  have hl := pch_lt h
  unfold part
  rw [prt_fuel s s.size (s.size - 1 + 1) i (by omega) (by omega)]
  show (match pch s i with | none => ([], i) | some (c, j) => (c :: (prt s (s.size - 1) j).1, (prt s (s.size - 1) j).2)) = _
  rw [h, prt_fuel s s.size (s.size - 1) j (by omega) (by omega)]

set_option maxRecDepth 100000 in
set_option maxHeartbeats 1000000 in
theorem begins_any (s u : ByteArray) (i : Nat) (w : World) (hs : s.size ≤ 1000) (hu : u.size ≤ 1000) (hi : i ≤ s.size) :
    Calls Tryz.prog 80 #[.string s, .int .i64 (i : Nat), .string u] w fun e w' => e = .returned (.bool (decide (i + u.size ≤ s.size ∧ sub s i u.size = u))) ∧ w' = w := by
  by_cases h1 : i + u.size ≤ s.size
  · by_cases h2 : sub s i u.size = u
    · have HV : Hid (decide (i + u.size ≤ s.size ∧ sub s i u.size = u) = true) := decide_eq_true ⟨h1, h2⟩
      have h3 : ((s.extract i (i + u.size)).toList == u.toList) = true := by
        have : s.extract i (i + u.size) = u := h2
        rw [this]; simp
      go_enter Tryz.func80, Tryz.ntmps80
      go_wp2
      go_ret
      exact ⟨by rw [HV.out]; simp_all, rfl⟩
    · have HV : Hid (decide (i + u.size ≤ s.size ∧ sub s i u.size = u) = false) := decide_eq_false fun h => h2 h.2
      have h3 : ((s.extract i (i + u.size)).toList == u.toList) = false := by
        rw [beq_eq_false_iff_ne]
        intro h
        exact h2 (bytes_eq.1 h)
      go_enter Tryz.func80, Tryz.ntmps80
      go_wp2
      go_ret
      exact ⟨by rw [HV.out]; simp_all, rfl⟩
  · go_enter Tryz.func80, Tryz.ntmps80
    go_wp2
    go_ret
    exact ⟨by simp, rfl⟩

set_option maxRecDepth 100000 in
set_option maxHeartbeats 1000000 in
theorem part_any (s : ByteArray) (i0 : Nat) (w : World) (hs : s.size ≤ 1000) (hi0 : i0 ≤ s.size) :
    Calls Tryz.prog 81 #[.string s, .int .i64 (i0 : Nat)] w fun e w' => e = .returned (.tuple #[.string (strOfNums (part s i0).1), .int .i64 ((part s i0).2 : Nat)]) ∧ Below w.heap.size w w' := by
  obtain ⟨t0, ht0, hq0, hq1, hq2⟩ := info_parts infoByteC
  go_enter Tryz.func81, Tryz.ntmps81
  go_wp2
  go_loopw [1, 6] (fun iv v wr => ∃ (i : Nat) (us : List Int), Hid (part s i0 = (us ++ (part s i).1, (part s i).2)) ∧ i ≤ s.size ∧ us.length ≤ i ∧ iv = .int .i64 (i : Nat) ∧ Below w.heap.size w wr ∧ wr.ownsRow w.heap.size 5 1 v us.length (us.map (Value.int .u8))) (fun iv _ _ => s.size - (intOf iv).toNat)
  case atStart => exact ⟨i0, [], rfl, hi0, by simp, rfl, Below.refl _ _, World.ownsRow_nil _ _ _ _⟩
  case round =>
    obtain ⟨i, us, HUS, hi, hul, rfl, hbel, hown⟩ := hrel
    have HOW : Hid (wr.ownsRow w.heap.size 5 1 _ us.length (us.map (Value.int .u8))) := hown
    clear hown
    have hsz := hbel.size
    by_cases hlt : i < s.size
    · have hxb := bt_le s i
      have hbi := bt_in hlt
      obtain ⟨x, hx⟩ : ∃ x, x = bt s i := ⟨_, rfl⟩
      have hxs : ((s[i]'hlt).toNat : Int) = x := by rw [hx, hbi]
      have HX : Hid (x = bt s i) := hx
      rw [← hx] at hxb
      clear hbi hx
      by_cases hsp : sp x = true
      · by_cases h92 : x = 92 ∧ i + 1 < s.size
        · obtain ⟨rfl, h1⟩ := h92
          have hyb := bt_le s (i + 1)
          have hbi := bt_in h1
          obtain ⟨y, hy⟩ : ∃ y, y = bt s (i + 1) := ⟨_, rfl⟩
          have hys : ((s[i + 1]'h1).toNat : Int) = y := by rw [hy, hbi]
          have HUN : Hid (part s i0 = ((us ++ [(y : Int)]) ++ (part s (i + 2)).1, (part s (i + 2)).2)) := by
            show _ = _
            have hp : pch s i = some ((y : Int), i + 2) := by
              unfold pch
              rw [if_pos hlt, ← HX.out, if_neg (by decide), if_pos ⟨rfl, h1⟩, ← hy]
            rw [HUS.out, part_some hp]
            simp
          rw [← hy] at hyb
          have q1 : ((i : Int) + 1).toNat = i + 1 := by omega
          have q2 : (i : Int) + 1 < (s.size : Int) := by omega
          have q3 : (0 : Int) ≤ (i : Int) + 1 := by omega
          clear hbi hy
          go_wp2_with fail
          refine (special_any 92 _).mono ?_
          rintro e w1 ⟨rfl, hw1⟩
          obtain rfl := hw1.symm
          rw [show sp 92 = true from rfl]
          go_wp2_with (first
            | (at_builtin; refine wpList_append_lies _ (by rfl) (.tmp 42) (.tmp 44) 73 (by rfl) w.heap.size 5 t0 (.int .u8 0) 1 1 Tryz.underlying73 ht0 hq0 hq1 hq2 rfl (by omega) _ us.length _ (by rfl) (HOW.out.alloc _) ⟨wr.heap.size, 0, none⟩ 1 1 [.int .u8 y] (by rfl) (by rfl) ?d1 ?d2 (by omega) ?d3 ?d5 ?d4 (wr.heap.size + 1) (by simp) ?_))
          case d1 => exact cell_one_new _ _ _
          case d2 => intro u hu; simp at hu; subst hu; rfl
          case d3 => unfold maxLen; omega
          case d5 => omega
          case d4 => simp; omega
          · intro g3 cap3 w3 hown3 hgrow3 _ _
            have HB3 : Hid (Below w.heap.size w w3) := ownC_grown_below (hbel.alloc hsz _) (by simp; omega) (HOW.out.alloc _) (Nat.le_refl _) hgrow3
            have HO3 : Hid (w3.ownsRow w.heap.size 5 1 (.slice (some ⟨g3, 0, none⟩) (us.length + 1) cap3) (us ++ [(y : Int)]).length ((us ++ [(y : Int)]).map (Value.int .u8))) := by
              show _
              rw [List.length_append, List.map_append]
              exact hown3
            clear hown3 hgrow3
            go_wp2
            go_roundw
            case rel => exact ⟨i + 2, us ++ [(y : Int)], HUN.out, by omega, by simp; omega, by go_num, HB3.out, HO3.out⟩
            case measure => simp [intOf]; omega
        · have HUN : Hid (part s i0 = (us, i)) := by
            show _ = _
            have hp : pch s i = none := by
              unfold pch
              rw [if_pos hlt, ← HX.out, if_neg (by simp [hsp]), if_neg h92]
            rw [HUS.out, part_none hp]
            simp
          obtain ⟨vo9, vc9, hv9, hcv⟩ := convC HOW.out
          subst hv9
          by_cases hx92 : x = 92
          · have h1 : ¬ i + 1 < s.size := fun h => h92 ⟨hx92, h⟩
            subst hx92
            have q2 : (s.size : Int) ≤ (i : Int) + 1 := by omega
            go_wp2_with fail
            refine (special_any 92 _).mono ?_
            rintro e w1 ⟨rfl, hw1⟩
            obtain rfl := hw1.symm
            rw [show sp 92 = true from rfl]
            go_wp2
            go_ret2
            exact ⟨by rw [HUN.out]; rfl, hbel⟩
          · have hx' : ((x : Int) == 92) = false := beq_eq_false_iff_ne.2 (by omega)
            clear h92
            go_wp2_with fail
            refine (special_any x _).mono ?_
            rintro e w1 ⟨rfl, hw1⟩
            obtain rfl := hw1.symm
            rw [hsp]
            go_wp2
            go_ret2
            exact ⟨by rw [HUN.out]; rfl, hbel⟩
      · have hsp' : sp x = false := by simpa using hsp
        have HUN : Hid (part s i0 = ((us ++ [(x : Int)]) ++ (part s (i + 1)).1, (part s (i + 1)).2)) := by
          show _ = _
          have hp : pch s i = some ((x : Int), i + 1) := by
            unfold pch
            rw [if_pos hlt, ← HX.out, if_pos hsp']
          rw [HUS.out, part_some hp]
          simp
        clear hsp
        go_wp2_with fail
        refine (special_any x _).mono ?_
        rintro e w1 ⟨rfl, hw1⟩
        obtain rfl := hw1.symm
        rw [hsp']
        go_wp2_with (first
          | (at_builtin; refine wpList_append_lies _ (by rfl) (.tmp 42) (.tmp 44) 73 (by rfl) w.heap.size 5 t0 (.int .u8 0) 1 1 Tryz.underlying73 ht0 hq0 hq1 hq2 rfl (by omega) _ us.length _ (by rfl) (HOW.out.alloc _) ⟨wr.heap.size, 0, none⟩ 1 1 [.int .u8 x] (by rfl) (by rfl) ?d1 ?d2 (by omega) ?d3 ?d5 ?d4 (wr.heap.size + 1) (by simp) ?_))
        case d1 => exact cell_one_new _ _ _
        case d2 => intro u hu; simp at hu; subst hu; rfl
        case d3 => unfold maxLen; omega
        case d5 => omega
        case d4 => simp; omega
        · intro g3 cap3 w3 hown3 hgrow3 _ _
          have HB3 : Hid (Below w.heap.size w w3) := ownC_grown_below (hbel.alloc hsz _) (by simp; omega) (HOW.out.alloc _) (Nat.le_refl _) hgrow3
          have HO3 : Hid (w3.ownsRow w.heap.size 5 1 (.slice (some ⟨g3, 0, none⟩) (us.length + 1) cap3) (us ++ [(x : Int)]).length ((us ++ [(x : Int)]).map (Value.int .u8))) := by
            show _
            rw [List.length_append, List.map_append]
            exact hown3
          clear hown3 hgrow3
          go_wp2
          go_roundw
          case rel => exact ⟨i + 1, us ++ [(x : Int)], HUN.out, by omega, by simp; omega, by go_num, HB3.out, HO3.out⟩
          case measure => simp [intOf]; omega
    · have hie : i = s.size := by omega
      subst hie
      have HUN : Hid (part s i0 = (us, s.size)) := by
        show _ = _
        have hp : pch s s.size = none := by
          unfold pch
          rw [if_neg (by omega)]
        rw [HUS.out, part_none hp]
        simp
      obtain ⟨vo9, vc9, hv9, hcv⟩ := convC HOW.out
      subst hv9
      go_wp2
      go_ret2
      exact ⟨by rw [HUN.out]; rfl, hbel⟩

end Go.Proofs.YtpclldccjpncdabGreat

namespace Go.Proofs.YtpclldccjpncdabGreat
open Go.RowKit

def sgN : Nat → List Int
  | 0 => [61]
  | 1 => [60]
  | 2 => [60, 60]
  | _ => [60, 60, 60]
def beN : Nat → List Int
  | 0 => []
  | 1 => [91, 98, 101, 102, 111, 114, 101, 32, 49, 93]
  | 2 => [91, 98, 101, 102, 111, 114, 101, 32, 50, 93]
  | _ => [91, 98, 101, 102, 111, 114, 101, 32, 51, 93]
theorem sgN_len (n : Nat) : (sgN n).length ≤ 3 := by unfold sgN; split <;> simp
theorem beN_len (n : Nat) : (beN n).length ≤ 10 := by unfold beN; split <;> simp
def rt1 (x : Rl) : List Int := if x.reset.size = 0 then [] else [38] ++ beN x.before.toNat ++ quo (blC x.reset)
def rt2 (x : Rl) : List Int := sgN x.level.toNat ++ quo (blC x.text)
def rt3 (x : Rl) : List Int := if x.more.size = 0 then [] else [47] ++ quo (blC x.more)
/-- a rule as it is written -/
def rtx (x : Rl) : List Int := rt1 x ++ rt2 x ++ rt3 x
def rls (f : Nat → Rl) (n : Nat) : List Int := (List.range n).flatMap fun i => rtx (f i)
theorem rls_snoc (f : Nat → Rl) (n : Nat) : rls f (n + 1) = rls f n ++ rtx (f n) := by simp [rls, List.range_succ]
theorem rtx_len {x : Rl} (h : x.ok) : (rt1 x).length ≤ 23 ∧ (rt2 x).length ≤ 9 ∧ (rt3 x).length ≤ 13 := by
  obtain ⟨⟨_, h1⟩, h2, h3, _⟩ := h
  have q1 := quo_len (blC x.reset)
  have q2 := quo_len (blC x.text)
  have q3 := quo_len (blC x.more)
  rw [blC_len] at q1 q2 q3
  have s1 := sgN_len x.level.toNat
  have s2 := beN_len x.before.toNat
  refine ⟨?_, ?_, ?_⟩
  · unfold rt1; split <;> simp <;> omega
  · unfold rt2; simp; omega
  · unfold rt3; split <;> simp <;> omega
def Rl.first (x : Rl) (i : Nat) : Prop := x.ok ∧ (i = 0 → x.reset.size ≠ 0)
theorem rls_len {f : Nat → Rl} : ∀ n, (∀ i, i < n → (f i).ok) → (rls f n).length ≤ n * 45
  | 0, _ => by simp [rls]
  | n + 1, h => by
    have h1 := rls_len n fun i hi => h i (by omega)
    obtain ⟨a, b, c⟩ := rtx_len (h n (by omega))
    rw [rls_snoc, List.length_append, rtx, List.length_append, List.length_append]
    omega
open Classical in
noncomputable def wrE (f : Nat → Rl) (n : Nat) : Int := if ∀ i, i < n → (f i).first i then (if 120 < (rls f n).length then 4 else 0) else 8
noncomputable def wrV (f : Nat → Rl) (n : Nat) : ByteArray := if wrE f n = 0 then strOfNums (rls f n) else { data := #[] }
theorem wr_bad {f : Nat → Rl} {n i : Nat} (hi : i < n) (h : ¬ (f i).first i) : wrE f n = 8 ∧ wrV f n = { data := #[] } := by
  have h8 : wrE f n = 8 := by unfold wrE; rw [if_neg fun H => h (H i hi)]
  refine ⟨h8, ?_⟩
  unfold wrV
  rw [h8]
  rfl
theorem wr_long {f : Nat → Rl} {n : Nat} (h : ∀ i, i < n → (f i).first i) (hl : 120 < (rls f n).length) : wrE f n = 4 ∧ wrV f n = { data := #[] } := by
  have h4 : wrE f n = 4 := by unfold wrE; rw [if_pos h, if_pos hl]
  refine ⟨h4, ?_⟩
  unfold wrV
  rw [h4]
  rfl
theorem wr_ok {f : Nat → Rl} {n : Nat} (h : ∀ i, i < n → (f i).first i) (hl : ¬ 120 < (rls f n).length) : wrE f n = 0 ∧ wrV f n = strOfNums (rls f n) := by
  have h0 : wrE f n = 0 := by unfold wrE; rw [if_pos h, if_neg hl]
  refine ⟨h0, ?_⟩
  unfold wrV
  rw [h0]
  rfl

set_option maxRecDepth 100000 in
set_option maxHeartbeats 2000000 in
theorem refWrite_any (ao : Option Addr) (n cap b off : Nat) (f : Nat → Rl) (w : World) (h : RulesIn w.heap.size w ao n b off f) :
    Calls Tryz.prog 33 #[.slice ao n cap] w fun e w' => e = .returned (.tuple #[.string (wrV f n), .int .i64 (wrE f n)]) ∧ Below w.heap.size w w' := by
  have HR : Hid (RulesIn w.heap.size w ao n b off f) := h
  have hle := h.le
  clear h
  obtain ⟨W, hW⟩ : ∃ W, W = (w.alloc (.cells #[.string { data := #[61] }, .string { data := #[60] }, .string { data := #[60, 60] }, .string { data := #[60, 60, 60] }] 9)).alloc (.cells #[.string { data := #[] }, .string { data := #[91, 98, 101, 102, 111, 114, 101, 32, 49, 93] }, .string { data := #[91, 98, 101, 102, 111, 114, 101, 32, 50, 93] }, .string { data := #[91, 98, 101, 102, 111, 114, 101, 32, 51, 93] }] 9) := ⟨_, rfl⟩
  have HWS : Hid (W.heap.size = w.heap.size + 2) := by show _ = _; rw [hW]; simp
  have HBW : Hid (Below w.heap.size w W) := by show Below _ _ _; rw [hW]; exact below_then (below_one _) (below_one _)
  have HWC : Hid (∀ wr : World, Below W.heap.size W wr → ∀ k, k ≤ 3 → wr.cell? ⟨w.heap.size, k, none⟩ = some (.string (strOfNums (sgN k))) ∧ wr.cell? ⟨w.heap.size + 1, k, none⟩ = some (.string (strOfNums (beN k)))) := fun wr hb k hk => by
    have r1 := (row_new w #[.string { data := #[61] }, .string { data := #[60] }, .string { data := #[60, 60] }, .string { data := #[60, 60, 60] }] 9 4 rfl).alloc (.cells #[.string { data := #[] }, .string { data := #[91, 98, 101, 102, 111, 114, 101, 32, 49, 93] }, .string { data := #[91, 98, 101, 102, 111, 114, 101, 32, 50, 93] }, .string { data := #[91, 98, 101, 102, 111, 114, 101, 32, 51, 93] }] 9)
    have r2 := row_at (row_new (w.alloc (.cells #[.string { data := #[61] }, .string { data := #[60] }, .string { data := #[60, 60] }, .string { data := #[60, 60, 60] }] 9)) #[.string { data := #[] }, .string { data := #[91, 98, 101, 102, 111, 114, 101, 32, 49, 93] }, .string { data := #[91, 98, 101, 102, 111, 114, 101, 32, 50, 93] }, .string { data := #[91, 98, 101, 102, 111, 114, 101, 32, 51, 93] }] 9 4 rfl) (size_one _ _) (fun _ _ => rfl)
    rw [← hW] at r1 r2
    have hz := HWS.out
    have d1 := cellTo hb (r1.cell (i := k) (by omega)) (by show w.heap.size < _; omega)
    have d2 := cellTo hb (r2.cell (i := k) (by omega)) (by show w.heap.size + 1 < _; omega)
    rw [d1, d2]
    have : k = 0 ∨ k = 1 ∨ k = 2 ∨ k = 3 := by omega
    rcases this with rfl | rfl | rfl | rfl <;> exact ⟨rfl, rfl⟩
  have HWE : Hid (W = (w.alloc (.cells #[.string { data := #[61] }, .string { data := #[60] }, .string { data := #[60, 60] }, .string { data := #[60, 60, 60] }] 9)).alloc (.cells #[.string { data := #[] }, .string { data := #[91, 98, 101, 102, 111, 114, 101, 32, 49, 93] }, .string { data := #[91, 98, 101, 102, 111, 114, 101, 32, 50, 93] }, .string { data := #[91, 98, 101, 102, 111, 114, 101, 32, 51, 93] }] 9)) := hW
  clear hW
  go_enter Tryz.func33, Tryz.ntmps33
  go_wp2
  go_loopw [6, 7] (fun sv iv wr => ∃ (i : Nat) (r : ByteArray), Hid (r = strOfNums (rls f i)) ∧ Hid (∀ j, j < i → (f j).first j) ∧ i ≤ n ∧ sv = .string r ∧ iv = .int .i64 (i : Nat) ∧ Below W.heap.size W wr) (fun _ iv _ => n - (intOf iv).toNat)
  case atStart => exact ⟨0, _, rfl, fun j hj => by omega, Nat.zero_le _, rfl, rfl, by rw [HWE.out]; exact Below.refl _ _⟩
  case round =>
    obtain ⟨i, r, HRR, HF, hi, rfl, rfl, hbel⟩ := hrel
    have HBR : Hid (Below W.heap.size W wr) := hbel
    have hzr : w.heap.size + 2 ≤ wr.heap.size := by have := hbel.size; have := HWS.out; omega
    have hbw := below_then HBW.out hbel
    have hrl : r.size ≤ i * 45 := by rw [HRR.out, strOfNums_size]; exact rls_len i fun j hj => (HF.out j hj).1
    clear hbel
    by_cases hlt : i < n
    · have hbb := HR.out.lt (by omega)
      have c0 := cellTo hbw (HR.out.c0 i hlt) hbb
      have c1 := cellTo hbw (HR.out.c1 i hlt) hbb
      have c2 := cellTo hbw (HR.out.c2 i hlt) hbb
      have c3 := cellTo hbw (HR.out.c3 i hlt) hbb
      have c4 := cellTo hbw (HR.out.c4 i hlt) hbb
      have ha := HR.out.addr (by omega)
      subst ha
      obtain ⟨x, hx⟩ : ∃ x, x = f i := ⟨_, rfl⟩
      have HX : Hid (x = f i) := hx
      have HFIT : Hid (x.reset.size ≤ 140737488351232 ∧ x.text.size ≤ 140737488351232 ∧ x.more.size ≤ 140737488351232) := by show _ ∧ _; rw [hx]; exact HR.out.fit i hlt
      rw [← hx] at c0 c1 c2 c3 c4
      obtain ⟨rs, hrs⟩ : ∃ y, y = x.reset := ⟨_, rfl⟩
      obtain ⟨be, hbe⟩ : ∃ y, y = x.before := ⟨_, rfl⟩
      obtain ⟨lv, hlv⟩ : ∃ y, y = x.level := ⟨_, rfl⟩
      obtain ⟨tx, htx⟩ : ∃ y, y = x.text := ⟨_, rfl⟩
      obtain ⟨mo, hmo⟩ : ∃ y, y = x.more := ⟨_, rfl⟩
      have hIR : ∀ wx, Calls Tryz.prog 58 #[.agg #[.string rs, .int .i64 be, .int .i64 lv, .string tx, .string mo]] wx fun e w' => e = .returned (.bool (decide x.ok)) ∧ Below wx.heap.size wx w' := fun wx => by
        rw [hrs, hbe, hlv, htx, hmo]
        exact isRule_any x wx HFIT.out
      have HIR : Hid (∀ wx, Calls Tryz.prog 58 #[.agg #[.string rs, .int .i64 be, .int .i64 lv, .string tx, .string mo]] wx fun e w' => e = .returned (.bool (decide x.ok)) ∧ Below wx.heap.size wx w') := hIR
      rw [← hrs] at c0
      rw [← hbe] at c1
      rw [← hlv] at c2
      rw [← htx] at c3
      rw [← hmo] at c4
      have HEQ : Hid (rs = x.reset ∧ be = x.before ∧ lv = x.level ∧ tx = x.text ∧ mo = x.more) := ⟨hrs, hbe, hlv, htx, hmo⟩
      clear hx hrs hbe hlv htx hmo hIR hbw
      by_cases hok : x.ok
      · have hd : decide x.ok = true := by simp [hok]
        rw [hd] at HIR
        have hk := hok
        unfold Rl.ok at hk
        rw [← HEQ.out.1, ← HEQ.out.2.1, ← HEQ.out.2.2.1, ← HEQ.out.2.2.2.1, ← HEQ.out.2.2.2.2] at hk
        obtain ⟨⟨k1, k2⟩, k3, k4, ⟨k5, k6⟩, ⟨k7, k8⟩, k9⟩ := hk
        obtain ⟨kl, hkl⟩ : ∃ k : Nat, lv = (k : Int) := ⟨lv.toNat, by omega⟩
        obtain ⟨kb, hkb⟩ : ∃ k : Nat, be = (k : Int) := ⟨be.toNat, by omega⟩
        subst hkl
        subst hkb
        have hkl3 : kl ≤ 3 := by omega
        have hkb3 : kb ≤ 3 := by omega
        have HT1 : Hid (rt1 x = if rs.size = 0 then [] else [38] ++ beN kb ++ quo (blC rs)) := by show _ = _; rw [rt1, ← HEQ.out.1, ← HEQ.out.2.1]; rfl
        have HT2 : Hid (rt2 x = sgN kl ++ quo (blC tx)) := by show _ = _; rw [rt2, ← HEQ.out.2.2.1, ← HEQ.out.2.2.2.1]; rfl
        have HT3 : Hid (rt3 x = if mo.size = 0 then [] else [47] ++ quo (blC mo)) := by show _ = _; rw [rt3, ← HEQ.out.2.2.2.2]
        have HLN : Hid ((rt1 x).length ≤ 23 ∧ (rt2 x).length ≤ 9 ∧ (rt3 x).length ≤ 13) := rtx_len hok
        have HOK : Hid x.ok := hok
        clear hok hd
        go_wp2_with fail
        refine (HIR.out _).mono ?_
        rintro e w1 ⟨rfl, hb1⟩
        have hrow : w1.rowIs wr.heap.size 57 5 (fun j => #[Value.string rs, .int .i64 (kb : Nat), .int .i64 (kl : Nat), .string tx, .string mo].getD j undef) := (row_new wr #[Value.string rs, .int .i64 (kb : Nat), .int .i64 (kl : Nat), .string tx, .string mo] 57 5 rfl).of_block (hb1.block _ (by simp))
        have HB1 : Hid (Below W.heap.size W w1) := below_then HBR.out (below_then (below_one _) hb1)
        have HRX : Hid (∀ wy, Below w1.heap.size w1 wy → wy.cell? ⟨wr.heap.size, 0, none⟩ = some (.string rs) ∧ wy.cell? ⟨wr.heap.size, 1, none⟩ = some (.int .i64 (kb : Nat)) ∧ wy.cell? ⟨wr.heap.size, 2, none⟩ = some (.int .i64 (kl : Nat)) ∧ wy.cell? ⟨wr.heap.size, 3, none⟩ = some (.string tx) ∧ wy.cell? ⟨wr.heap.size, 4, none⟩ = some (.string mo)) := fun wy hy =>
          ⟨cellTo hy (hrow.cell (i := 0) (by omega)) hrow.lt, cellTo hy (hrow.cell (i := 1) (by omega)) hrow.lt, cellTo hy (hrow.cell (i := 2) (by omega)) hrow.lt, cellTo hy (hrow.cell (i := 3) (by omega)) hrow.lt, cellTo hy (hrow.cell (i := 4) (by omega)) hrow.lt⟩
        obtain ⟨x0, x1, x2, x3, x4⟩ := HRX.out w1 (Below.refl _ _)
        clear hb1 hrow c0 c1 c2 c3 c4 HIR
        by_cases hfi : i = 0 ∧ rs.size = 0
        · have HB : Hid (wrE f n = 8 ∧ wrV f n = { data := #[] }) := wr_bad hlt fun hh => hh.2 hfi.1 (by rw [← HX.out, ← HEQ.out.1]; exact hfi.2)
          obtain ⟨rfl, hre⟩ := hfi
          have he : rs.toList.isEmpty = true := by rw [empty_iff]; simp [hre]
          go_wp2
          go_ret2
          exact ⟨by rw [HB.out.1, HB.out.2]; rfl, below_then HBW.out HB1.out⟩
        · have HFN : Hid (∀ j, j < i + 1 → (f j).first j) := fun j hj => by
            by_cases e : j = i
            · subst e
              rw [← HX.out]
              exact ⟨HOK.out, fun h0 => by rw [← HEQ.out.1]; exact fun h1 => hfi ⟨h0, h1⟩⟩
            · exact HF.out j (by omega)
          go_upto_region 9 with (fail)
          go_cut [36] from 26 to 37 (fun bv wc => bv = .bool false ∧ wc = w1)
          case first =>
            by_cases hi0 : i = 0
            · have hrz : rs.size ≠ 0 := fun h1 => hfi ⟨hi0, h1⟩
              have he : rs.toList.isEmpty = false := by rw [empty_iff]; exact decide_eq_false hrz
              subst hi0
              go_wp2
              go_meet
              exact ⟨rfl, rfl⟩
            · have hi1 : ((i : Int) == 0) = false := beq_eq_false_iff_ne.2 (by omega)
              go_wp2
              go_meet
              exact ⟨rfl, rfl⟩
          case rest =>
            obtain ⟨rfl, hwc⟩ := hcut
            rename World => wy
            subst hwc
            have HSM : Hid (∀ k : Nat, k ≤ 3 → ∀ wz, Below W.heap.size W wz → wz.cell? ⟨w.heap.size, k, none⟩ = some (.string (strOfNums (sgN k))) ∧ wz.cell? ⟨w.heap.size + 1, k, none⟩ = some (.string (strOfNums (beN k)))) := fun k hk wz hz => HWC.out wz hz k hk
            go_upto_if 39 with (fail)
            go_cut [6, 10] from 37 to 53 (fun sv _ wc => ∃ r' : ByteArray, sv = .string r' ∧ Hid (r' = strOfNums (rls f i ++ rt1 x)) ∧ Below wy.heap.size wy wc)
            case first =>
              by_cases hre : rs.size = 0
              · have he : rs.toList.isEmpty = true := by rw [empty_iff]; simp [hre]
                have HRT : Hid (rt1 x = []) := by show _ = _; rw [HT1.out, if_pos hre]
                rw [he]
                clear he
                go_wp2
                go_meet
                exact ⟨r, rfl, (by show _ = _; rw [HRT.out, List.append_nil]; exact HRR.out), Below.refl _ _⟩
              · have he : rs.toList.isEmpty = false := by rw [empty_iff]; simp [hre]
                have HRT : Hid (rt1 x = [38] ++ beN kb ++ quo (blC rs)) := by show _ = _; rw [HT1.out, if_neg hre]
                rw [he]
                clear he
                obtain ⟨q, hq⟩ : ∃ q, q = strOfNums (quo (blC rs)) := ⟨_, rfl⟩
                obtain ⟨bs, hbs⟩ : ∃ q, q = strOfNums (beN kb) := ⟨_, rfl⟩
                have HQ : Hid (∀ wz, Calls Tryz.prog 59 #[.string rs] wz fun e w' => e = .returned (.string q) ∧ Below wz.heap.size wz w') := fun wz => by rw [hq]; exact quoted_any rs wz (by omega)
                have hql : q.size ≤ 12 := by rw [hq, strOfNums_size]; have := quo_len (blC rs); rw [blC_len] at this; omega
                have hbl : bs.size ≤ 10 := by rw [hbs, strOfNums_size]; exact beN_len kb
                have HQE : Hid (q = strOfNums (quo (blC rs)) ∧ bs = strOfNums (beN kb)) := ⟨hq, hbs⟩
                clear hq
                go_wp2_with fail
                refine (HQ.out _).mono ?_
                rintro e w2 ⟨rfl, hb2⟩
                have HB2 : Hid (Below wy.heap.size wy w2) := hb2
                obtain ⟨y0, y1, y2, y3, y4⟩ := HRX.out w2 hb2
                have b0 := (HSM.out kb hkb3 w2 (below_then HB1.out hb2)).2
                rw [← hbs] at b0
                have r1 : (kb : Int) < 4 := by omega
                have r2 : (0 : Int) ≤ (kb : Int) := by omega
                have h38 : ({ data := #[38] } : ByteArray).size = 1 := rfl
                clear hb2 hbs
                go_wp2
                go_meet
                refine ⟨_, rfl, ?_, HB2.out⟩
                show _ = _
                rw [HRT.out, str_app, ← HRR.out, str_app, str_app, ← HQE.out.1, ← HQE.out.2, ByteArray.append_assoc, ByteArray.append_assoc, ByteArray.append_assoc]
                rfl
            case rest =>
              rename World => wc
              obtain ⟨r', rfl, HR', hbc⟩ := hcut
              have HBC : Hid (Below wy.heap.size wy wc) := hbc
              obtain ⟨y0, y1, y2, y3, y4⟩ := HRX.out wc hbc
              have hr'l : r'.size ≤ i * 45 + 23 := by
                have h1 := rls_len i fun j hj => (HF.out j hj).1
                have h2 := HLN.out.1
                rw [HR'.out, strOfNums_size, List.length_append]
                omega
              clear hbc x0 x1 x2 x3 x4
              obtain ⟨q, hq⟩ : ∃ q, q = strOfNums (quo (blC tx)) := ⟨_, rfl⟩
              obtain ⟨sg, hsg⟩ : ∃ q, q = strOfNums (sgN kl) := ⟨_, rfl⟩
              have HQ : Hid (∀ wz, Calls Tryz.prog 59 #[.string tx] wz fun e w' => e = .returned (.string q) ∧ Below wz.heap.size wz w') := fun wz => by rw [hq]; exact quoted_any tx wz (by omega)
              have hql : q.size ≤ 6 := by rw [hq, strOfNums_size]; have := quo_len (blC tx); rw [blC_len] at this; omega
              have hsgl : sg.size ≤ 3 := by rw [hsg, strOfNums_size]; exact sgN_len kl
              have HQE : Hid (q = strOfNums (quo (blC tx)) ∧ sg = strOfNums (sgN kl)) := ⟨hq, hsg⟩
              clear hq
              go_wp2_with fail
              refine (HQ.out _).mono ?_
              rintro e w2 ⟨rfl, hb2⟩
              have HB2 : Hid (Below wy.heap.size wy w2) := below_then HBC.out hb2
              obtain ⟨z0, z1, z2, z3, z4⟩ := HRX.out w2 HB2.out
              have b0 := (HSM.out kl hkl3 w2 (below_then HB1.out HB2.out)).1
              rw [← hsg] at b0
              have r1 : (kl : Int) < 4 := by omega
              have r2 : (0 : Int) ≤ (kl : Int) := by omega
              clear hb2 hsg y0 y1 y2 y3 y4
              have HR2 : Hid (r' ++ sg ++ q = strOfNums (rls f i ++ rt1 x ++ rt2 x)) := by show _ = _; rw [HT2.out, str_app, ← HR'.out, str_app, ← HQE.out.1, ← HQE.out.2, ByteArray.append_assoc]
              by_cases hme : mo.size = 0
              · have he : mo.toList.isEmpty = true := by rw [empty_iff]; simp [hme]
                have HRT : Hid (rls f (i + 1) = rls f i ++ rt1 x ++ rt2 x) := by show _ = _; rw [rls_snoc, ← HX.out, rtx, HT3.out, if_pos hme, List.append_nil, List.append_assoc]
                have HBD : Hid (Below W.heap.size W w2) := below_then HB1.out HB2.out
                go_wp2
                go_roundw
                case rel => exact ⟨i + 1, _, (by show _ = _; rw [HRT.out]; exact HR2.out), HFN.out, by omega, rfl, by go_num, HBD.out⟩
                case measure => simp [intOf]; omega
              · have he : mo.toList.isEmpty = false := by rw [empty_iff]; simp [hme]
                have HRT : Hid (rls f (i + 1) = rls f i ++ rt1 x ++ rt2 x ++ ([47] ++ quo (blC mo))) := by show _ = _; rw [rls_snoc, ← HX.out, rtx, HT3.out, if_neg hme]; simp only [List.append_assoc]
                obtain ⟨q3, hq3⟩ : ∃ q, q = strOfNums (quo (blC mo)) := ⟨_, rfl⟩
                have HQ3 : Hid (∀ wz, Calls Tryz.prog 59 #[.string mo] wz fun e w' => e = .returned (.string q3) ∧ Below wz.heap.size wz w') := fun wz => by rw [hq3]; exact quoted_any mo wz (by omega)
                have hql3 : q3.size ≤ 12 := by rw [hq3, strOfNums_size]; have := quo_len (blC mo); rw [blC_len] at this; omega
                have HQE3 : Hid (q3 = strOfNums (quo (blC mo))) := hq3
                have h47 : ({ data := #[47] } : ByteArray).size = 1 := rfl
                obtain ⟨r2', hr2'⟩ : ∃ y, y = r' ++ sg ++ q := ⟨_, rfl⟩
                have hr2l : r2'.size ≤ i * 45 + 32 := by rw [hr2', ByteArray.size_append, ByteArray.size_append]; omega
                rw [← hr2'] at HR2
                have hsum : (r' ++ sg ++ q).size ≤ i * 45 + 32 := by rw [← hr2']; exact hr2l
                clear hq3
                go_wp2_with fail
                refine (HQ3.out _).mono ?_
                rintro e w3 ⟨rfl, hb3⟩
                have HBD : Hid (Below W.heap.size W w3) := below_then HB1.out (below_then HB2.out hb3)
                rw [← hr2']
                clear hb3 hr2' hsum
                go_wp2
                go_roundw
                case rel => exact ⟨i + 1, _, (by show _ = _; rw [HRT.out, str_app, ← HR2.out, str_app, ← HQE3.out, ByteArray.append_assoc]; rfl), HFN.out, by omega, rfl, by go_num, HBD.out⟩
                case measure => simp [intOf]; omega
      · have HB : Hid (wrE f n = 8 ∧ wrV f n = { data := #[] }) := wr_bad hlt fun hh => hok (by rw [HX.out]; exact hh.1)
        have hd : decide x.ok = false := by simp [hok]
        rw [hd] at HIR
        go_wp2_with fail
        refine (HIR.out _).mono ?_
        rintro e w1 ⟨rfl, hb1⟩
        go_wp2
        go_ret2
        exact ⟨by rw [HB.out.1, HB.out.2]; rfl, below_then HBW.out (below_then HBR.out (below_then (below_one _) hb1))⟩
    · have hie : i = n := by omega
      subst hie
      by_cases hL : 120 < r.size
      · have HB : Hid (wrE f i = 4 ∧ wrV f i = { data := #[] }) := wr_long HF.out (by have := hL; rw [HRR.out, strOfNums_size] at this; exact this)
        go_wp2
        go_ret2
        exact ⟨by rw [HB.out.1, HB.out.2]; rfl, hbw⟩
      · have HB : Hid (wrE f i = 0 ∧ wrV f i = r) := by
          have := wr_ok HF.out (by have := hL; rw [HRR.out, strOfNums_size] at this; exact this)
          exact ⟨this.1, by rw [this.2, HRR.out]⟩
        go_wp2
        go_ret2
        exact ⟨by rw [HB.out.1, HB.out.2]; rfl, hbw⟩

end Go.Proofs.YtpclldccjpncdabGreat
