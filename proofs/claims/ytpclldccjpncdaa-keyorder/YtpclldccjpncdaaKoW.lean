import Derived.Test.YtpclldccjpncdaaOrdP
import Derived.Test.YtpclldccjpncdaaKeyX
namespace Go.Proofs.Ytpclldccjpncdaa
open Go.RowKit

/-- the bytes of a text, as numbers -/
def bl (s : ByteArray) : List Int := s.data.toList.map fun u => (u.toNat : Int)
theorem bl_len (s : ByteArray) : (bl s).length = s.size := by rw [bl, List.length_map, Array.length_toList]; rfl
theorem bl_at (s : ByteArray) (i : Nat) (h : i < s.size) : (bl s).getD i 0 = ((s[i]'h).toNat : Int) := by
  have h' : i < s.data.size := h
  rw [bl, List.getD_eq_getElem?_getD, List.getElem?_map, Array.getElem?_toList, Array.getElem?_eq_getElem h']
  rfl
theorem bl_nums (l : List Int) (h : ∀ x ∈ l, 0 ≤ x ∧ x ≤ 255) : bl (strOfNums l) = l := by
  unfold bl
  rw [strOfNums_data, List.map_map]
  refine (List.map_congr_left (g := id) fun x hx => ?_).trans (List.map_id l)
  have := h x hx
  have h1 : x.toNat % 256 = x.toNat := by omega
  simp [h1]
  omega
def zeros (l : List Int) : Nat := l.countP fun x => decide (x = 0)
theorem zeros_le (l : List Int) : zeros l ≤ l.length := List.countP_le_length

set_option maxHeartbeats 1000000 in
theorem noughts_any (s : ByteArray) (w : World) (hs : s.size ≤ 1000) :
    Calls Try.prog 16 #[.string s] w fun e w' => e = .returned (.int .i64 (zeros (bl s) : Nat)) ∧ w' = w := by
  go_enter Try.func16, Try.ntmps16
  go_wp2
  go_loopw [3, 4] (fun nv iv wr => ∃ i c : Nat, i ≤ s.size ∧ iv = .int .i64 (i : Nat) ∧ nv = .int .i64 (c : Nat) ∧ c = zeros ((bl s).take i) ∧ wr = w) (fun _ iv _ => s.size - (intOf iv).toNat)
  case atStart => exact ⟨0, 0, Nat.zero_le _, rfl, rfl, rfl, rfl⟩
  case round =>
    obtain ⟨i, c, hi, rfl, rfl, hc, hw⟩ := hrel
    obtain rfl := hw.symm
    have HC : Hid (c = zeros ((bl s).take i)) := hc
    have hcl : c ≤ 1000 := by rw [hc]; have := zeros_le ((bl s).take i); simp at this; omega
    clear hc hw
    by_cases hlt : i < s.size
    · have hst : zeros ((bl s).take (i + 1)) = c + (if ((s[i]'hlt).toNat : Int) = 0 then 1 else 0) := by
        have hl : i < (bl s).length := by rw [bl_len]; exact hlt
        rw [List.take_succ_eq_append_getElem hl, HC.out]
        have hb := bl_at s i hlt
        rw [List.getD_eq_getElem?_getD, List.getElem?_eq_getElem hl] at hb
        have hb' : (bl s)[i] = ((s[i]'hlt).toNat : Int) := hb
        unfold zeros
        rw [List.countP_append, hb']
        by_cases e : ((s[i]'hlt).toNat : Int) = 0 <;> simp [e]
      have HST : Hid (zeros ((bl s).take (i + 1)) = c + (if ((s[i]'hlt).toNat : Int) = 0 then 1 else 0)) := hst
      clear hst
      by_cases h0 : ((s[i]'hlt).toNat : Int) = 0
      · have HS : Hid (c + 1 = zeros ((bl s).take (i + 1))) := by show _ = _; rw [HST.out, if_pos h0]
        have h0' : (((s[i]'hlt).toNat : Int) == 0) = true := by simp [h0]
        clear h0 HST
        go_wp2
        go_roundw
        case rel => exact ⟨i + 1, c + 1, by omega, by go_num, by go_num, HS.out, by trivial⟩
        case measure => simp [intOf]; omega
      · have HS : Hid (c = zeros ((bl s).take (i + 1))) := by show _ = _; rw [HST.out, if_neg h0]; rfl
        have h0' : (((s[i]'hlt).toNat : Int) == 0) = false := by simpa using h0
        clear h0 HST
        go_wp2
        go_roundw
        case rel => exact ⟨i + 1, c, by omega, by go_num, rfl, HS.out, by trivial⟩
        case measure => simp [intOf]; omega
    · have hie : i = s.size := by omega
      go_wp2
      go_ret
      refine ⟨?_, rfl⟩
      have : c = zeros (bl s) := by rw [HC.out, List.take_of_length_le (by rw [bl_len]; omega)]
      rw [← this]
      rfl

set_option maxRecDepth 100000 in
set_option maxHeartbeats 1000000 in
theorem bytewise_any (x y : ByteArray) (w : World) (hx : x.size ≤ 1000) (_hy : y.size ≤ 1000) :
    Calls Try.prog 15 #[.string x, .string y] w fun e w' => e = .returned (.int .i64 (cmpL (bl x) (bl y))) ∧ Below w.heap.size w w' := by
  obtain ⟨r, hr⟩ : ∃ r, r = cmpL (bl x) (bl y) := ⟨_, rfl⟩
  have HR : Hid (r = cmpL (bl x) (bl y)) := hr
  rw [← hr]
  clear hr
  go_enter Try.func15, Try.ntmps15
  go_wp2
  go_loopw [5] (fun iv wr => ∃ i : Nat, i ≤ x.size ∧ i ≤ y.size ∧ iv = .int .i64 (i : Nat) ∧ r = cmpL ((bl x).drop i) ((bl y).drop i) ∧ Below w.heap.size w wr) (fun iv _ => x.size - (intOf iv).toNat)
  case atStart => exact ⟨0, Nat.zero_le _, Nat.zero_le _, rfl, HR.out, Below.refl _ _⟩
  case round =>
    clear HR
    obtain ⟨i, hix, hiy, rfl, hr, hbel⟩ := hrel
    have HR : Hid (r = cmpL ((bl x).drop i) ((bl y).drop i)) := hr
    clear hr
    have hlx := bl_len x
    have hly := bl_len y
    have HLX : Hid ((bl x).length = x.size) := hlx
    have HLY : Hid ((bl y).length = y.size) := hly
    clear hlx hly
    by_cases hlt : i < x.size ∧ i < y.size
    · obtain ⟨h1, h2⟩ := hlt
      have k1 : (0 : Int) ≤ (i : Int) := by omega
      have k2 : (i : Int) < (x.size : Int) := by omega
      have k3 : (i : Int) < (y.size : Int) := by omega
      have HU := bl_at x i h1
      have HV := bl_at y i h2
      have HLA : Hid (((x[i]'h1).toNat : Int) < ((y[i]'h2).toNat : Int) → r = -1) := fun h => by rw [HR.out]; exact cmpL_lt (by rw [HLX.out]; exact h1) (by rw [HLY.out]; exact h2) (by rw [HU, HV]; exact h)
      have HGA : Hid (((y[i]'h2).toNat : Int) < ((x[i]'h1).toNat : Int) → r = 1) := fun h => by rw [HR.out]; exact cmpL_gt (by rw [HLX.out]; exact h1) (by rw [HLY.out]; exact h2) (by rw [HU, HV]; exact h)
      have HEA : Hid (((x[i]'h1).toNat : Int) = ((y[i]'h2).toNat : Int) → r = cmpL ((bl x).drop (i + 1)) ((bl y).drop (i + 1))) := fun h => by rw [HR.out]; exact cmpL_eq (by rw [HLX.out]; exact h1) (by rw [HLY.out]; exact h2) (by rw [HU, HV]; exact h)
      clear HU HV
      by_cases c1 : ((x[i]'h1).toNat : Int) < ((y[i]'h2).toNat : Int)
      · have HD : Hid (r = -1) := HLA.out c1
        have d1 : decide (((x[i]'h1).toNat : Int) < ((y[i]'h2).toNat : Int)) = true := by simpa using c1
        go_wp2
        refine wp_region_below wr.heap.size (by kernel_rfl) (by kernel_rfl) ?_
        repeat (go_big_quiet_step (fail))
        refine wpQuiet_nil ?_
        rintro _ ⟨q, rfl⟩
        have hq := q.below
        generalize q.val = w2 at hq
        go_wp2
        go_ret
        exact ⟨ret_int HD.out.symm, hbel.trans (hq.mono hbel.size)⟩
      · have d1 : decide (((x[i]'h1).toNat : Int) < ((y[i]'h2).toNat : Int)) = false := by simpa using c1
        by_cases c2 : ((y[i]'h2).toNat : Int) < ((x[i]'h1).toNat : Int)
        · have HD : Hid (r = 1) := HGA.out c2
          have d2 : decide (((y[i]'h2).toNat : Int) < ((x[i]'h1).toNat : Int)) = true := by simpa using c2
          go_wp2
          refine wp_region_below wr.heap.size (by kernel_rfl) (by kernel_rfl) ?_
          repeat (go_big_quiet_step (fail))
          refine wpQuiet_nil ?_
          rintro _ ⟨q, rfl⟩
          have hq := q.below
          generalize q.val = w2 at hq
          go_wp2
          refine wp_region_below w2.heap.size (by kernel_rfl) (by kernel_rfl) ?_
          repeat (go_big_quiet_step (fail))
          refine wpQuiet_nil ?_
          rintro _ ⟨q, rfl⟩
          have hq2 := q.below
          generalize q.val = w3 at hq2
          go_wp2
          go_ret
          exact ⟨ret_int HD.out.symm, hbel.trans ((hq.trans (hq2.mono hq.size)).mono hbel.size)⟩
        · have HD : Hid (r = cmpL ((bl x).drop (i + 1)) ((bl y).drop (i + 1))) := HEA.out (by omega)
          have d2 : decide (((y[i]'h2).toNat : Int) < ((x[i]'h1).toNat : Int)) = false := by simpa using c2
          go_wp2
          refine wp_region_below wr.heap.size (by kernel_rfl) (by kernel_rfl) ?_
          repeat (go_big_quiet_step (fail))
          refine wpQuiet_nil ?_
          rintro _ ⟨q, rfl⟩
          have hq := q.below
          generalize q.val = w2 at hq
          go_wp2
          refine wp_region_below w2.heap.size (by kernel_rfl) (by kernel_rfl) ?_
          repeat (go_big_quiet_step (fail))
          refine wpQuiet_nil ?_
          rintro _ ⟨q, rfl⟩
          have hq2 := q.below
          generalize q.val = w3 at hq2
          go_wp2
          go_roundw
          case rel => exact ⟨i + 1, by omega, by omega, by go_num, HD.out, hbel.trans ((hq.trans (hq2.mono hq.size)).mono hbel.size)⟩
          case measure => simp [intOf]; omega
    · have HLT : Hid (¬ (i < x.size ∧ i < y.size)) := hlt
      have HE : Hid (r = if x.size < y.size then -1 else if y.size < x.size then 1 else 0) := by
        show _ = _
        rw [HR.out, cmpL_end (by rw [HLX.out, HLY.out]; omega) (by rw [HLX.out]; exact hix) (by rw [HLY.out]; exact hiy), HLX.out, HLY.out]
      clear hlt HR
      go_upto_region 2 with (fail)
      go_cut [15] from 6 to 31 (fun b wc => b = .bool false ∧ wc = wr)
      case first =>
        by_cases hk : i < x.size
        · have hk2 : ¬ i < y.size := fun h => HLT.out ⟨hk, h⟩
          go_wp2
          go_meet
          exact ⟨by simp <;> omega, rfl⟩
        · go_wp2
          go_meet
          exact ⟨by simp <;> omega, rfl⟩
      case rest =>
        obtain ⟨rfl, hwc⟩ := hcut
        rename World => wy
        subst hwc
        by_cases s1 : x.size < y.size
        · have HD : Hid (r = -1) := by show _ = _; rw [HE.out, if_pos s1]
          go_wp2
          go_ret
          exact ⟨ret_int HD.out.symm, hbel⟩
        · by_cases s2 : y.size < x.size
          · have HD : Hid (r = 1) := by show _ = _; rw [HE.out, if_neg s1, if_pos s2]
            go_wp2
            go_ret
            exact ⟨ret_int HD.out.symm, hbel⟩
          · have HD : Hid (r = 0) := by show _ = _; rw [HE.out, if_neg s1, if_neg s2]
            go_wp2
            go_ret
            exact ⟨ret_int HD.out.symm, hbel⟩

end Go.Proofs.Ytpclldccjpncdaa
