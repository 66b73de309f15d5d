import Derived.Test.YtpclldccjpncdaaWeigh
import Derived.Deep.RegionLaw
import Derived.Deep.QuietTactic
import Derived.BigQuiet
namespace Go.Proofs.Ytpclldccjpncdaa
open Go.RowKit

theorem infoNode : (Try.prog.info? 60).map (fun i => (i.zero, i.size, i.bytes)) = some (some (.agg #[.int .i64 0, .int .i64 0, .int .i64 0]), 3, 24) := by kernel_rfl
theorem infoInt : (Try.prog.info? 3).map (fun i => (i.zero, i.size, i.bytes)) = some (some (.int .i64 0), 1, 8) := by kernel_rfl
theorem new_three (w : World) (a b c : Value) (t : TypeId) : ∀ (j : Nat) (u : Value), [a, b, c][j]? = some u → (w.alloc (.cells #[a, b, c] t)).cell? ((⟨w.heap.size, 0, none⟩ : Addr).add j) = some u := by
  intro j u hj
  have hr : (w.alloc (.cells #[a, b, c] t)).rowIs w.heap.size t 3 (fun i => #[a, b, c].getD i undef) := row_new w _ t 3 rfl
  match j, hj with
  | 0, hj => simp at hj; subst hj; exact hr.cell (i := 0) (by omega)
  | 1, hj => simp at hj; subst hj; exact hr.cell (i := 1) (by omega)
  | 2, hj => simp at hj; subst hj; exact hr.cell (i := 2) (by omega)

set_option maxHeartbeats 400000 in
theorem weight_any (p s t : Int) (lv : Nat) (w : World) (h1 : 1 ≤ lv) (h3 : lv ≤ 3) :
    Calls Try.prog 56 #[.agg #[.int .i64 p, .int .i64 s, .int .i64 t], .int .i64 lv] w fun e w' => e = .returned (.int .i64 (if lv = 1 then p else if lv = 2 then s else t)) ∧ Below w.heap.size w w' := by
  have : lv = 1 ∨ lv = 2 ∨ lv = 3 := by omega
  rcases this with rfl | rfl | rfl
  all_goals
    go_enter Try.func56, Try.ntmps56
    go_wp2
    go_ret
    exact ⟨rfl, below_one _⟩

set_option maxHeartbeats 400000 in
theorem isLevel_any (lev : Int) (w : World) :
    Calls Try.prog 42 #[.int .i64 lev] w fun e w' => e = .returned (.bool (decide (1 ≤ lev ∧ lev ≤ 3))) ∧ w = w' := by
  by_cases h1 : 1 ≤ lev
  · by_cases h2 : lev ≤ 3
    all_goals
      go_enter Try.func42, Try.ntmps42
      go_wp2
      go_ret
      exact ⟨ret_bool (by simp [h1, h2]), rfl⟩
  · go_enter Try.func42, Try.ntmps42
    go_wp2
    go_ret
    exact ⟨ret_bool (by simp; intro _; omega), rfl⟩

set_option maxHeartbeats 1000000 in
theorem compareWeights_any (a b : List Int) (ao bo : Option Addr) (ab aoff bb boff acap bcap : Nat) (w : World) (h : IntsL w.heap.size w ao a ab aoff) (h' : IntsL w.heap.size w bo b bb boff) :
    Calls Try.prog 45 #[.slice ao a.length acap, .slice bo b.length bcap] w fun e w' => e = .returned (.int .i64 (cmpL a b)) ∧ Below w.heap.size w w' := by
  have la := h.le
  have lb := h'.le
  have HA : Hid (IntsL w.heap.size w ao a ab aoff) := h
  have HB : Hid (IntsL w.heap.size w bo b bb boff) := h'
  clear h h'
  obtain ⟨n, hn⟩ : ∃ n, n = a.length := ⟨_, rfl⟩
  obtain ⟨m, hm⟩ : ∃ m, m = b.length := ⟨_, rfl⟩
  rw [← hn] at la ⊢
  rw [← hm] at lb ⊢
  have HN : Hid (n = a.length) := hn
  have HM : Hid (m = b.length) := hm
  clear hn hm
  go_enter Try.func45, Try.ntmps45
  go_wp2
  go_loopw [5] (fun iv wr => ∃ j : Nat, j ≤ n ∧ j ≤ m ∧ iv = .int .i64 j ∧ Below w.heap.size w wr ∧ cmpL (a.drop j) (b.drop j) = cmpL a b) (fun iv _ => n - (intOf iv).toNat)
  case atStart => exact ⟨0, Nat.zero_le _, Nat.zero_le _, rfl, Below.refl _ _, by simp⟩
  case round =>
    obtain ⟨j, hj1, hj2, rfl, hbel, hcmp⟩ := hrel
    have HC : Hid (cmpL (a.drop j) (b.drop j) = cmpL a b) := hcmp
    clear hcmp
    by_cases hja : j < n
    · by_cases hjb : j < m
      · have pa : j < a.length := by have := HN.out; omega
        have pb : j < b.length := by have := HM.out; omega
        have e1 := HA.out.addr (by omega)
        have e2 := HB.out.addr (by omega)
        subst e1
        subst e2
        have c0 := cellTo hbel (HA.out.cell j pa) (HA.out.lt (by omega))
        have c1 := cellTo hbel (HB.out.cell j pb) (HB.out.lt (by omega))
        obtain ⟨x, hx⟩ : ∃ x, x = a.getD j 0 := ⟨_, rfl⟩
        obtain ⟨y, hy⟩ : ∃ y, y = b.getD j 0 := ⟨_, rfl⟩
        have HX : Hid (x = a.getD j 0) := hx
        have HY : Hid (y = b.getD j 0) := hy
        rw [← hx] at c0
        rw [← hy] at c1
        clear hx hy pa pb
        by_cases hlt : x < y
        · go_wp2
          go_quiet (fail)
          go_wp2
          go_ret
          exact ⟨ret_int (by rw [← HC.out]; exact (cmpL_lt (by have := HN.out; omega) (by have := HM.out; omega) (by rw [← HX.out, ← HY.out]; exact hlt)).symm), below_drewN hbel _⟩
        · by_cases hgt : y < x
          · go_wp2
            go_quiet (fail)
            go_wp2
            go_quiet (fail)
            go_wp2
            go_ret
            exact ⟨ret_int (by rw [← HC.out]; exact (cmpL_gt (by have := HN.out; omega) (by have := HM.out; omega) (by rw [← HX.out, ← HY.out]; exact hgt)).symm), (by first | exact below_drewN hbel _ | exact below_drewN (below_drewN hbel _) _)⟩
          · go_wp2
            go_quiet (fail)
            go_wp2
            go_quiet (fail)
            go_wp2
            go_roundw
            case rel => exact ⟨j + 1, by omega, by omega, by go_num, (by first | exact below_drewN hbel _ | exact below_drewN (below_drewN hbel _) _), by rw [← HC.out]; exact (cmpL_eq (by have := HN.out; omega) (by have := HM.out; omega) (by rw [← HX.out, ← HY.out]; omega)).symm⟩
            case measure => simp [intOf]; omega
      · have hje : j = m := by omega
        subst hje
        go_wp2
        go_ret
        refine ⟨ret_int ?_, hbel⟩
        rw [← HC.out, cmpL_end (.inr HM.out) (by have := HN.out; omega) (by have := HM.out; omega), ← HN.out, ← HM.out]
        have h1 : ¬ n < j := by omega
        simp [h1, hja]
    · have hje : j = n := by omega
      subst hje
      by_cases hnm : j < m
      · go_wp2
        go_ret
        refine ⟨ret_int ?_, hbel⟩
        rw [← HC.out, cmpL_end (.inl HN.out) (by have := HN.out; omega) (by have := HM.out; omega), ← HN.out, ← HM.out]
        simp [hnm]
      · go_wp2
        go_ret
        refine ⟨ret_int ?_, hbel⟩
        rw [← HC.out, cmpL_end (.inl HN.out) (by have := HN.out; omega) (by have := HM.out; omega), ← HN.out, ← HM.out]
        have : j = m := by omega
        simp [this]

end Go.Proofs.Ytpclldccjpncdaa
