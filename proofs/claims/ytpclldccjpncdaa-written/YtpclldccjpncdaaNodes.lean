import Derived.Test.YtpclldccjpncdaaSpec
namespace Go.Proofs.Ytpclldccjpncdaa
open Go.RowKit

set_option maxHeartbeats 400000 in
theorem isNode_any (p s t : Int) (w : World) :
    Calls Try.prog 67 #[.agg #[.int .i64 p, .int .i64 s, .int .i64 t]] w fun e w' => e = .returned (.bool (nodeB p s t)) ∧ Below w.heap.size w w' := by
  go_enter Try.func67, Try.ntmps67
  go_wp2
  all_goals
    go_ret
    refine ⟨ret_bool ?_, (Below.refl _ _).alloc (Nat.le_refl _) _⟩
    unfold nodeB
    rw [Bool.eq_iff_iff]; simp; try omega

set_option maxHeartbeats 400000 in
theorem isAbove_any (p s t p' s' t' : Int) (w : World) :
    Calls Try.prog 68 #[.agg #[.int .i64 p, .int .i64 s, .int .i64 t], .agg #[.int .i64 p', .int .i64 s', .int .i64 t']] w fun e w' => e = .returned (.bool (aboveB p s t p' s' t')) ∧ Below w.heap.size w w' := by
  go_enter Try.func68, Try.ntmps68
  go_wp2
  all_goals
    go_ret
    refine ⟨ret_bool ?_, ((Below.refl _ _).alloc (Nat.le_refl _) _).alloc (by simp) _⟩
    unfold aboveB
    simp_all


set_option maxHeartbeats 400000 in
theorem validNodes_any (n cap b off : Nat) (ao : Option Addr) (p s t : Nat → Int) (w : World) (hn : n ≤ 48) (h : NodesIn w.heap.size w ao n b off p s t) :
    Calls Try.prog 52 #[.slice ao n cap] w fun e w' => e = .returned (.bool (nodesB n p s t)) ∧ Below w.heap.size w w' := by
  obtain ⟨ha, hb, hp, hs, ht, _⟩ := h
  go_enter Try.func52, Try.ntmps52
  go_wp2
  go_loopw [3] (fun i wr => ∃ k : Nat, k ≤ n ∧ i = .int .i64 k ∧ Below w.heap.size w wr ∧ nodesOk k p s t) (fun i _ => n - (intOf i).toNat)
  case atStart => exact ⟨0, Nat.zero_le _, rfl, Below.refl _ _, by intro j hj; omega⟩
  case round =>
    obtain ⟨k, hk, rfl, hbel, hok⟩ := hrel
    have HOK : Hid (nodesOk k p s t) := hok
    clear hok
    by_cases hlt : k < n
    · have ha' := ha (by omega)
      subst ha'
      clear ha
      have hbb := hb (by omega)
      have c0 : wr.cell? ⟨b, off + k * 3, none⟩ = some (.int .i64 (p k)) := (hbel.cell (by exact hbb)).trans (hp k hlt)
      have c1 : wr.cell? ⟨b, off + k * 3 + 1, none⟩ = some (.int .i64 (s k)) := (hbel.cell (by exact hbb)).trans (hs k hlt)
      have c2 : wr.cell? ⟨b, off + k * 3 + 2, none⟩ = some (.int .i64 (t k)) := (hbel.cell (by exact hbb)).trans (ht k hlt)
      have hsz := hbel.size
      go_wp2_with (go_at_call 67; refine (isNode_any _ _ _ _).mono ?_; rintro e w1 ⟨rfl, hb1⟩)
      · go_ret
        exact ⟨ret_bool (nodesB_no1 hlt (by simp_all)), hbel.trans (hb1.mono hsz)⟩
      · have hz1 := hb1.size
        by_cases h0 : 0 < k
        · have d0 := Wb.cell (w := w1) (B := wr.heap.size) (by show b < _; omega) ((hb1.cell (by show b < _; omega)).trans c0)
          have d1 := Wb.cell (w := w1) (B := wr.heap.size) (by show b < _; omega) ((hb1.cell (by show b < _; omega)).trans c1)
          have d2 := Wb.cell (w := w1) (B := wr.heap.size) (by show b < _; omega) ((hb1.cell (by show b < _; omega)).trans c2)
          have g0 := Wb.cell (w := w1) (B := wr.heap.size) (by show b < _; omega) ((hb1.cell (by show b < _; omega)).trans ((hbel.cell (by exact hbb)).trans (hp (k - 1) (by omega))))
          have g1 := Wb.cell (w := w1) (B := wr.heap.size) (by show b < _; omega) ((hb1.cell (by show b < _; omega)).trans ((hbel.cell (by exact hbb)).trans (hs (k - 1) (by omega))))
          have g2 := Wb.cell (w := w1) (B := wr.heap.size) (by show b < _; omega) ((hb1.cell (by show b < _; omega)).trans ((hbel.cell (by exact hbb)).trans (ht (k - 1) (by omega))))
          refine wp_region_below wr.heap.size (by kernel_rfl) (by kernel_rfl) ?_
          repeat (go_big_quiet_step ((go_at_call 68; exact Wb.ofCall _ hz1 (isAbove_any _ _ _ _ _ _ _))))
          refine wpQuiet_nil ?_
          rintro _ ⟨x, rfl⟩
          have hx := x.below
          generalize x.val = w2 at hx
          clear d0 d1 d2 g0 g1 g2
          go_wp2
          · go_ret
            exact ⟨ret_bool (nodesB_no2 hlt h0 (by simp_all)), hbel.trans ((hb1.trans hx).mono hsz)⟩
          · go_roundw
            case rel => exact ⟨k + 1, by omega, by go_num, hbel.trans ((hb1.trans hx).mono hsz), nodesOk_step HOK.out (by simp_all) (fun _ => by simp_all)⟩
            case measure => simp [intOf]; omega
        · have hd : decide (0 < k) = false := by simpa using h0
          refine wp_region_below wr.heap.size (by kernel_rfl) (by kernel_rfl) ?_
          repeat (go_big_quiet_step (fail))
          refine wpQuiet_nil ?_
          rintro _ ⟨x, rfl⟩
          have hx := x.below
          generalize x.val = w2 at hx
          go_wp2
          go_roundw
          case rel => exact ⟨k + 1, by omega, by go_num, hbel.trans ((hb1.trans hx).mono hsz), nodesOk_step HOK.out (by simp_all) (fun h => absurd h h0)⟩
          case measure => simp [intOf]; omega
    · go_wp2
      go_ret
      have : k = n := by omega
      subst this
      exact ⟨ret_bool (nodesB_true HOK.out), hbel⟩
end Go.Proofs.Ytpclldccjpncdaa
