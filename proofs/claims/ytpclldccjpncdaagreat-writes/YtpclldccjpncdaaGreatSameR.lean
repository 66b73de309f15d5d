import Derived.Test.YtpclldccjpncdaaGreatRefWr
import Derived.Test.YtpclldccjpncdaaGreatSame
namespace Go.Proofs.YtpclldccjpncdaaGreat
open Go.RowKit

set_option maxHeartbeats 400000 in
theorem sameRule_any (x : Rl) (w : World) :
    Calls Tryz.prog 61 #[.agg #[.string x.reset, .int .i64 x.before, .int .i64 x.level, .string x.text, .string x.more], .agg #[.string x.reset, .int .i64 x.before, .int .i64 x.level, .string x.text, .string x.more]] w fun e w' => e = .returned (.bool true) ∧ Below w.heap.size w w' := by
  obtain ⟨reset, before, level, text, more⟩ := x
  simp only
  go_enter Tryz.func61, Tryz.ntmps61
  go_wp2
  go_ret
  exact ⟨rfl, below_then (below_one _) (below_one _)⟩

set_option maxRecDepth 100000 in
set_option maxHeartbeats 1000000 in
theorem sameRules_any (n b off b' off' cap cap' : Nat) (ao ao' : Option Addr) (f : Nat → Rl) (w : World) (h : RulesIn w.heap.size w ao n b off f) (h' : RulesIn w.heap.size w ao' n b' off' f) :
    Calls Tryz.prog 36 #[.slice ao n cap, .slice ao' n cap'] w fun e w' => e = .returned (.bool true) ∧ Below w.heap.size w w' := by
  have HR : Hid (RulesIn w.heap.size w ao n b off f) := h
  have HR' : Hid (RulesIn w.heap.size w ao' n b' off' f) := h'
  have hle := h.le
  clear h h'
  go_enter Tryz.func36, Tryz.ntmps36
  go_wp2
  go_loopw [5] (fun i wr => ∃ j : Nat, j ≤ n ∧ i = .int .i64 j ∧ Below w.heap.size w wr) (fun i _ => n - (intOf i).toNat)
  case atStart => exact ⟨0, Nat.zero_le _, rfl, Below.refl _ _⟩
  case round =>
    obtain ⟨j, hj, rfl, hbel⟩ := hrel
    have hsz := hbel.size
    by_cases hlt : j < n
    · have e1 := HR.out.addr (by omega)
      have e2 := HR'.out.addr (by omega)
      subst e1
      subst e2
      have l1 := HR.out.lt (by omega)
      have l2 := HR'.out.lt (by omega)
      obtain ⟨x, hx⟩ : ∃ x, x = f j := ⟨_, rfl⟩
      have d0 := Wb.cell (w := wr) (B := wr.heap.size) (by show b < _; omega) (cellTo hbel (HR.out.c0 j hlt) l1)
      have d1 := Wb.cell (w := wr) (B := wr.heap.size) (by show b < _; omega) (cellTo hbel (HR.out.c1 j hlt) l1)
      have d2 := Wb.cell (w := wr) (B := wr.heap.size) (by show b < _; omega) (cellTo hbel (HR.out.c2 j hlt) l1)
      have d3 := Wb.cell (w := wr) (B := wr.heap.size) (by show b < _; omega) (cellTo hbel (HR.out.c3 j hlt) l1)
      have d4 := Wb.cell (w := wr) (B := wr.heap.size) (by show b < _; omega) (cellTo hbel (HR.out.c4 j hlt) l1)
      have g0 := Wb.cell (w := wr) (B := wr.heap.size) (by show b' < _; omega) (cellTo hbel (HR'.out.c0 j hlt) l2)
      have g1 := Wb.cell (w := wr) (B := wr.heap.size) (by show b' < _; omega) (cellTo hbel (HR'.out.c1 j hlt) l2)
      have g2 := Wb.cell (w := wr) (B := wr.heap.size) (by show b' < _; omega) (cellTo hbel (HR'.out.c2 j hlt) l2)
      have g3 := Wb.cell (w := wr) (B := wr.heap.size) (by show b' < _; omega) (cellTo hbel (HR'.out.c3 j hlt) l2)
      have g4 := Wb.cell (w := wr) (B := wr.heap.size) (by show b' < _; omega) (cellTo hbel (HR'.out.c4 j hlt) l2)
      rw [← hx] at d0 d1 d2 d3 d4 g0 g1 g2 g3 g4
      clear hx
      go_wp2
      refine wp_region_below wr.heap.size (by kernel_rfl) (by kernel_rfl) ?_
      repeat (go_big_quiet_step ((go_at_call 61; exact Wb.ofCall _ (Nat.le_refl _) (sameRule_any _ _))))
      refine wpQuiet_nil ?_
      rintro _ ⟨y, rfl⟩
      have hy := y.below
      generalize y.val = w2 at hy
      clear d0 d1 d2 d3 d4 g0 g1 g2 g3 g4
      go_wp2
      go_roundw
      case rel => exact ⟨j + 1, by omega, by go_num, below_then hbel hy⟩
      case measure => simp [intOf]; omega
    · go_wp2
      go_ret
      exact ⟨rfl, hbel⟩

end Go.Proofs.YtpclldccjpncdaaGreat
