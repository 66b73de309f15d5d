import Derived.Test.YtpclldccjpncdaaRdZ
import Derived.Test.YtpclldccjpncdaaWrQ
import Derived.Test.YtpclldccjpncdaaPick
namespace Go.Proofs.Ytpclldccjpncdaa
open Go.RowKit

/-- its numbers are int's -/
def Rl.in64 (x : Rl) : Prop := (-9223372036854775808 ≤ x.before ∧ x.before ≤ 9223372036854775807) ∧ (-9223372036854775808 ≤ x.level ∧ x.level ≤ 9223372036854775807)

set_option maxHeartbeats 1000000 in
theorem some_any (s : ByteArray) (m : Int) (w : World) (hm : 0 ≤ m ∧ m ≤ 1000) :
    Calls Try.prog 37 #[.string s, .int .i64 m] w fun e w' => ∃ u : ByteArray, e = .returned (.string u) ∧ (u.size : Int) ≤ m ∧ w' = w := by
  obtain ⟨n, hn⟩ : ∃ n : Nat, m = (n : Int) := ⟨m.toNat, by omega⟩
  subst hn
  by_cases h : n < s.size
  · have hz : (s.extract 0 n).size ≤ n := by rw [ByteArray.size_extract]; omega
    go_enter Try.func37, Try.ntmps37
    go_wp2
    go_ret
    exact ⟨s.extract 0 n, rfl, by omega, rfl⟩
  · go_enter Try.func37, Try.ntmps37
    go_wp2
    go_ret
    exact ⟨s, rfl, by omega, rfl⟩

set_option maxRecDepth 100000 in
set_option maxHeartbeats 2000000 in
theorem keepRules_any (n b off b' off' cap cap' : Nat) (ao ao' : Option Addr) (f : Nat → Rl) (w : World) (h : RulesIn w.heap.size w ao n b off f) (h' : RulesIn w.heap.size w ao' n b' off' f) :
    Calls Try.prog 25 #[.slice ao n cap, .slice ao' n cap'] w fun e w' => e = .returned (.bool true) ∧ Below w.heap.size w w' := by
  have HR : Hid (RulesIn w.heap.size w ao n b off f) := h
  have HR' : Hid (RulesIn w.heap.size w ao' n b' off' f) := h'
  have hle := h.le
  clear h h'
  go_enter Try.func25, Try.ntmps25
  go_wp2
  go_loopw [5] (fun i wr => ∃ j : Nat, j ≤ n ∧ i = .int .i64 j ∧ Below w.heap.size w wr) (fun i _ => n - (intOf i).toNat)
  case atStart => exact ⟨0, Nat.zero_le _, rfl, Below.refl _ _⟩
  case round =>
    obtain ⟨j, hj, rfl, hbel⟩ := hrel
    have hsz := hbel.size
    by_cases hlt : j < n
    · have e1 := HR.out.addr (by omega)
      have e2 := HR'.out.addr (by omega)
      subst e1
      subst e2
      have l1 := HR.out.lt (by omega)
      have l2 := HR'.out.lt (by omega)
      obtain ⟨x, hx⟩ : ∃ x, x = f j := ⟨_, rfl⟩
      have d0 := cellTo hbel (HR.out.c0 j hlt) l1
      have d1 := cellTo hbel (HR.out.c1 j hlt) l1
      have d2 := cellTo hbel (HR.out.c2 j hlt) l1
      have d3 := cellTo hbel (HR.out.c3 j hlt) l1
      have d4 := cellTo hbel (HR.out.c4 j hlt) l1
      rw [← hx] at d0 d1 d2 d3 d4
      obtain ⟨W, hW⟩ : ∃ W, W = wr.alloc (.cells #[.string x.reset, .int .i64 x.before, .int .i64 x.level, .string x.text, .string x.more] 70) := ⟨_, rfl⟩
      have hbW : Below w.heap.size w W := by rw [hW]; exact below_then hbel (below_one _)
      have g0 := cellTo hbW (HR'.out.c0 j hlt) l2
      have g1 := cellTo hbW (HR'.out.c1 j hlt) l2
      have g2 := cellTo hbW (HR'.out.c2 j hlt) l2
      have g3 := cellTo hbW (HR'.out.c3 j hlt) l2
      have g4 := cellTo hbW (HR'.out.c4 j hlt) l2
      rw [← hx] at g0 g1 g2 g3 g4
      rw [hW] at g0 g1 g2 g3 g4 hbW
      have HBW : Hid (Below w.heap.size w (wr.alloc (.cells #[.string x.reset, .int .i64 x.before, .int .i64 x.level, .string x.text, .string x.more] 70))) := hbW
      clear hx hW hbW
      obtain ⟨x0, x1, x2, x3, x4⟩ := x
      simp only at d0 d1 d2 d3 d4 g0 g1 g2 g3 g4 HBW
      go_wp2
      go_roundw
      case rel => exact ⟨j + 1, by omega, by go_num, below_then HBW.out (below_one _)⟩
      case measure => simp [intOf]; omega
    · go_wp2
      go_ret
      exact ⟨rfl, hbel⟩

end Go.Proofs.Ytpclldccjpncdaa
