import Derived.Test.YtpclldccjpncdaaCutY
namespace Go.Proofs.Ytpclldccjpncdaa
open Go.RowKit

def pickZ (c n : Int) : Int := (if c < 0 then -(c + 1) else c).tmod n
theorem pickZ_in (c n : Int) (hn : 1 ≤ n) : 0 ≤ pickZ c n ∧ pickZ c n < n := by
  unfold pickZ
  split
  · exact ⟨Int.tmod_nonneg _ (by omega), Int.tmod_lt_of_pos _ (by omega)⟩
  · exact ⟨Int.tmod_nonneg _ (by omega), Int.tmod_lt_of_pos _ (by omega)⟩

theorem wrapIn (x : Int) : -9223372036854775808 ≤ IntKind.i64.wrap x ∧ IntKind.i64.wrap x ≤ 9223372036854775807 := by
  rw [IntKind.wrap_i64]; omega
theorem quoIn (c : Int) (hc : -9223372036854775808 ≤ c ∧ c ≤ 9223372036854775807) (d : Int) (hd : 1 ≤ d) : -9223372036854775808 ≤ c.tdiv d ∧ c.tdiv d ≤ 9223372036854775807 := by
  have h := IntWalk.i64_quo' c d ⟨hc.1, hc.2, hd⟩
  rw [← h]
  exact wrapIn _

theorem pick_eq (c n : Int) (w : World) (hc : -9223372036854775808 ≤ c ∧ c ≤ 9223372036854775807) (hn : 1 ≤ n ∧ n ≤ 1000) :
    Calls Try.prog 21 #[.int .i64 c, .int .i64 n] w fun e w' => e = .returned (.int .i64 (pickZ c n)) ∧ w' = w := by
  obtain ⟨h1, h2⟩ := hn
  obtain ⟨h3, h4⟩ := hc
  have hq := pickZ_in c n h1
  unfold pickZ at hq ⊢
  by_cases h0 : c < 0
  · rw [if_pos h0] at hq ⊢
    go_enter Try.func21, Try.ntmps21
    go_wp2
    go_ret
    exact ⟨by rw [Int.neg_tmod]; rfl, rfl⟩
  · rw [if_neg h0] at hq ⊢
    go_enter Try.func21, Try.ntmps21
    go_wp2
    go_ret
    exact ⟨by rw [Int.tmod_eq_emod_of_nonneg (by omega)]; rfl, rfl⟩

theorem pick_any (c n : Int) (w : World) (hc : -9223372036854775808 ≤ c ∧ c ≤ 9223372036854775807) (hn : 1 ≤ n ∧ n ≤ 1000) :
    Calls Try.prog 21 #[.int .i64 c, .int .i64 n] w fun e w' => ∃ r : Nat, e = .returned (.int .i64 r) ∧ (r : Int) < n ∧ w' = w := by
  refine (pick_eq c n w hc hn).mono ?_
  rintro e w' ⟨rfl, rfl⟩
  obtain ⟨h1, h2⟩ := pickZ_in c n hn.1
  refine ⟨(pickZ c n).toNat, ?_, by omega, rfl⟩
  rw [Int.toNat_of_nonneg h1]

def ltr (i : Nat) : ByteArray := ⟨#[(97 + i).toUInt8]⟩
theorem letter_any (i : Nat) (w : World) (hi : i < 12) : Calls Try.prog 27 #[.int .i64 i] w fun e w' => e = .returned (.string (ltr i)) ∧ w' = w := by
  have : i = 0 ∨ i = 1 ∨ i = 2 ∨ i = 3 ∨ i = 4 ∨ i = 5 ∨ i = 6 ∨ i = 7 ∨ i = 8 ∨ i = 9 ∨ i = 10 ∨ i = 11 := by omega
  rcases this with rfl | rfl | rfl | rfl | rfl | rfl | rfl | rfl | rfl | rfl | rfl | rfl
  all_goals
    go_enter Try.func27, Try.ntmps27
    go_wp2
    go_ret
    exact ⟨rfl, rfl⟩

/-- a node as the walk of 'made' holds it: what 'next' may be given and what it gives -/
structure NodeFit (p s t : Int) : Prop where
  p0 : 0 ≤ p
  p1 : p ≤ 250
  s0 : 0 ≤ s
  s1 : s ≤ 250
  t0 : 0 ≤ t
  t1 : t ≤ 250
  ps : p = 0 ∨ 0 < s
theorem new_at (w : World) (o : Obj) (g : Nat) (h : g = w.heap.size) : (w.alloc o).heap[g]? = some o := h ▸ heap_alloc_new w o
theorem size53 : (Try.prog.info? 60).map (·.size) = some 3 := by kernel_rfl
structure NextOf (p s t p' s' t' : Int) : Prop where
  p0 : 0 ≤ p' ∧ p' ≤ 1000
  s0 : 0 ≤ s' ∧ s' ≤ 1000
  t0 : 1 ≤ t' ∧ t' ≤ 1000
  ps : p' = 0 ∨ 0 < s'
  above : aboveB p' s' t' p s t = true

theorem next0 {p s t : Int} (h : NodeFit p s t) {a b c : Nat} (ha : (a : Int) < 20) (hb : (b : Int) < 20) (hc : (c : Int) < 20) : NextOf p s t (IntKind.i64.wrap (p + (1 + a))) (IntKind.i64.wrap (1 + b)) (IntKind.i64.wrap (1 + c)) := by
  obtain ⟨p0, p1, s0, s1, t0, t1, ps⟩ := h
  rw [IntWalk.i64_in _ (by omega), IntWalk.i64_in _ (by omega), IntWalk.i64_in _ (by omega)]
  refine ⟨by omega, by omega, by omega, by omega, ?_⟩
  unfold aboveB
  rw [if_neg (by omega)]
  simp; omega
theorem next1 {p s t : Int} (h : NodeFit p s t) {a b : Nat} (ha : (a : Int) < 20) (hb : (b : Int) < 20) : NextOf p s t p (IntKind.i64.wrap (s + (1 + a))) (IntKind.i64.wrap (1 + b)) := by
  obtain ⟨p0, p1, s0, s1, t0, t1, ps⟩ := h
  rw [IntWalk.i64_in _ (by omega), IntWalk.i64_in _ (by omega)]
  refine ⟨by omega, by omega, by omega, by omega, ?_⟩
  unfold aboveB
  rw [if_pos rfl, if_neg (by omega)]
  simp; omega
theorem next2 {p s t : Int} (h : NodeFit p s t) {a : Nat} (ha : (a : Int) < 20) : NextOf p s t p s (t + (1 + a)) := by
  obtain ⟨p0, p1, s0, s1, t0, t1, ps⟩ := h
  refine ⟨by omega, by omega, by omega, by omega, ?_⟩
  unfold aboveB
  rw [if_pos rfl, if_pos rfl]
  simp; omega

set_option maxHeartbeats 1000000 in
theorem next_any (p s t v : Int) (w : World) (hf : NodeFit p s t) (hv : -9223372036854775808 ≤ v ∧ v ≤ 9223372036854775807) :
    Calls Try.prog 26 #[.agg #[.int .i64 p, .int .i64 s, .int .i64 t], .int .i64 v] w fun e w' => (∃ p' s' t', e = .returned (.agg #[.int .i64 p', .int .i64 s', .int .i64 t']) ∧ NextOf p s t p' s' t') ∧ Below w.heap.size w w' := by
  have HF : Hid (NodeFit p s t) := hf
  obtain ⟨p0, p1, s0, s1, t0, t1, _⟩ := hf
  have v3 := quoIn v hv 3 (by omega)
  have v36 := quoIn v hv 36 (by omega)
  have v7 := quoIn v hv 7 (by omega)
  have e36 := IntWalk.i64_quo' v 36 ⟨hv.1, hv.2, by omega⟩
  have e7 := IntWalk.i64_quo' v 7 ⟨hv.1, hv.2, by omega⟩
  go_enter Try.func26, Try.ntmps26
  go_wp2_with (go_at_call 21; refine (pick_any _ _ _ (by omega) (by omega)).mono ?_; rintro e w1 ⟨r, rfl, hr, rfl⟩)
  · go_region_with (go_at_call 21; refine (pick_any _ _ _ (by first | omega | exact wrapIn _) (by omega)).mono ?_; rintro e w1 ⟨r, rfl, hr, rfl⟩)
    all_goals
      go_wp2
      refine bodyPost_ret (results_cell_row rfl _ _ (w.heap.size + 1) 60 _ (0, 0) _ (by rfl) (new_at _ _ _ (by simp)) Try.underlying60 rfl size53) rfl ?_
      refine ⟨⟨_, _, _, rfl, ?_⟩, (below_then (below_one _) (below_one _)).drew⟩
      exact next0 HF.out (by omega) (by omega) (by omega)
  · go_region_with (go_at_call 21; refine (pick_any _ _ _ (by first | omega | exact wrapIn _) (by omega)).mono ?_; rintro e w1 ⟨r, rfl, hr, rfl⟩)
    all_goals
      go_wp2
      refine bodyPost_ret (results_cell_row rfl _ _ (w.heap.size + 1) 60 _ (0, 0) _ (by rfl) (new_at _ _ _ (by simp)) Try.underlying60 rfl size53) rfl ?_
      refine ⟨⟨_, _, _, rfl, ?_⟩, (below_then (below_one _) (below_one _)).drew⟩
      exact next1 HF.out (by omega) (by omega)
  · go_wp2
    refine bodyPost_ret (results_cell_row rfl _ _ (w.heap.size + 1) 60 _ (0, 0) _ (by rfl) (new_at _ _ _ (by simp)) Try.underlying60 rfl size53) rfl ?_
    refine ⟨⟨_, _, _, rfl, ?_⟩, below_then (below_one _) (below_one _)⟩
    exact next2 HF.out (by omega)

end Go.Proofs.Ytpclldccjpncdaa
