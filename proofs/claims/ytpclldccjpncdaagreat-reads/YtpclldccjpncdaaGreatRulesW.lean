import Derived.Test.YtpclldccjpncdaaGreatRulesP
import Derived.Test.YtpclldccjpncdaaGreatRulesS
namespace Go.Proofs.YtpclldccjpncdaaGreat
open Go.RowKit

/-- a rule that may be written -/
def Rl.ok (x : Rl) : Prop := (1 ≤ x.text.size ∧ x.text.size ≤ 3) ∧ x.more.size ≤ 6 ∧ x.reset.size ≤ 6 ∧ (0 ≤ x.level ∧ x.level ≤ 3) ∧ (0 ≤ x.before ∧ x.before ≤ 3) ∧ (x.before = 0 ∨ x.reset.size ≠ 0)
instance (x : Rl) : Decidable x.ok := by unfold Rl.ok; infer_instance
theorem empty_iff {s : ByteArray} : s.toList.isEmpty = decide (s.size = 0) := by
  by_cases h : s.size = 0
  · have h3 : s = ByteArray.empty := ByteArray.ext (Array.eq_empty_of_size_eq_zero h)
    subst h3
    simp
  · have : s.toList.isEmpty = false := by
      cases hq : s.toList with
      | cons a b => rfl
      | nil =>
        exfalso
        have h3 : s = ByteArray.empty := bytes_eq.1 (hq.trans (by simp))
        rw [h3] at h
        exact h rfl
    simp [this, h]

set_option maxRecDepth 100000 in
set_option maxHeartbeats 1000000 in
theorem isRule_any (x : Rl) (w : World) (hs : x.reset.size ≤ 140737488351232 ∧ x.text.size ≤ 140737488351232 ∧ x.more.size ≤ 140737488351232) :
    Calls Tryz.prog 63 #[.agg #[.string x.reset, .int .i64 x.before, .int .i64 x.level, .string x.text, .string x.more]] w fun e w' => e = .returned (.bool (decide x.ok)) ∧ Below w.heap.size w w' := by
  obtain ⟨reset, before, level, text, more⟩ := x
  simp only at hs ⊢
  obtain ⟨h1, h2, h3⟩ := hs
  by_cases a1 : text.size < 1
  · have HV : Hid (decide (Rl.ok ⟨reset, before, level, text, more⟩) = false) := by show _ = _; simp [Rl.ok]; omega
    go_enter Tryz.func63, Tryz.ntmps63
    go_wp2
    go_ret
    exact ⟨by rw [HV.out]; rfl, below_one _⟩
  by_cases a2 : 3 < text.size
  · have HV : Hid (decide (Rl.ok ⟨reset, before, level, text, more⟩) = false) := by show _ = _; simp [Rl.ok]; omega
    go_enter Tryz.func63, Tryz.ntmps63
    go_wp2
    go_ret
    exact ⟨by rw [HV.out]; rfl, below_one _⟩
  by_cases a3 : 6 < more.size
  · have HV : Hid (decide (Rl.ok ⟨reset, before, level, text, more⟩) = false) := by show _ = _; simp [Rl.ok]; omega
    go_enter Tryz.func63, Tryz.ntmps63
    go_wp2
    go_ret
    exact ⟨by rw [HV.out]; rfl, below_one _⟩
  by_cases a4 : 6 < reset.size
  · have HV : Hid (decide (Rl.ok ⟨reset, before, level, text, more⟩) = false) := by show _ = _; simp [Rl.ok]; omega
    go_enter Tryz.func63, Tryz.ntmps63
    go_wp2
    go_ret
    exact ⟨by rw [HV.out]; rfl, below_one _⟩
  by_cases a5 : level < 0
  · have HV : Hid (decide (Rl.ok ⟨reset, before, level, text, more⟩) = false) := by show _ = _; simp [Rl.ok]; omega
    go_enter Tryz.func63, Tryz.ntmps63
    go_wp2
    go_ret
    exact ⟨by rw [HV.out]; rfl, below_one _⟩
  by_cases a6 : 3 < level
  · have HV : Hid (decide (Rl.ok ⟨reset, before, level, text, more⟩) = false) := by show _ = _; simp [Rl.ok]; omega
    go_enter Tryz.func63, Tryz.ntmps63
    go_wp2
    go_ret
    exact ⟨by rw [HV.out]; rfl, below_one _⟩
  by_cases a7 : before < 0
  · have HV : Hid (decide (Rl.ok ⟨reset, before, level, text, more⟩) = false) := by show _ = _; simp [Rl.ok]; omega
    go_enter Tryz.func63, Tryz.ntmps63
    go_wp2
    go_ret
    exact ⟨by rw [HV.out]; rfl, below_one _⟩
  by_cases a8 : 3 < before
  · have HV : Hid (decide (Rl.ok ⟨reset, before, level, text, more⟩) = false) := by show _ = _; simp [Rl.ok]; omega
    go_enter Tryz.func63, Tryz.ntmps63
    go_wp2
    go_ret
    exact ⟨by rw [HV.out]; rfl, below_one _⟩
  by_cases a9 : before = 0
  · have HV : Hid (decide (Rl.ok ⟨reset, before, level, text, more⟩) = true) := by show _ = _; simp [Rl.ok]; omega
    subst a9
    go_enter Tryz.func63, Tryz.ntmps63
    go_wp2
    go_ret
    exact ⟨by rw [HV.out]; rfl, below_one _⟩
  · have a9' : (before == 0) = false := beq_eq_false_iff_ne.2 a9
    by_cases b1 : reset.size = 0
    · have HV : Hid (decide (Rl.ok ⟨reset, before, level, text, more⟩) = false) := decide_eq_false (fun h => by obtain ⟨_, _, _, _, _, h6⟩ := h; simp only at h6; omega)
      have b2 : reset.toList.isEmpty = true := by rw [empty_iff]; simp [b1]
      clear a9
      go_enter Tryz.func63, Tryz.ntmps63
      go_wp2
      go_ret
      exact ⟨by rw [HV.out]; rfl, below_one _⟩
    · have HV : Hid (decide (Rl.ok ⟨reset, before, level, text, more⟩) = true) := decide_eq_true ⟨⟨by show _ ≤ text.size; omega, by show text.size ≤ _; omega⟩, by show more.size ≤ _; omega, by show reset.size ≤ _; omega, ⟨by show _ ≤ level; omega, by show level ≤ _; omega⟩, ⟨by show _ ≤ before; omega, by show before ≤ _; omega⟩, .inr b1⟩
      have b2 : reset.toList.isEmpty = false := by rw [empty_iff]; simp [b1]
      clear a9
      go_enter Tryz.func63, Tryz.ntmps63
      go_wp2
      go_ret
      exact ⟨by rw [HV.out]; rfl, below_one _⟩

end Go.Proofs.YtpclldccjpncdaaGreat
