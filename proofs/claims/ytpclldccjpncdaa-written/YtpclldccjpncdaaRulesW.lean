import Derived.Test.YtpclldccjpncdaaRulesP
import Derived.Test.YtpclldccjpncdaaRulesS
namespace Go.Proofs.Ytpclldccjpncdaa
open Go.RowKit

/-- a rule that may be written -/
def Rl.ok (x : Rl) : Prop := (1 ≤ x.text.size ∧ x.text.size ≤ 3) ∧ x.more.size ≤ 6 ∧ x.reset.size ≤ 6 ∧ (0 ≤ x.level ∧ x.level ≤ 3) ∧ (0 ≤ x.before ∧ x.before ≤ 3) ∧ (x.before = 0 ∨ x.reset.size ≠ 0)
instance (x : Rl) : Decidable x.ok := by unfold Rl.ok; infer_instance
theorem empty_iff {s : ByteArray} : s.toList.isEmpty = decide (s.size = 0) := by
  by_cases h : s.size = 0
  · have h3 : s = ByteArray.empty := ByteArray.ext (Array.eq_empty_of_size_eq_zero h)
    subst h3
    simp
  · have : s.toList.isEmpty = false := by
      cases hq : s.toList with
      | cons a b => rfl
      | nil =>
        exfalso
        have h3 : s = ByteArray.empty := bytes_eq.1 (hq.trans (by simp))
        rw [h3] at h
        exact h rfl
    simp [this, h]

end Go.Proofs.Ytpclldccjpncdaa
