import Derived.Test.YtpclldccjpncdaaValid
namespace Go.Proofs.Ytpclldccjpncdaa
open Go.RowKit

theorem nodeB_no {p s t : Int} (h : ¬ ((0 ≤ p ∧ p ≤ 250) ∧ (0 ≤ s ∧ s ≤ 250) ∧ (1 ≤ t ∧ t ≤ 250) ∧ (p = 0 ∨ 0 < s))) : false = nodeB p s t := by simp [nodeB, h]
theorem nodeB_yes {p s t : Int} (h : (0 ≤ p ∧ p ≤ 250) ∧ (0 ≤ s ∧ s ≤ 250) ∧ (1 ≤ t ∧ t ≤ 250) ∧ (p = 0 ∨ 0 < s)) : true = nodeB p s t := by simp [nodeB, h]

def partsI (p s t p' s' t' : Int) : Int := if p ≠ p' then 1 else if s ≠ s' then 2 else if t ≠ t' then 3 else 0

end Go.Proofs.Ytpclldccjpncdaa
