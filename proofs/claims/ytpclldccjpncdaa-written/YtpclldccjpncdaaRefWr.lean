import Derived.Test.YtpclldccjpncdaaRulesW
import Derived.Deep.Cut
import Derived.Deep.CutRange
import Derived.Deep.DeepCutAuto
namespace Go.Proofs.Ytpclldccjpncdaa
open Go.RowKit

def sgN : Nat → List Int
  | 0 => [61]
  | 1 => [60]
  | 2 => [60, 60]
  | _ => [60, 60, 60]
def beN : Nat → List Int
  | 0 => []
  | 1 => [91, 98, 101, 102, 111, 114, 101, 32, 49, 93]
  | 2 => [91, 98, 101, 102, 111, 114, 101, 32, 50, 93]
  | _ => [91, 98, 101, 102, 111, 114, 101, 32, 51, 93]
theorem sgN_len (n : Nat) : (sgN n).length ≤ 3 := by unfold sgN; split <;> simp
theorem beN_len (n : Nat) : (beN n).length ≤ 10 := by unfold beN; split <;> simp
def rt1 (x : Rl) : List Int := if x.reset.size = 0 then [] else [38] ++ beN x.before.toNat ++ quo (blC x.reset)
def rt2 (x : Rl) : List Int := sgN x.level.toNat ++ quo (blC x.text)
def rt3 (x : Rl) : List Int := if x.more.size = 0 then [] else [47] ++ quo (blC x.more)
/-- a rule as it is written -/
def rtx (x : Rl) : List Int := rt1 x ++ rt2 x ++ rt3 x
def rls (f : Nat → Rl) (n : Nat) : List Int := (List.range n).flatMap fun i => rtx (f i)
theorem rls_snoc (f : Nat → Rl) (n : Nat) : rls f (n + 1) = rls f n ++ rtx (f n) := by simp [rls, List.range_succ]
theorem rtx_len {x : Rl} (h : x.ok) : (rt1 x).length ≤ 23 ∧ (rt2 x).length ≤ 9 ∧ (rt3 x).length ≤ 13 := by
  obtain ⟨⟨_, h1⟩, h2, h3, _⟩ := h
  have q1 := quo_len (blC x.reset)
  have q2 := quo_len (blC x.text)
  have q3 := quo_len (blC x.more)
  rw [blC_len] at q1 q2 q3
  have s1 := sgN_len x.level.toNat
  have s2 := beN_len x.before.toNat
  refine ⟨?_, ?_, ?_⟩
  · unfold rt1; split <;> simp <;> omega
  · unfold rt2; simp; omega
  · unfold rt3; split <;> simp <;> omega
def Rl.first (x : Rl) (i : Nat) : Prop := x.ok ∧ (i = 0 → x.reset.size ≠ 0)
theorem rls_len {f : Nat → Rl} : ∀ n, (∀ i, i < n → (f i).ok) → (rls f n).length ≤ n * 45
  | 0, _ => by simp [rls]
  | n + 1, h => by
    have h1 := rls_len n fun i hi => h i (by omega)
    obtain ⟨a, b, c⟩ := rtx_len (h n (by omega))
    rw [rls_snoc, List.length_append, rtx, List.length_append, List.length_append]
    omega
open Classical in
noncomputable def wrE (f : Nat → Rl) (n : Nat) : Int := if ∀ i, i < n → (f i).first i then (if 120 < (rls f n).length then 4 else 0) else 8
noncomputable def wrV (f : Nat → Rl) (n : Nat) : ByteArray := if wrE f n = 0 then strOfNums (rls f n) else { data := #[] }
theorem wr_bad {f : Nat → Rl} {n i : Nat} (hi : i < n) (h : ¬ (f i).first i) : wrE f n = 8 ∧ wrV f n = { data := #[] } := by
  have h8 : wrE f n = 8 := by unfold wrE; rw [if_neg fun H => h (H i hi)]
  refine ⟨h8, ?_⟩
  unfold wrV
  rw [h8]
  rfl
theorem wr_long {f : Nat → Rl} {n : Nat} (h : ∀ i, i < n → (f i).first i) (hl : 120 < (rls f n).length) : wrE f n = 4 ∧ wrV f n = { data := #[] } := by
  have h4 : wrE f n = 4 := by unfold wrE; rw [if_pos h, if_pos hl]
  refine ⟨h4, ?_⟩
  unfold wrV
  rw [h4]
  rfl
theorem wr_ok {f : Nat → Rl} {n : Nat} (h : ∀ i, i < n → (f i).first i) (hl : ¬ 120 < (rls f n).length) : wrE f n = 0 ∧ wrV f n = strOfNums (rls f n) := by
  have h0 : wrE f n = 0 := by unfold wrE; rw [if_pos h, if_neg hl]
  refine ⟨h0, ?_⟩
  unfold wrV
  rw [h0]
  rfl

end Go.Proofs.Ytpclldccjpncdaa
