import Derived.Test.YtpclldccjpncdaaPiecesW
import Derived.Test.YtpclldccjpncdaaRef
namespace Go.Proofs.Ytpclldccjpncdaa
open Go.RowKit

noncomputable def entI (m : Nat) (tx : Nat → ByteArray) (u : ByteArray) : Int := if idx m tx u < m then (idx m tx u : Nat) else -1
theorem entI_hit {m : Nat} {tx : Nat → ByteArray} {u : ByteArray} {i : Nat} (hi : i < m) (ht : tx i = u) (hf : ∀ j, j < i → tx j ≠ u) : (i : Int) = entI m tx u := by
  have := idx_eq hi ht hf
  simp [entI, this, hi]
theorem entI_miss {m : Nat} {tx : Nat → ByteArray} {u : ByteArray} (hf : ∀ j, j < m → tx j ≠ u) : -1 = entI m tx u := by
  have : idx m tx u = m := idx_none (fun ⟨i, hi, ht⟩ => hf i hi ht)
  simp [entI, this]
theorem entI_text {m : Nat} {tx : Nat → ByteArray} {u : ByteArray} (h : isText m tx u) : entI m tx u = (idx m tx u : Nat) := by simp [entI, (idx_spec h).1]
theorem entI_no {m : Nat} {tx : Nat → ByteArray} {u : ByteArray} (h : ¬ isText m tx u) : entI m tx u = -1 := by simp [entI, idx_none h]

end Go.Proofs.Ytpclldccjpncdaa
