import Derived.Test.YtpclldccjpncdaaRefPieces
namespace Go.Proofs.Ytpclldccjpncdaa
open Go.RowKit

/-- what is left of a text from a place on -/
def rest (s : ByteArray) (p : Nat) : ByteArray := s.extract p s.size
theorem rest_zero (s : ByteArray) : rest s 0 = s := ByteArray.extract_zero_size
theorem rest_size (s : ByteArray) (p : Nat) : (rest s p).size = s.size - p := by simp [rest, ByteArray.size_extract]
theorem rest_sub (s : ByteArray) (p n : Nat) (h : p + n ≤ s.size) : (rest s p).extract 0 n = sub s p n := by
  rw [rest, sub, ByteArray.extract_extract, Nat.add_zero, Nat.min_eq_left h]
theorem rest_rest (s : ByteArray) (p n : Nat) : (rest s p).extract n (rest s p).size = rest s (p + n) := by
  rw [rest_size, rest, ByteArray.extract_extract, rest]
  congr 1
  omega

end Go.Proofs.Ytpclldccjpncdaa
