import Derived.Test.YtpclldccjpncdaaEncP
namespace Go.Proofs.Ytpclldccjpncdaa
open Go.RowKit

/-- the eight bytes that want a backslash, in the document's order -/
def sgl : List Int := [32, 38, 60, 61, 47, 91, 93, 92]
/-- a byte that stands for itself only behind a backslash -/
def sp (c : Int) : Bool := sgl.contains c

/-- a part as it is written -/
def quo (l : List Int) : List Int := l.flatMap fun c => if sp c then [92, c] else [c]
theorem quo_snoc (l : List Int) (c : Int) : quo (l ++ [c]) = quo l ++ (if sp c then [92, c] else [c]) := by simp [quo]
theorem quo_len : ∀ l : List Int, (quo l).length ≤ l.length * 2
  | [] => by simp [quo]
  | c :: l => by
    have := quo_len l
    have h2 : (if sp c then [92, c] else [c]).length ≤ 2 := by split <;> simp
    have h3 : quo (c :: l) = (if sp c then [92, c] else [c]) ++ quo l := by simp [quo]
    rw [h3, List.length_append, List.length_cons]
    omega
theorem blC_at (s : ByteArray) (i : Nat) (h : i < s.size) : (blC s).getD i 0 = ((s[i]'h).toNat : Int) := by
  have h' : i < s.data.size := h
  rw [blC, List.getD_eq_getElem?_getD, List.getElem?_map, Array.getElem?_toList, Array.getElem?_eq_getElem h']
  rfl
theorem blC_take (s : ByteArray) (i : Nat) (h : i < s.size) : (blC s).take (i + 1) = (blC s).take i ++ [((s[i]'h).toNat : Int)] := by
  have hl : i < (blC s).length := by rw [blC_len]; exact h
  rw [List.take_succ_eq_append_getElem hl]
  congr 2
  have := blC_at s i h
  rw [List.getD, List.getElem?_eq_getElem hl] at this
  exact this

end Go.Proofs.Ytpclldccjpncdaa
