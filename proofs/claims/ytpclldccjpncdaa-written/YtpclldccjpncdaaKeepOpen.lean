import Derived.Test.YtpclldccjpncdaaOpen
import Derived.Test.YtpclldccjpncdaaKeepRaw
namespace Go.Proofs.Ytpclldccjpncdaa
open Go.RowKit Go.ChangeShapes

theorem keepKnob : ownKnob Try.prog.godebug = none := by kernel_rfl
theorem keepLaid : laidOutB Try.prog = true := by kernel_rfl
theorem wf_range {n : Int} (h : (Lit.int .i64 n).wf = true) : -9223372036854775808 ≤ n ∧ n ≤ 9223372036854775807 := by
  simp only [Lit.wf, Bool.and_eq_true, decide_eq_true_eq] at h
  exact h

theorem open_raw {H : Type} {enc : TypeId × Value → H} {w : World} {base : Nat} {spare : Nat → Bool} {held : Bool} {fuel : Nat} {cs : List Value} {x : DataW H × List MemPlace} (h : DataW.trod enc Try.prog w base spare held fuel 22 cs = some x) (hfit : Fit 22 x.1) :
    ∃ ao k cap b off z, cs = [.slice ao k cap] ∧ RawIn w.heap.size w ao k b off z := by
  rcases open_ints Try.underlying22 Try.underlying3 cells_int h with ⟨hcs, _⟩ | ⟨a, len, cap, zs, hcs, _, hl, hm, hz, hx, hcell, hwf⟩
  · exact ⟨none, 0, 0, 0, 0, fun _ => 0, hcs, ⟨⟨by omega, by omega, by omega, by omega⟩, by omega⟩⟩
  · have hle : len ≤ zs.length := by rw [hz]; split <;> omega
    rw [hx] at hfit
    have hsz := hfit.slice Try.underlying22
    rw [bytes_int] at hsz
    simp only [lits, List.length_map, List.length_take, List.length_drop] at hsz
    refine ⟨some a, len, cap, a.block, a.off, fun i => zs.getD i 0, hcs, ⟨⟨fun h0 => ?_, fun h0 => ?_, fun i hi => ?_, by omega⟩, fun i hi => wf_range (hwf _ ?_)⟩⟩
    · have := hcell 0 (by omega)
      rw [← plain_of this]
    · have := hcell 0 (by omega)
      exact World.cells?_block (w := w) (base := 0) (a := a.add 0) (n := 1) (cs := [_]) (cells?_one (Nat.zero_le _) this) (by omega) |> (by simpa [Addr.add] using ·)
    · have h0 := plain_of (hcell 0 (by omega))
      have := hcell i (by omega)
      rw [h0, Go.WideShapes.add_plain] at this
      exact this
    · simp [List.getD_eq_getElem?_getD, show i < zs.length by omega]

end Go.Proofs.Ytpclldccjpncdaa
