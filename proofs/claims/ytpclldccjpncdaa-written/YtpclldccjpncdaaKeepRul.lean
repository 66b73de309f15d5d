import Derived.Test.YtpclldccjpncdaaOpen
import Derived.Test.YtpclldccjpncdaaKeepOpen
import Derived.Test.YtpclldccjpncdaaWrtA
namespace Go.Proofs.Ytpclldccjpncdaa
open Go.RowKit Go.ChangeShapes

section
variable {H : Type} {enc : TypeId × Value → H} {w : World} {base : Nat} {spare : Nat → Bool} {held : Bool}
set_option maxRecDepth 100000 in
theorem open_rule64 {fuel : Nat} {cs : List Value} {x : DataW H × List MemPlace} (h : DataW.trod enc Try.prog w base spare held fuel 70 cs = some x) (hfit : Fit 70 x.1) : ∃ r : Rl, cs = [.string r.reset, .int .i64 r.before, .int .i64 r.level, .string r.text, .string r.more] ∧ r.reset.size ≤ 140737488351232 ∧ r.text.size ≤ 140737488351232 ∧ r.more.size ≤ 140737488351232 ∧ r.in64 := by
  obtain ⟨xs, n, _, hx, hlen, hxs, hf⟩ := DataW.trod_struct Try.underlying70 h
  rw [cells_rule] at hlen
  rw [hx] at hfit
  match cs, hlen, xs, hxs, hf, hfit with
  | [c0, c1, c2, c3, c4], _, [y0, y1, y2, y3, y4], _, hf, hfit =>
    have h0 : DataW.trod enc Try.prog w base spare held n 9 (List.take (Try.prog.cellsOf 9) (List.drop 0 [c0, c1, c2, c3, c4])) = some y0 := hf 0 _ rfl
    have h1 : DataW.trod enc Try.prog w base spare held n 3 (List.take (Try.prog.cellsOf 3) (List.drop 1 [c0, c1, c2, c3, c4])) = some y1 := hf 1 _ rfl
    have h2 : DataW.trod enc Try.prog w base spare held n 3 (List.take (Try.prog.cellsOf 3) (List.drop 2 [c0, c1, c2, c3, c4])) = some y2 := hf 2 _ rfl
    have h3 : DataW.trod enc Try.prog w base spare held n 9 (List.take (Try.prog.cellsOf 9) (List.drop 3 [c0, c1, c2, c3, c4])) = some y3 := hf 3 _ rfl
    have h4 : DataW.trod enc Try.prog w base spare held n 9 (List.take (Try.prog.cellsOf 9) (List.drop 4 [c0, c1, c2, c3, c4])) = some y4 := hf 4 _ rfl
    simp only [cells_str, cells_int] at h0 h1 h2 h3 h4
    obtain ⟨s0, e0, l0⟩ := open_str h0 (hfit.field Try.underlying70 (j := 0) rfl rfl)
    obtain ⟨n1, e1, _, w1⟩ := DataW.trod_int Try.underlying3 h1
    obtain ⟨n2, e2, _, w2⟩ := DataW.trod_int Try.underlying3 h2
    obtain ⟨s3, e3, l3⟩ := open_str h3 (hfit.field Try.underlying70 (j := 3) rfl rfl)
    obtain ⟨s4, e4, l4⟩ := open_str h4 (hfit.field Try.underlying70 (j := 4) rfl rfl)
    simp at e0 e1 e2 e3 e4
    exact ⟨⟨s0, n1, n2, s3, s4⟩, by rw [e0, e1, e2, e3, e4], l0, l3, l4, wf_range w1, wf_range w2⟩
theorem open_rules64 {fuel : Nat} {cs : List Value} {x : DataW H × List MemPlace} (h : DataW.trod enc Try.prog w base spare held fuel 52 cs = some x) (hfit : Fit 52 x.1) :
    ∃ ao n cap b off f, cs = [.slice ao n cap] ∧ RulesIn w.heap.size w ao n b off f ∧ ∀ i, i < n → (f i).in64 := by
  obtain ⟨ao, n, cap, b, off, hcs, h1, h2, h3⟩ := open_rows Try.underlying52 cells_rule (by omega) h hfit
  rw [bytes_rule] at h2
  have h4 : ∀ i, i < n → ∃ R : RuD, (w.cell? ⟨b, off + i * 5, none⟩ = some (.string R.r.reset) ∧ w.cell? ⟨b, off + i * 5 + 1, none⟩ = some (.int .i64 R.r.before) ∧ w.cell? ⟨b, off + i * 5 + 2, none⟩ = some (.int .i64 R.r.level) ∧ w.cell? ⟨b, off + i * 5 + 3, none⟩ = some (.string R.r.text) ∧ w.cell? ⟨b, off + i * 5 + 4, none⟩ = some (.string R.r.more)) ∧
      (R.r.reset.size ≤ 140737488351232 ∧ R.r.text.size ≤ 140737488351232 ∧ R.r.more.size ≤ 140737488351232) ∧ R.r.in64 := fun i hi => by
    obtain ⟨cs', m, d, _, hc, ht, hfd⟩ := h3 i hi
    obtain ⟨r, rfl, hl⟩ := open_rule64 ht hfd
    exact ⟨⟨r⟩, ⟨hc 0 (by omega), hc 1 (by omega), hc 2 (by omega), hc 3 (by omega), hc 4 (by omega)⟩, ⟨hl.1, hl.2.1, hl.2.2.1⟩, hl.2.2.2⟩
  obtain ⟨F, hF⟩ := Deep.choose_lt h4
  exact ⟨ao, n, cap, b, off, fun i => (F i).r, hcs, ⟨fun h0 => (h1 h0).1, fun h0 => (h1 h0).2, fun i hi => (hF i hi).1.1, fun i hi => (hF i hi).1.2.1, fun i hi => (hF i hi).1.2.2.1, fun i hi => (hF i hi).1.2.2.2.1, fun i hi => (hF i hi).1.2.2.2.2, h2, fun i hi => (hF i hi).2.1⟩, fun i hi => (hF i hi).2.2⟩

end
end Go.Proofs.Ytpclldccjpncdaa
