import Derived.Test.YtpclldccjpncdaaLend
import Derived.Maps.AppendAt
import Derived.OwnWalk
import Derived.Laws.Rows
namespace Go.Proofs.Ytpclldccjpncdaa
open Go.RowKit

theorem infoIntC : (Try.prog.info? 3).map (fun i => (i.zero, i.size, i.bytes)) = some (some (.int .i64 0), 1, 8) := by kernel_rfl
theorem infoByteC : (Try.prog.info? 5).map (fun i => (i.zero, i.size, i.bytes)) = some (some (.int .u8 0), 1, 1) := by kernel_rfl
theorem infoNodeC : (Try.prog.info? 60).map (fun i => (i.zero, i.size, i.bytes)) = some (some (.agg #[.int .i64 0, .int .i64 0, .int .i64 0]), 3, 24) := by kernel_rfl
theorem infoEntC : (Try.prog.info? 64).map (fun i => (i.zero, i.size, i.bytes)) = some (some (.agg #[.string ByteArray.empty, .slice none 0 0]), 2, 40) := by kernel_rfl
theorem infoListC : (Try.prog.info? 22).map (fun i => (i.zero, i.size, i.bytes)) = some (some (.slice none 0 0), 1, 24) := by kernel_rfl

theorem newC2 (w : World) {B : Nat} (hB : w.heap.size = B) (a b : Value) (t : TypeId) : ∀ (j : Nat) (u : Value), [a, b][j]? = some u → (w.alloc (.cells #[a, b] t)).cell? ((⟨B, 0, none⟩ : Addr).add j) = some u :=
  hB ▸ World.news_of_block (cs := #[a, b]) (t := t) (fr := (0, 0)) (heap_alloc_new w _)
theorem newC3 (w : World) {B : Nat} (hB : w.heap.size = B) (a b c : Value) (t : TypeId) : ∀ (j : Nat) (u : Value), [a, b, c][j]? = some u → (w.alloc (.cells #[a, b, c] t)).cell? ((⟨B, 0, none⟩ : Addr).add j) = some u :=
  hB ▸ World.news_of_block (cs := #[a, b, c]) (t := t) (fr := (0, 0)) (heap_alloc_new w _)
theorem newC4 (w : World) {B : Nat} (hB : w.heap.size = B) (a b c d : Value) (t : TypeId) : ∀ (j : Nat) (u : Value), [a, b, c, d][j]? = some u → (w.alloc (.cells #[a, b, c, d] t)).cell? ((⟨B, 0, none⟩ : Addr).add j) = some u :=
  hB ▸ World.news_of_block (cs := #[a, b, c, d]) (t := t) (fr := (0, 0)) (heap_alloc_new w _)

section
variable {w : World} {base : Nat} {e : TypeId} {size : Nat} {v : Value} {n : Nat} {xs : List Value}
theorem ownC_lt (ho : w.ownsRow base e size v n xs) {b : Nat} (hb : v.ownBlock = some b) : b < w.heap.size ∧ base ≤ b := by
  obtain ⟨_, h2⟩ := ho
  rcases h2 with ⟨rfl, _⟩ | ⟨g, cap, cur, rfl, hg, hh, _⟩
  · simp [Value.ownBlock] at hb
  · simp only [Value.ownBlock, Option.some.injEq] at hb
    subst hb
    exact ⟨(Array.getElem?_eq_some_iff.1 hh).1, hg⟩
theorem ownC_below {w' : World} (ho : w.ownsRow base e size v n xs) (hb : Below w.heap.size w w') : w'.ownsRow base e size v n xs :=
  own_of_block ho fun b h => hb.block b (ownC_lt ho h).1
theorem ownC_base {b' : Nat} (ho : w.ownsRow base e size v n xs) (h : b' ≤ base) : w.ownsRow b' e size v n xs := by
  obtain ⟨h1, h2⟩ := ho
  rcases h2 with h2 | ⟨g, cap, cur, hv, hg, r⟩
  · exact ⟨h1, .inl h2⟩
  · exact ⟨h1, .inr ⟨g, cap, cur, hv, by omega, r⟩⟩
theorem ownC_grown_below {B : Nat} {w0 w2 : World} (hb : Below B w0 w) (hB : B ≤ w.heap.size) (hown : w.ownsRow base e size v n xs) (hbase : B ≤ base) (hg : w.grownBy w2 v.ownBlock) : Below B w0 w2 :=
  hb.grown hg hB (fun _ hr => Nat.le_trans hbase (ownC_lt hown hr).2)
theorem ownC_cells (ho : w.ownsRow base e size v n xs) :
    ∃ vo vc gv, v = .slice vo n vc ∧ (0 < n → vo = some ⟨gv, 0, none⟩ ∧ gv < w.heap.size ∧ base ≤ gv) ∧ ∀ c u, c < n * size → xs[c]? = some u → w.cell? ⟨gv, c, none⟩ = some u := by
  obtain ⟨_, h2⟩ := ho
  rcases h2 with ⟨hv, h0⟩ | ⟨g, cap, cur, hv, hb, hh, hnc, _, hcs, ht⟩
  · exact ⟨none, 0, 0, by rw [hv, h0], by omega, fun c u hc => by subst h0; omega⟩
  · refine ⟨_, cap, g, hv, fun _ => ⟨rfl, (Array.getElem?_eq_some_iff.1 hh).1, hb⟩, fun c u hc hx => ?_⟩
    rw [← ht, List.getElem?_take, if_pos hc] at hx
    simp only [Array.getElem?_toList] at hx
    simp [World.cell?, hh, hx]
theorem ownC_shape (ho : w.ownsRow base e size v n xs) : ∃ vo vc, v = .slice vo n vc := by
  obtain ⟨vo, vc, _, h, _⟩ := ownC_cells ho
  exact ⟨vo, vc, h⟩
/-- rows of two types are two blocks -/
theorem ownC_two {base' : Nat} {e' : TypeId} {size' : Nat} {v' : Value} {n' : Nat} {xs' : List Value} (ho : w.ownsRow base e size v n xs) (ho' : w.ownsRow base' e' size' v' n' xs') (ht : e ≠ e') {b : Nat} (hb : v.ownBlock = some b) : some b ≠ v'.ownBlock := fun hb' => by
  obtain ⟨_, h2⟩ := ho
  obtain ⟨_, h2'⟩ := ho'
  rcases h2 with ⟨rfl, _⟩ | ⟨g, cap, cur, rfl, _, hh, _⟩
  · simp [Value.ownBlock] at hb
  · rcases h2' with ⟨rfl, _⟩ | ⟨g', cap', cur', rfl, _, hh', _⟩
    · simp [Value.ownBlock] at hb'
    · simp only [Value.ownBlock, Option.some.injEq] at hb hb'
      subst hb
      subst hb'
      rw [hh] at hh'
      cases hh'
      exact ht rfl
theorem ownC_grown {w' : World} {base' : Nat} {e' : TypeId} {size' : Nat} {v' : Value} {n' : Nat} {xs' : List Value} (ho : w.ownsRow base e size v n xs) (ho' : w.ownsRow base' e' size' v' n' xs') (ht : e ≠ e') (hg : w.grownBy w' v'.ownBlock) : w'.ownsRow base e size v n xs :=
  own_of_block ho fun b hb => hg.block b (ownC_lt ho hb).1 (ownC_two ho ho' ht hb)
theorem row2C {b : Nat} {t : TypeId} {f : Nat → Value} (h : w.rowIs b t 2 f) : w.heap[b]? = some (.cells #[f 0, f 1] t (0, 0)) := by
  obtain ⟨c, hc, hs, hf⟩ := h
  rw [hc]
  have : c = #[f 0, f 1] := by
    apply Array.ext_getElem?
    intro i
    match i with
    | 0 => rw [hf 0 (by omega)]; rfl
    | 1 => rw [hf 1 (by omega)]; rfl
    | j + 2 => rw [Array.getElem?_eq_none (by omega)]; rfl
  rw [this]
theorem resC2 {P : Program} {fn : Func} {p u : Tmp} {ty : TypeId} (h : fn.results = #[.cell p ty, .tmp u]) (tmps : Array Value) (g : Nat) (f : Nat → Value) (d : TypeDesc)
    (hp : tmps.getD p undef = .pointer (some ⟨g, 0, none⟩)) (hg : w.rowIs g ty 2 f)
    (hu : P.underlying ty = some d) (hd : (match d with | .struct _ | .array _ _ => true | _ => false) = true) (hi : (P.info? ty).map (·.size) = some 2) :
    (results fn tmps).run P w = .ok (.tuple #[.agg #[f 0, f 1], tmps.getD u undef]) w := by
  have hp' : tmps[p]?.getD undef = .pointer (some ⟨g, 0, none⟩) := by simpa using hp
  simp [results, h, hp', asAddr, run_loadVar_row w g ty ty #[f 0, f 1] (0, 0) d (row2C hg) hu hd hi]
theorem resC3 {P : Program} {fn : Func} {p u v : Tmp} {ty : TypeId} (h : fn.results = #[.cell p ty, .tmp u, .tmp v]) (tmps : Array Value) (g : Nat) (f : Nat → Value) (d : TypeDesc)
    (hp : tmps.getD p undef = .pointer (some ⟨g, 0, none⟩)) (hg : w.rowIs g ty 2 f)
    (hu : P.underlying ty = some d) (hd : (match d with | .struct _ | .array _ _ => true | _ => false) = true) (hi : (P.info? ty).map (·.size) = some 2) :
    (results fn tmps).run P w = .ok (.tuple #[.agg #[f 0, f 1], tmps.getD u undef, tmps.getD v undef]) w := by
  have hp' : tmps[p]?.getD undef = .pointer (some ⟨g, 0, none⟩) := by simpa using hp
  simp [results, h, hp', asAddr, run_loadVar_row w g ty ty #[f 0, f 1] (0, 0) d (row2C hg) hu hd hi]
end
theorem sizeEntC : (Try.prog.info? 64).map (·.size) = some 2 := by kernel_rfl
theorem sizeTabC : (Try.prog.info? 26).map (·.size) = some 2 := by kernel_rfl
end Go.Proofs.Ytpclldccjpncdaa
