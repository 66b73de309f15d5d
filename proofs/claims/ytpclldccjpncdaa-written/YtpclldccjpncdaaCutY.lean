import Derived.Test.YtpclldccjpncdaaCutX
import Derived.Test.YtpclldccjpncdaaValid
namespace Go.Proofs.Ytpclldccjpncdaa
open Go.RowKit

theorem foundC_len (m : Nat) (tx : Nat → ByteArray) (la : Nat → Option Addr) (k lc : Nat → Nat) (s : ByteArray) : ∀ q, (foundC m tx la k lc s q).length = q * 2
  | 0 => by simp [foundC]
  | q + 1 => by rw [foundC_succ, List.length_append, foundC_len m tx la k lc s q]; simp; omega
theorem foundC_at (m : Nat) (tx : Nat → ByteArray) (la : Nat → Option Addr) (k lc : Nat → Nat) (s : ByteArray) (j : Nat) : ∀ q, j < q →
    (foundC m tx la k lc s q)[j * 2]? = some (.string (tx (pidx m tx s j))) ∧ (foundC m tx la k lc s q)[j * 2 + 1]? = some (.slice (la (pidx m tx s j)) (k (pidx m tx s j)) (lc (pidx m tx s j)))
  | 0, h => by omega
  | q + 1, h => by
    have hl := foundC_len m tx la k lc s q
    rw [foundC_succ]
    by_cases e : j = q
    · subst e
      rw [List.getElem?_append_right (by omega), List.getElem?_append_right (by omega), hl]
      simp
    · rw [List.getElem?_append_left (by omega), List.getElem?_append_left (by omega)]
      exact foundC_at m tx la k lc s j q (by omega)
theorem own_cells {w : World} {base : Nat} {e : TypeId} {size : Nat} {v : Value} {n : Nat} {xs : List Value} (ho : w.ownsRow base e size v n xs) :
    ∃ vo vc gv, v = .slice vo n vc ∧ (0 < n → vo = some ⟨gv, 0, none⟩ ∧ gv < w.heap.size ∧ base ≤ gv) ∧ ∀ c u, c < n * size → xs[c]? = some u → w.cell? ⟨gv, c, none⟩ = some u := by
  obtain ⟨_, h2⟩ := ho
  rcases h2 with ⟨hv, h0⟩ | ⟨g, cap, cur, hv, hb, hh, hnc, _, hcs, ht⟩
  · exact ⟨none, 0, 0, by rw [hv, h0], by omega, fun c u hc => by subst h0; omega⟩
  · refine ⟨_, cap, g, hv, fun _ => ⟨rfl, (Array.getElem?_eq_some_iff.1 hh).1, hb⟩, fun c u hc hx => ?_⟩
    rw [← ht, List.getElem?_take, if_pos hc] at hx
    simp only [Array.getElem?_toList] at hx
    simp [World.cell?, hh, hx]

theorem cut_in (m cap b off : Nat) (ao : Option Addr) (tx : Nat → ByteArray) (la : Nat → Option Addr) (k lc lb lo : Nat → Nat) (z : Nat → Nat → Int) (s : ByteArray) (w : World) (hm : m ≤ 48) (hs : s.size ≤ 1000)
    (ht : ∀ i, i < m → 1 ≤ (tx i).size ∧ (tx i).size ≤ 3) (h : EntriesIn w.heap.size w ao m b off tx la k lc lb lo z) :
    Calls Try.prog 41 #[.slice ao m cap, .string s] w fun e w' => ∃ q, Cut m tx s q ∧ Below w.heap.size w w' ∧
      ((pos m tx s q = s.size ∧ ∃ vo vc gv, e = .returned (.tuple #[.slice vo q vc, .bool true]) ∧ EntriesIn w'.heap.size w' vo q gv 0 (fun j => tx (pidx m tx s j)) (fun j => la (pidx m tx s j)) (fun j => k (pidx m tx s j)) (fun j => lc (pidx m tx s j)) (fun j => lb (pidx m tx s j)) (fun j => lo (pidx m tx s j)) (fun j => z (pidx m tx s j))) ∨
       (pos m tx s q ≠ s.size ∧ e = .returned (.tuple #[.slice none 0 0, .bool false]))) := by
  refine (cut_any m cap b off ao tx la k lc lb lo z s w hm hs ht h).mono ?_
  rintro e w' ⟨q, hq, hb, hor⟩
  refine ⟨q, hq, hb, ?_⟩
  rcases hor with ⟨h1, v, rfl, ho⟩ | h2
  · obtain ⟨vo, vc, gv, rfl, ha, hc⟩ := own_cells ho
    refine .inl ⟨h1, vo, vc, gv, rfl, ⟨fun h0 => (ha h0).1, fun h0 => (ha h0).2.1, fun i hi => ?_, fun i hi => ?_, fun i hi => ?_, ?_⟩⟩
    · have := hc (i * 2) _ (by omega) (foundC_at m tx la k lc s i q hi).1
      simpa using this
    · have := hc (i * 2 + 1) _ (by omega) (foundC_at m tx la k lc s i q hi).2
      simpa using this
    · have := pidx_spec hq.go hi
      exact ((h.ints _ this.1).below hb).mono hb.size
    · have h3 := pos_ge q hq.go
      have h4 := pos_le m tx s q
      omega
  · exact .inr h2

/-! ### what a valid table has -/
structure Lay.Ok (L : Lay) : Prop where
  n : L.n ≤ 48
  m : L.m ≤ 48
  tx : ∀ i, i < L.m → 1 ≤ (L.tx i).size ∧ (L.tx i).size ≤ 3
  k : ∀ i, i < L.m → 1 ≤ L.k i ∧ L.k i ≤ 4
  z : ∀ i, i < L.m → ∀ j, j < L.k i → 0 ≤ L.z i j ∧ L.z i j < L.n
  node : ∀ i, i < L.n → nodeB (L.p i) (L.s i) (L.t i) = true
theorem err_zero {L : Lay} (h : L.err = 0) : L.Ok := by
  unfold Lay.err at h
  by_cases h1 : 48 < L.n ∨ 48 < L.m
  · rw [if_pos h1] at h; omega
  · rw [if_neg h1] at h
    by_cases h2 : nodesB L.n L.p L.s L.t = false
    · rw [if_pos h2] at h; omega
    · rw [if_neg h2] at h
      by_cases h3 : entriesB L.m L.tx L.k L.z L.n = false
      · rw [if_pos h3] at h; omega
      · have h4 : nodesOk L.n L.p L.s L.t := by simpa [nodesB] using h2
        have h5 : entriesOk L.m L.tx L.k L.z L.n := by simpa [entriesB] using h3
        have h6 : ∀ i, i < L.m → entryOk (L.tx i).size (L.k i) (L.z i) L.n := fun i hi => by simpa [entryB] using (h5 i hi).1
        exact ⟨by omega, by omega, fun i hi => (h6 i hi).1, fun i hi => (h6 i hi).2.1, fun i hi j hj => (h6 i hi).2.2 j hj, fun i hi => (h4 i hi).1⟩

/-- texts in memory -/
structure StrsIn (B : Nat) (w : World) (ao : Option Addr) (k b off : Nat) (u : Nat → ByteArray) : Prop where
  addr : 0 < k → ao = some ⟨b, off, none⟩
  lt : 0 < k → b < B
  cell : ∀ i, i < k → w.cell? ⟨b, off + i, none⟩ = some (.string (u i))
  le : k ≤ 1000
theorem StrsIn.below {B : Nat} {w w' : World} {ao : Option Addr} {k b off : Nat} {u : Nat → ByteArray} (h : StrsIn B w ao k b off u) (hb : Below B w w') : StrsIn B w' ao k b off u :=
  ⟨h.addr, h.lt, fun i hi => (hb.cell (by exact h.lt (by omega))).trans (h.cell i hi), h.le⟩
theorem StrsIn.mono {B B' : Nat} {w : World} {ao : Option Addr} {k b off : Nat} {u : Nat → ByteArray} (h : StrsIn B w ao k b off u) (hB : B ≤ B') : StrsIn B' w ao k b off u :=
  ⟨h.addr, fun h0 => Nat.lt_of_lt_of_le (h.lt h0) hB, h.cell, h.le⟩

/-- the answer of Pieces: the value, the error -/
def PiecesAns (L : Lay) (s : ByteArray) (v : Value) (er : Int) (w' : World) : Prop :=
  (L.err ≠ 0 ∧ v = .slice none 0 0 ∧ er = L.err) ∨ (L.err = 0 ∧ 24 < s.size ∧ v = .slice none 0 0 ∧ er = 4) ∨
  (L.err = 0 ∧ s.size ≤ 24 ∧ ∃ q, Cut L.m L.tx s q ∧ ((pos L.m L.tx s q ≠ s.size ∧ v = .slice none 0 0 ∧ er = 6) ∨ (pos L.m L.tx s q = s.size ∧ er = 0 ∧ ∃ ao cap b off, v = .slice ao q cap ∧ StrsIn w'.heap.size w' ao q b off (piece L.m L.tx s))))

end Go.Proofs.Ytpclldccjpncdaa
