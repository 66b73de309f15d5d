import Derived.Test.YtpclldccjpncdaaSame
namespace Go.Proofs.Ytpclldccjpncdaa
open Go.RowKit

theorem row_below {B : Nat} {w w' : World} (hb : Below B w w') {b : Nat} {t : TypeId} {n : Nat} {f : Nat → Value} (h : w.rowIs b t n f) (hB : b < B) : w'.rowIs b t n f := h.of_block (hb.block b hB)
theorem own_lt {w : World} {base : Nat} {e : TypeId} {size : Nat} {v : Value} {k : Nat} {xs : List Value} (ho : w.ownsRow base e size v k xs) {b : Nat} (hb : v.ownBlock = some b) : b < w.heap.size := by
  obtain ⟨_, h2⟩ := ho
  rcases h2 with ⟨rfl, _⟩ | ⟨g, cap, cur, rfl, _, hh, _⟩
  · simp [Value.ownBlock] at hb
  · simp only [Value.ownBlock, Option.some.injEq] at hb
    subst hb
    exact (Array.getElem?_eq_some_iff.1 hh).1
theorem own_below {w w' : World} (hb : Below w.heap.size w w') {base : Nat} {e : TypeId} {size : Nat} {v : Value} {k : Nat} {xs : List Value} (ho : w.ownsRow base e size v k xs) : w'.ownsRow base e size v k xs :=
  own_of_block ho fun b h => hb.block b (own_lt ho h)
theorem own_cell {w : World} {base : Nat} {e : TypeId} {vo : Option Addr} {n vc : Nat} {xs : List Value} (ho : w.ownsRow base e 1 (.slice vo n vc) n xs) {i : Nat} (hi : i < n) {v : Value} (hv : xs[i]? = some v) :
    ∃ gv, vo = some ⟨gv, 0, none⟩ ∧ w.cell? ⟨gv, i, none⟩ = some v := by
  obtain ⟨_, h2⟩ := ho
  rcases h2 with ⟨_, h0⟩ | ⟨g, cap, cur, hs, _, hh, hnc, _, hcs, ht⟩
  · omega
  · cases hs
    refine ⟨g, rfl, ?_⟩
    rw [← ht, List.getElem?_take] at hv
    rw [if_pos (by omega)] at hv
    simp only [Array.getElem?_toList] at hv
    simp [World.cell?, hh, hv]

def wipeF (k : Nat) (z : Nat → Int) (j q : Nat) : Value := .int .i64 (if q < j then -77 else markZ k z q)
theorem wipe_start {w : World} {h k : Nat} {z : Nat → Int} (hr : w.rowIs h 3 (k + 8) (fun q => .int .i64 (markZ k z q))) : w.rowIs h 3 (k + 8) (wipeF k z 0) := hr.congr fun q _ => by simp [wipeF]
theorem wipe_step {w : World} {h k j : Nat} {z : Nat → Int} (hr : w.rowIs h 3 (k + 8) (wipeF k z j)) : (w.setCell ⟨h, j, none⟩ (.int .i64 (-77))).rowIs h 3 (k + 8) (wipeF k z (j + 1)) :=
  (hr.set j (.int .i64 (-77))).congr fun q _ => by
    by_cases e : q = j
    · subst e; simp [wipeF]
    · rw [if_neg e]
      have h1 : q < j + 1 ↔ q < j := by omega
      simp [wipeF, h1]
theorem wipe_at (k : Nat) (z : Nat → Int) (j : Nat) (h : j < k) : wipeF k z j j = .int .i64 (z j) := by simp [wipeF, markZ, h]
theorem wipe_at' (k : Nat) (z : Nat → Int) (j : Nat) (h : ¬ j < k) : wipeF k z j j = .int .i64 (-77) := by simp [wipeF, markZ, h]

/-- the table that was lent, as a table -/
def Lay.lent (L : Lay) (gn ge : Nat) (gl : Nat → Nat) : Lay := { L with na := some ⟨gn, 0, none⟩, nc := L.n + 8, nb := gn, no := 0, ea := some ⟨ge, 0, none⟩, ec := L.m + 8, eb := ge, eo := 0, la := fun i => some ⟨gl i, 0, none⟩, lc := fun i => L.k i + 8, lb := gl, lo := fun _ => 0 }
end Go.Proofs.Ytpclldccjpncdaa
