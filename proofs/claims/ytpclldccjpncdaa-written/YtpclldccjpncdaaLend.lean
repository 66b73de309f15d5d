import Derived.Test.YtpclldccjpncdaaRef
import Derived.Test.YtpclldccjpncdaaRows2
import Derived.Deep.AppendLies
namespace Go.Proofs.Ytpclldccjpncdaa
open Go.RowKit

theorem row_new (w : World) (c : Array Value) (t : TypeId) (N : Nat) (hN : c.size = N) : (w.alloc (.cells c t)).rowIs w.heap.size t N (fun i => c.getD i undef) := by
  subst hN
  exact World.rowIs_alloc w c t _ fun i hi => by simp [hi]
theorem row_grown {w w' : World} {r : Option Nat} (hg : w.grownBy w' r) {b : Nat} {t : TypeId} {n : Nat} {f : Nat → Value} (h : w.rowIs b t n f) (hb : some b ≠ r) : w'.rowIs b t n f := h.of_block (hg.block b h.lt hb)
theorem own_ne {w : World} {base : Nat} {e : TypeId} {size : Nat} {v : Value} {k : Nat} {xs : List Value} (ho : w.ownsRow base e size v k xs) {b : Nat} {t : TypeId} {n : Nat} {f : Nat → Value} (h : w.rowIs b t n f) (ht : t ≠ e) : some b ≠ v.ownBlock := by
  intro hb
  obtain ⟨_, h2⟩ := ho
  rcases h2 with ⟨rfl, _⟩ | ⟨g, cap, cur, rfl, _, hh, _⟩
  · simp [Value.ownBlock] at hb
  · simp only [Value.ownBlock, Option.some.injEq] at hb
    subst hb
    obtain ⟨c, hc, _⟩ := h
    rw [hc] at hh
    cases hh
    exact ht rfl
theorem own_of_block {w w' : World} {base : Nat} {e : TypeId} {size : Nat} {v : Value} {k : Nat} {xs : List Value} (ho : w.ownsRow base e size v k xs) (h : ∀ b, v.ownBlock = some b → w'.heap[b]? = w.heap[b]?) : w'.ownsRow base e size v k xs := by
  obtain ⟨h1, h2⟩ := ho
  refine ⟨h1, ?_⟩
  rcases h2 with h2 | ⟨g, cap, cur, hv, hg, hh, r⟩
  · exact .inl h2
  · exact .inr ⟨g, cap, cur, hv, hg, by rw [h g (by rw [hv]; rfl)]; exact hh, r⟩
theorem own_only {g : Nat} {w w' : World} (hO : OnlyRow g w w') {base : Nat} {e : TypeId} {size : Nat} {v : Value} {k : Nat} {xs : List Value} (ho : w.ownsRow base e size v k xs) (hne : v.ownBlock ≠ some g) : w'.ownsRow base e size v k xs :=
  own_of_block ho fun b hb => hO.block b fun h => hne (by rw [hb, h])

def nodeC (L : Lay) (c : Nat) : Value := if c % 3 = 0 then .int .i64 (L.p (c / 3)) else if c % 3 = 1 then .int .i64 (L.s (c / 3)) else .int .i64 (L.t (c / 3))
theorem nodeC_0 (L : Lay) (i : Nat) : nodeC L (i * 3) = .int .i64 (L.p i) := by
  have h1 : i * 3 % 3 = 0 := by omega
  have h2 : i * 3 / 3 = i := by omega
  simp [nodeC, h2]
theorem nodeC_1 (L : Lay) (i : Nat) : nodeC L (i * 3 + 1) = .int .i64 (L.s i) := by
  have h1 : (i * 3 + 1) % 3 = 1 := by omega
  have h2 : (i * 3 + 1) / 3 = i := by omega
  simp [nodeC, h1, h2]
theorem nodeC_2 (L : Lay) (i : Nat) : nodeC L (i * 3 + 2) = .int .i64 (L.t i) := by
  have h1 : (i * 3 + 2) % 3 = 2 := by omega
  have h2 : (i * 3 + 2) / 3 = i := by omega
  simp [nodeC, h1, h2]
theorem nodeC_one (L : Lay) (c : Nat) : (nodeC L c).oneCell' = true := by
  unfold nodeC
  split
  · rfl
  · split <;> rfl
theorem NodesIn.flat {B : Nat} {w : World} {L : Lay} (h : NodesIn B w L.na L.n L.nb L.no L.p L.s L.t) (c : Nat) (hc : c < L.n * 3) : w.cell? ⟨L.nb, L.no + c, none⟩ = some (nodeC L c) := by
  have hd : c / 3 < L.n := by omega
  have hq : c % 3 = 0 ∨ c % 3 = 1 ∨ c % 3 = 2 := by omega
  rcases hq with hq | hq | hq
  · have := h.p (c / 3) hd
    rw [show L.no + c / 3 * 3 = L.no + c by omega] at this
    rw [this]; simp [nodeC, hq]
  · have := h.s (c / 3) hd
    rw [show L.no + c / 3 * 3 + 1 = L.no + c by omega] at this
    rw [this]; simp [nodeC, hq]
  · have := h.t (c / 3) hd
    rw [show L.no + c / 3 * 3 + 2 = L.no + c by omega] at this
    rw [this]; simp [nodeC, hq]

def markZ (k : Nat) (z : Nat → Int) (j : Nat) : Int := if j < k then z j else -77
def boxF (L : Lay) (j : Nat) : Value := if j = 0 then .slice L.na L.n L.nc else .slice L.ea L.m L.ec
def xF (L : Lay) (gn ge : Nat) (v : Value) (j : Nat) : Value :=
  if j = 2 then .slice (some ⟨gn, 0, none⟩) (L.n + 8) (L.n + 8) else if j = 3 then .slice (some ⟨ge, 0, none⟩) (L.m + 8) (L.m + 8) else if j = 4 then v else .slice none 0 0

theorem row_at {w : World} {b b' : Nat} {t : TypeId} {n : Nat} {f f' : Nat → Value} (h : w.rowIs b t n f) (e : b = b') (hf : ∀ i, i < n → f i = f' i) : w.rowIs b' t n f' := e ▸ h.congr hf
theorem size_one (w : World) (o : Obj) : (w.alloc o).heap.size = w.heap.size + 1 := by simp

/-- the marks behind a list, the first j cells done -/
def markF (k : Nat) (z : Nat → Int) (j q : Nat) : Value := .int .i64 (if q < j then markZ k z q else 0)
theorem mark_start {w : World} {h k : Nat} {z : Nat → Int} (hr : w.rowIs h 3 (k + 8) (fun j => if j < k * 1 then .int .i64 (z j) else .int .i64 0)) : w.rowIs h 3 (k + 8) (markF k z k) :=
  hr.congr fun q _ => by
    by_cases e : q < k
    · rw [if_pos (by omega)]; simp [markF, markZ, e]
    · rw [if_neg (by omega)]; simp [markF, e]
theorem mark_step {w : World} {h k j : Nat} {z : Nat → Int} (hj : k ≤ j) (hr : w.rowIs h 3 (k + 8) (markF k z j)) : (w.setCell ⟨h, j, none⟩ (.int .i64 (-77))).rowIs h 3 (k + 8) (markF k z (j + 1)) :=
  (hr.set j (.int .i64 (-77))).congr fun q _ => by
    by_cases e : q = j
    · subst e
      have h1 : ¬ q < k := by omega
      simp [markF, markZ, h1]
    · rw [if_neg e]
      have h1 : q < j + 1 ↔ q < j := by omega
      simp [markF, h1]
theorem mark_end {w : World} {h k : Nat} {z : Nat → Int} (hr : w.rowIs h 3 (k + 8) (markF k z (k + 8))) : w.rowIs h 3 (k + 8) (fun q => .int .i64 (markZ k z q)) :=
  hr.congr fun q hq => by simp [markF, hq]


def beyondS : ByteArray := { data := #[98, 101, 121, 111, 110, 100] }
end Go.Proofs.Ytpclldccjpncdaa
