import Derived.Test.YtpclldccjpncdaaKeyX
import Derived.Test.YtpclldccjpncdaaMadeR
namespace Go.Proofs.Ytpclldccjpncdaa
open Go.RowKit

/-! ### a table whose texts are all of one byte -/
theorem lenAt_one {m : Nat} {tx : Nat → ByteArray} (h1 : ∀ i, i < m → (tx i).size = 1) {s : ByteArray} {p : Nat} (hp : p < s.size) (ht : isText m tx (sub s p 1)) : lenAt m tx s p = 1 := by
  refine lenAt_eq (by omega) (by omega) (by omega) (fun _ => ht) fun k hk hk3 hks ⟨i, hi, he⟩ => ?_
  have := h1 i hi
  rw [he, size_sub s p k hks] at this
  omega
theorem pos_one {m : Nat} {tx : Nat → ByteArray} (h1 : ∀ i, i < m → (tx i).size = 1) {s : ByteArray} (ht : ∀ p, p < s.size → isText m tx (sub s p 1)) : ∀ q, q ≤ s.size → pos m tx s q = q
  | 0, _ => rfl
  | q + 1, h => by
    rw [pos, pos_one h1 ht q (by omega), lenAt_one h1 (by omega) (ht q (by omega))]
theorem cut_one {m : Nat} {tx : Nat → ByteArray} (h1 : ∀ i, i < m → (tx i).size = 1) {s : ByteArray} (ht : ∀ p, p < s.size → isText m tx (sub s p 1)) : Cut m tx s s.size := by
  refine ⟨fun j hj => ?_, ?_⟩
  · rw [pos_one h1 ht j (by omega), lenAt_one h1 hj (ht j hj)]; omega
  · rw [pos_one h1 ht s.size (Nat.le_refl _)]; exact lenAt_end m tx s

/-- the table of the document's examples -/
structure Samp (L : Lay) : Prop where
  n : L.n = 5
  m : L.m = 5
  p : L.p = fun i => [0, 8, 8, 16, 24].getD i 0
  s : L.s = fun i => [16, 8, 8, 8, 8].getD i 0
  t : L.t = fun i => [8, 8, 16, 8, 8].getD i 0
  tx : L.tx = fun i => ([⟨#[39]⟩, ⟨#[65]⟩, ⟨#[97]⟩, ⟨#[98]⟩, ⟨#[99]⟩] : List ByteArray).getD i ByteArray.empty
  k : L.k = fun _ => 1
  z : L.z = fun i _ => [0, 2, 1, 3, 4].getD i 0
theorem lt5 {i : Nat} (h : i < 5) : i = 0 ∨ i = 1 ∨ i = 2 ∨ i = 3 ∨ i = 4 := by omega
theorem Samp.err {L : Lay} (h : Samp L) : L.err = 0 := by
  refine (err_ok (by rw [h.n]; omega) (by rw [h.m]; omega) (nodesB_true fun j hj => ?_).symm (entriesB_yes fun i hi => ?_).symm).symm
  · rw [h.n] at hj
    rw [h.p, h.s, h.t]
    rcases lt5 hj with rfl | rfl | rfl | rfl | rfl <;> first | exact ⟨by decide, fun _ => by decide⟩ | exact ⟨by decide, fun h0 => by omega⟩
  · rw [h.m] at hi
    refine ⟨(entryB_yes ?_).symm, fun h0 => ?_⟩
    · rw [h.tx, h.k, h.z, h.n]
      refine ⟨?_, ⟨Nat.le_refl _, (by omega : 1 ≤ 4)⟩, fun q hq => ?_⟩
      · rcases lt5 hi with rfl | rfl | rfl | rfl | rfl <;> decide
      · rcases lt5 hi with rfl | rfl | rfl | rfl | rfl <;> simp
    · rw [h.tx]
      rcases lt5 hi with rfl | rfl | rfl | rfl | rfl <;> first | omega | decide +kernel
theorem Samp.one {L : Lay} (h : Samp L) : ∀ i, i < L.m → (L.tx i).size = 1 := fun i hi => by
  rw [h.m] at hi
  rw [h.tx]
  rcases lt5 hi with rfl | rfl | rfl | rfl | rfl <;> rfl
theorem Samp.idx {L : Lay} (h : Samp L) (i : Nat) (hi : i < 5) : idx L.m L.tx (L.tx i) = i := by
  refine idx_eq (by rw [h.m]; exact hi) rfl fun j hj => ?_
  rw [h.tx]
  rcases lt5 hi with rfl | rfl | rfl | rfl | rfl
  · omega
  · have : j = 0 := by omega
    subst this; decide
  · have : j = 0 ∨ j = 1 := by omega
    rcases this with rfl | rfl <;> decide
  · have : j = 0 ∨ j = 1 ∨ j = 2 := by omega
    rcases this with rfl | rfl | rfl <;> decide
  · have : j = 0 ∨ j = 1 ∨ j = 2 ∨ j = 3 := by omega
    rcases this with rfl | rfl | rfl | rfl <;> decide
/-- a text of it: the entries' numbers -/
theorem Samp.text {L : Lay} (h : Samp L) (s : ByteArray) (l : List Nat) (hl : l.length = s.size) (hs : ∀ p, p < s.size → l.getD p 0 < 5 ∧ sub s p 1 = L.tx (l.getD p 0)) :
    hasP L s ∧ nodesN L s = l.map fun i => [0, 2, 1, 3, 4].getD i 0 := by
  have ht : ∀ p, p < s.size → isText L.m L.tx (sub s p 1) := fun p hp => ⟨l.getD p 0, by rw [h.m]; exact (hs p hp).1, (hs p hp).2.symm⟩
  have hc := cut_one h.one ht
  have hn := cutN_eq hc
  refine ⟨by unfold hasP; rw [hn]; exact pos_one h.one ht _ (Nat.le_refl _), ?_⟩
  unfold nodesN nums
  rw [hn, List.flatMap_def]
  have hj : ∀ j, j < s.size → entNums L.z L.k (pidx L.m L.tx s j) = [[0, 2, 1, 3, 4].getD (l.getD j 0) 0] := fun j hj => by
    have : pidx L.m L.tx s j = l.getD j 0 := by
      unfold pidx piece
      rw [pos_one h.one ht j (by omega), lenAt_one h.one hj (ht j hj), (hs j hj).2]
      exact h.idx _ (hs j hj).1
    rw [this]
    unfold entNums
    rw [h.k, h.z]
    rcases lt5 (hs j hj).1 with e | e | e | e | e <;> rw [e] <;> rfl
  rw [List.map_congr_left (g := fun j => [[0, 2, 1, 3, 4].getD (l.getD j 0) 0]) fun j hj' => hj j (List.mem_range.1 hj'), ← List.flatMap_def, ← hl]
  clear hj hc hn ht hs hl
  induction l with
  | nil => rfl
  | cons a r ih =>
    rw [List.length_cons, List.range_succ_eq_map, List.flatMap_cons, List.map_cons, ← ih]
    simp [List.flatMap_map]
def sampW (lv c : Nat) : Int := if lv = 1 then [0, 8, 8, 16, 24].getD c 0 else if lv = 2 then [16, 8, 8, 8, 8].getD c 0 else [8, 8, 16, 8, 8].getD c 0
theorem Samp.wt {L : Lay} (h : Samp L) : wt L = sampW := by
  funext lv c
  unfold Proofs.Ytpclldccjpncdaa.wt sampW
  rw [h.p, h.s, h.t]
theorem Samp.orders {L : Lay} (h : Samp L) : cmpE L ⟨#[97, 39]⟩ ⟨#[65]⟩ 3 = 0 ∧ cmpV L ⟨#[97, 39]⟩ ⟨#[65]⟩ 3 = 1 ∧ keyE L ⟨#[97, 39, 98]⟩ 3 = 0 ∧ keyV L ⟨#[97, 39, 98]⟩ 3 = ⟨#[8, 16, 0, 8, 16, 8, 0, 8, 8, 8]⟩ := by
  obtain ⟨a1, a2⟩ := h.text ⟨#[97, 39]⟩ [2, 0] rfl (fun p hp => by
    have hp' : p < 2 := hp
    rw [h.tx]
    have : p = 0 ∨ p = 1 := by omega
    rcases this with rfl | rfl <;> exact ⟨by decide, by decide⟩)
  obtain ⟨b1, b2⟩ := h.text ⟨#[65]⟩ [1] rfl (fun p hp => by
    have hp' : p < 1 := hp
    rw [h.tx]
    have : p = 0 := by omega
    subst this
    exact ⟨by decide, by decide⟩)
  obtain ⟨c1, c2⟩ := h.text ⟨#[97, 39, 98]⟩ [2, 0, 3] rfl (fun p hp => by
    have hp' : p < 3 := hp
    rw [h.tx]
    have : p = 0 ∨ p = 1 ∨ p = 2 := by omega
    rcases this with rfl | rfl | rfl <;> exact ⟨by decide, by decide⟩)
  have hE : cmpE L ⟨#[97, 39]⟩ ⟨#[65]⟩ 3 = 0 := by
    unfold cmpE
    rw [if_neg (by rw [h.err]; simp), if_neg (by decide), if_neg (by decide), if_neg (by simp [a1, b1])]
  have hK : keyE L ⟨#[97, 39, 98]⟩ 3 = 0 := keyE_ok h.err (by decide) (by decide) (by decide) c1
  refine ⟨hE, ?_, hK, ?_⟩
  · unfold cmpV
    rw [if_neg (by rw [hE]; simp)]
    simp only [show (3 : Int).toNat = 3 from rfl, cmpFrom, wl, a2, b2, wts, h.wt]
    decide
  · rw [keyV_ok hK]
    simp only [show (3 : Int).toNat = 3 from rfl, keyL, wl, c2, wts, h.wt]
    decide

end Go.Proofs.Ytpclldccjpncdaa
