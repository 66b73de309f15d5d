import Derived.Test.YtpclldccjpncdabB03
import Derived.Deep.RegionLaw
import Derived.Deep.QuietTactic
import Derived.BigQuiet
namespace Go.Proofs.Ytpclldccjpncdab
open Go.RowKit

theorem info57 : (Try.prog.info? 41).map (fun i => (i.zero, i.size, i.bytes)) = some (some (.agg #[.string ByteArray.empty, .slice none 0 0]), 2, 40) := by kernel_rfl
theorem lenAt_end (m : Nat) (tx : Nat → ByteArray) (s : ByteArray) : lenAt m tx s s.size = 0 := by
  have := (lenAt_le m tx s s.size (Nat.le_refl _)).1
  omega
/-- the cells of the entries that were found -/
noncomputable def foundC (m : Nat) (tx : Nat → ByteArray) (la : Nat → Option Addr) (k lc : Nat → Nat) (s : ByteArray) (q : Nat) : List Value :=
  (List.range q).flatMap fun j => [.string (tx (pidx m tx s j)), .slice (la (pidx m tx s j)) (k (pidx m tx s j)) (lc (pidx m tx s j))]
theorem foundC_succ (m : Nat) (tx : Nat → ByteArray) (la : Nat → Option Addr) (k lc : Nat → Nat) (s : ByteArray) (q : Nat) :
    foundC m tx la k lc s (q + 1) = foundC m tx la k lc s q ++ [.string (tx (pidx m tx s q)), .slice (la (pidx m tx s q)) (k (pidx m tx s q)) (lc (pidx m tx s q))] := by
  simp [foundC, List.range_succ]
theorem new_two (w : World) (a b : Value) (t : TypeId) : ∀ (j : Nat) (u : Value), [a, b][j]? = some u → (w.alloc (.cells #[a, b] t)).cell? ((⟨w.heap.size, 0, none⟩ : Addr).add j) = some u := by
  intro j u hj
  have hr : (w.alloc (.cells #[a, b] t)).rowIs w.heap.size t 2 (fun i => #[a, b].getD i undef) := row_new w _ t 2 rfl
  match j, hj with
  | 0, hj => simp at hj; subst hj; exact hr.cell (i := 0) (by omega)
  | 1, hj => simp at hj; subst hj; exact hr.cell (i := 1) (by omega)

set_option maxRecDepth 100000 in
set_option maxHeartbeats 1000000 in
theorem cut_any (m cap b off : Nat) (ao : Option Addr) (tx : Nat → ByteArray) (la : Nat → Option Addr) (k lc lb lo : Nat → Nat) (z : Nat → Nat → Int) (s : ByteArray) (w : World) (hm : m ≤ 48) (hs : s.size ≤ 1000)
    (ht : ∀ i, i < m → 1 ≤ (tx i).size ∧ (tx i).size ≤ 3) (h : EntriesIn w.heap.size w ao m b off tx la k lc lb lo z) :
    Calls Try.prog 46 #[.slice ao m cap, .string s] w fun e w' => ∃ q, Cut m tx s q ∧ Below w.heap.size w w' ∧
      ((pos m tx s q = s.size ∧ ∃ v, e = .returned (.tuple #[v, .bool true]) ∧ w'.ownsRow w.heap.size 41 2 v q (foundC m tx la k lc s q)) ∨ (pos m tx s q ≠ s.size ∧ e = .returned (.tuple #[.slice none 0 0, .bool false]))) := by
  have HE : Hid (EntriesIn w.heap.size w ao m b off tx la k lc lb lo z) := h
  have HT : Hid (∀ i, i < m → 1 ≤ (tx i).size ∧ (tx i).size ≤ 3) := ht
  clear h ht
  obtain ⟨i0, hi0, hq0, hq1, hq2⟩ := info_parts info57
  go_enter Try.func46, Try.ntmps46
  go_wp2
  go_loopw [6, 7] (fun v av wr => ∃ q : Nat, av = .int .i64 (pos m tx s q : Nat) ∧ (∀ j, j < q → 0 < lenAt m tx s (pos m tx s j)) ∧ Below w.heap.size w wr ∧ wr.ownsRow w.heap.size 41 2 v q (foundC m tx la k lc s q)) (fun _ av _ => s.size - (intOf av).toNat)
  case atStart => exact ⟨0, rfl, fun j hj => by omega, Below.refl _ _, World.ownsRow_nil _ _ _ _⟩
  case round =>
    obtain ⟨q, rfl, hgo, hbel, hown⟩ := hrel
    have hpl := pos_le m tx s q
    have hqp := pos_ge q hgo
    have HGO : Hid (∀ j, j < q → 0 < lenAt m tx s (pos m tx s j)) := hgo
    have HOWN : Hid (wr.ownsRow w.heap.size 41 2 _ q (foundC m tx la k lc s q)) := hown
    clear hgo hown
    obtain ⟨pp, hpp⟩ : ∃ pp, pp = pos m tx s q := ⟨_, rfl⟩
    have HPP : Hid (pp = pos m tx s q) := hpp
    rw [← hpp] at hpl hqp ⊢
    clear hpp
    have hsz := hbel.size
    by_cases hlt : pp < s.size
    · by_cases hl : lenAt m tx s pp = 0
      · have HB : Hid (bestI m tx s pp = -1) := by show _ = _; simp [bestI, hl]
        have HL : Hid (lenAt m tx s pp = 0) := hl
        clear hl
        go_wp2_with (go_at_call 70; refine (longestAt_any _ _ _ _ _ _ _ _ _ _ _ _ _ _ _ hm hs hpl HT.out ((HE.out.below hbel).mono hsz)).mono ?_; rintro e w1 ⟨rfl, rfl⟩; rw [HB.out])
        go_ret2
        refine ⟨q, ⟨HGO.out, by rw [← HPP.out]; exact HL.out⟩, hbel, .inr ⟨by rw [← HPP.out]; omega, rfl⟩⟩
      · obtain ⟨c, hc⟩ : ∃ c, c = pidx m tx s q := ⟨_, rfl⟩
        have hl0 : 0 < lenAt m tx s pp := by omega
        have HB : Hid (bestI m tx s pp = (c : Int)) := by
          show _ = _
          rw [hc]
          simp [bestI, hl, pidx, piece, ← HPP.out]
        have hx := idx_spec (lenAt_text hl0)
        have hcm : c < m := by rw [hc, pidx, piece, ← HPP.out]; exact hx.1
        have HCT : Hid (tx c = sub s pp (lenAt m tx s pp)) := by show _ = _; rw [hc, pidx, piece, ← HPP.out]; exact hx.2.1
        have hsl : (tx c).size = lenAt m tx s pp := by rw [HCT.out]; exact size_sub _ _ _ (lenAt_le m tx s pp hpl).1
        have HSL : Hid ((tx c).size = lenAt m tx s pp) := hsl
        have HC : Hid (c = pidx m tx s q) := hc
        obtain ⟨t1, t2⟩ := HT.out c hcm
        have HL0 : Hid (0 < lenAt m tx s pp) := hl0
        clear hc hx hsl hl hl0
        have ha := HE.out.addr (by omega)
        subst ha
        have hbb := HE.out.lt (by omega)
        have c0 := cellTo hbel (HE.out.text c hcm) hbb
        have c1 := cellTo hbel (HE.out.list c hcm) hbb
        go_wp2_with (first
          | (go_at_call 70; refine (longestAt_any _ _ _ _ _ _ _ _ _ _ _ _ _ _ _ hm hs hpl HT.out ((HE.out.below hbel).mono hsz)).mono ?_; rintro e w1 ⟨rfl, rfl⟩; rw [HB.out])
          | (at_builtin; refine wpList_append_lies _ (by rfl) (.tmp 19) (.tmp 24) 25 (by rfl) w.heap.size 41 i0 (.agg #[.string ByteArray.empty, .slice none 0 0]) 2 40 Try.underlying25 hi0 hq0 hq1 hq2 rfl (by omega) _ q _ (by rfl) (HOWN.out.alloc _) ⟨wr.heap.size, 0, none⟩ 1 1 [.string (tx c), .slice (la c) (k c) (lc c)] (by rfl) (by rfl) ?c1 ?c2 (by omega) ?c3 ?c5 ?c4 (wr.heap.size + 1) (by simp) ?_))
        case c1 => exact new_two _ _ _ _
        case c2 => intro u hu; simp at hu; rcases hu with rfl | rfl <;> rfl
        case c3 => unfold maxLen; omega
        case c5 => omega
        case c4 => simp; omega
        · intro gv cap2 w2 hown2 hgrow _ hgv
          have HBN : Hid (Below w.heap.size w w2) := (hbel.alloc hsz _).grown hgrow (by simp; omega) (fun r hr => by
            obtain ⟨_, ho⟩ := HOWN.out
            rcases ho with ⟨hv, _⟩ | ⟨b', _, _, hv, hb', _⟩
            · rw [hv] at hr; simp [Value.ownBlock] at hr
            · rw [hv] at hr; simp [Value.ownBlock] at hr; omega)
          have d0 := cellTo HBN.out (HE.out.text c hcm) hbb
          have HO2 : Hid (w2.ownsRow w.heap.size 41 2 (.slice (some ⟨gv, 0, none⟩) (q + 1) cap2) (q + 1) (foundC m tx la k lc s (q + 1))) := by
            show _
            rw [foundC_succ, ← HC.out]
            exact hown2
          clear hown2 hgrow c0 c1
          go_wp2
          go_roundw
          case rel =>
            refine ⟨q + 1, ?_, fun j hj => ?_, HBN.out, HO2.out⟩
            · show _ = Value.int .i64 ((pos m tx s q + lenAt m tx s (pos m tx s q) : Nat) : Int)
              rw [← HPP.out, ← HSL.out]
              go_num
            · by_cases e : j = q
              · rw [e, ← HPP.out]; exact HL0.out
              · exact HGO.out j (by omega)
          case measure => simp [intOf]; omega
    · have hpe : pp = s.size := by omega
      have HPE : Hid (pos m tx s q = s.size) := by show _ = _; rw [← HPP.out]; exact hpe
      go_wp2
      go_ret2
      exact ⟨q, ⟨HGO.out, by rw [HPE.out]; exact lenAt_end m tx s⟩, hbel, .inl ⟨HPE.out, _, rfl, HOWN.out⟩⟩

end Go.Proofs.Ytpclldccjpncdab

namespace Go.Proofs.Ytpclldccjpncdab
open Go.RowKit

theorem foundC_len (m : Nat) (tx : Nat → ByteArray) (la : Nat → Option Addr) (k lc : Nat → Nat) (s : ByteArray) : ∀ q, (foundC m tx la k lc s q).length = q * 2
  | 0 => by simp [foundC]
  | q + 1 => by rw [foundC_succ, List.length_append, foundC_len m tx la k lc s q]; simp; omega
theorem foundC_at (m : Nat) (tx : Nat → ByteArray) (la : Nat → Option Addr) (k lc : Nat → Nat) (s : ByteArray) (j : Nat) : ∀ q, j < q →
    (foundC m tx la k lc s q)[j * 2]? = some (.string (tx (pidx m tx s j))) ∧ (foundC m tx la k lc s q)[j * 2 + 1]? = some (.slice (la (pidx m tx s j)) (k (pidx m tx s j)) (lc (pidx m tx s j)))
  | 0, h => by omega
  | q + 1, h => by
    have hl := foundC_len m tx la k lc s q
    rw [foundC_succ]
    by_cases e : j = q
    · subst e
      rw [List.getElem?_append_right (by omega), List.getElem?_append_right (by omega), hl]
      simp
    · rw [List.getElem?_append_left (by omega), List.getElem?_append_left (by omega)]
      exact foundC_at m tx la k lc s j q (by omega)
theorem own_cells {w : World} {base : Nat} {e : TypeId} {size : Nat} {v : Value} {n : Nat} {xs : List Value} (ho : w.ownsRow base e size v n xs) :
    ∃ vo vc gv, v = .slice vo n vc ∧ (0 < n → vo = some ⟨gv, 0, none⟩ ∧ gv < w.heap.size ∧ base ≤ gv) ∧ ∀ c u, c < n * size → xs[c]? = some u → w.cell? ⟨gv, c, none⟩ = some u := by
  obtain ⟨_, h2⟩ := ho
  rcases h2 with ⟨hv, h0⟩ | ⟨g, cap, cur, hv, hb, hh, hnc, _, hcs, ht⟩
  · exact ⟨none, 0, 0, by rw [hv, h0], by omega, fun c u hc => by subst h0; omega⟩
  · refine ⟨_, cap, g, hv, fun _ => ⟨rfl, (Array.getElem?_eq_some_iff.1 hh).1, hb⟩, fun c u hc hx => ?_⟩
    rw [← ht, List.getElem?_take, if_pos hc] at hx
    simp only [Array.getElem?_toList] at hx
    simp [World.cell?, hh, hx]

theorem cut_in (m cap b off : Nat) (ao : Option Addr) (tx : Nat → ByteArray) (la : Nat → Option Addr) (k lc lb lo : Nat → Nat) (z : Nat → Nat → Int) (s : ByteArray) (w : World) (hm : m ≤ 48) (hs : s.size ≤ 1000)
    (ht : ∀ i, i < m → 1 ≤ (tx i).size ∧ (tx i).size ≤ 3) (h : EntriesIn w.heap.size w ao m b off tx la k lc lb lo z) :
    Calls Try.prog 46 #[.slice ao m cap, .string s] w fun e w' => ∃ q, Cut m tx s q ∧ Below w.heap.size w w' ∧
      ((pos m tx s q = s.size ∧ ∃ vo vc gv, e = .returned (.tuple #[.slice vo q vc, .bool true]) ∧ EntriesIn w'.heap.size w' vo q gv 0 (fun j => tx (pidx m tx s j)) (fun j => la (pidx m tx s j)) (fun j => k (pidx m tx s j)) (fun j => lc (pidx m tx s j)) (fun j => lb (pidx m tx s j)) (fun j => lo (pidx m tx s j)) (fun j => z (pidx m tx s j))) ∨
       (pos m tx s q ≠ s.size ∧ e = .returned (.tuple #[.slice none 0 0, .bool false]))) := by
  refine (cut_any m cap b off ao tx la k lc lb lo z s w hm hs ht h).mono ?_
  rintro e w' ⟨q, hq, hb, hor⟩
  refine ⟨q, hq, hb, ?_⟩
  rcases hor with ⟨h1, v, rfl, ho⟩ | h2
  · obtain ⟨vo, vc, gv, rfl, ha, hc⟩ := own_cells ho
    refine .inl ⟨h1, vo, vc, gv, rfl, ⟨fun h0 => (ha h0).1, fun h0 => (ha h0).2.1, fun i hi => ?_, fun i hi => ?_, fun i hi => ?_, ?_⟩⟩
    · have := hc (i * 2) _ (by omega) (foundC_at m tx la k lc s i q hi).1
      simpa using this
    · have := hc (i * 2 + 1) _ (by omega) (foundC_at m tx la k lc s i q hi).2
      simpa using this
    · have := pidx_spec hq.go hi
      exact ((h.ints _ this.1).below hb).mono hb.size
    · have h3 := pos_ge q hq.go
      have h4 := pos_le m tx s q
      omega
  · exact .inr h2

/-! ### what a valid table has -/
structure Lay.Ok (L : Lay) : Prop where
  n : L.n ≤ 48
  m : L.m ≤ 48
  tx : ∀ i, i < L.m → 1 ≤ (L.tx i).size ∧ (L.tx i).size ≤ 3
  k : ∀ i, i < L.m → 1 ≤ L.k i ∧ L.k i ≤ 4
  z : ∀ i, i < L.m → ∀ j, j < L.k i → 0 ≤ L.z i j ∧ L.z i j < L.n
  node : ∀ i, i < L.n → nodeB (L.p i) (L.s i) (L.t i) = true
theorem err_zero {L : Lay} (h : L.err = 0) : L.Ok := by
  unfold Lay.err at h
  by_cases h1 : 48 < L.n ∨ 48 < L.m
  · rw [if_pos h1] at h; omega
  · rw [if_neg h1] at h
    by_cases h2 : nodesB L.n L.p L.s L.t = false
    · rw [if_pos h2] at h; omega
    · rw [if_neg h2] at h
      by_cases h3 : entriesB L.m L.tx L.k L.z L.n = false
      · rw [if_pos h3] at h; omega
      · have h4 : nodesOk L.n L.p L.s L.t := by simpa [nodesB] using h2
        have h5 : entriesOk L.m L.tx L.k L.z L.n := by simpa [entriesB] using h3
        have h6 : ∀ i, i < L.m → entryOk (L.tx i).size (L.k i) (L.z i) L.n := fun i hi => by simpa [entryB] using (h5 i hi).1
        exact ⟨by omega, by omega, fun i hi => (h6 i hi).1, fun i hi => (h6 i hi).2.1, fun i hi j hj => (h6 i hi).2.2 j hj, fun i hi => (h4 i hi).1⟩

/-- texts in memory -/
structure StrsIn (B : Nat) (w : World) (ao : Option Addr) (k b off : Nat) (u : Nat → ByteArray) : Prop where
  addr : 0 < k → ao = some ⟨b, off, none⟩
  lt : 0 < k → b < B
  cell : ∀ i, i < k → w.cell? ⟨b, off + i, none⟩ = some (.string (u i))
  le : k ≤ 1000
theorem StrsIn.below {B : Nat} {w w' : World} {ao : Option Addr} {k b off : Nat} {u : Nat → ByteArray} (h : StrsIn B w ao k b off u) (hb : Below B w w') : StrsIn B w' ao k b off u :=
  ⟨h.addr, h.lt, fun i hi => (hb.cell (by exact h.lt (by omega))).trans (h.cell i hi), h.le⟩
theorem StrsIn.mono {B B' : Nat} {w : World} {ao : Option Addr} {k b off : Nat} {u : Nat → ByteArray} (h : StrsIn B w ao k b off u) (hB : B ≤ B') : StrsIn B' w ao k b off u :=
  ⟨h.addr, fun h0 => Nat.lt_of_lt_of_le (h.lt h0) hB, h.cell, h.le⟩

/-- the answer of Pieces: the value, the error -/
def PiecesAns (L : Lay) (s : ByteArray) (v : Value) (er : Int) (w' : World) : Prop :=
  (L.err ≠ 0 ∧ v = .slice none 0 0 ∧ er = L.err) ∨ (L.err = 0 ∧ 24 < s.size ∧ v = .slice none 0 0 ∧ er = 4) ∨
  (L.err = 0 ∧ s.size ≤ 24 ∧ ∃ q, Cut L.m L.tx s q ∧ ((pos L.m L.tx s q ≠ s.size ∧ v = .slice none 0 0 ∧ er = 6) ∨ (pos L.m L.tx s q = s.size ∧ er = 0 ∧ ∃ ao cap b off, v = .slice ao q cap ∧ StrsIn w'.heap.size w' ao q b off (piece L.m L.tx s))))

end Go.Proofs.Ytpclldccjpncdab

namespace Go.Proofs.Ytpclldccjpncdab
open Go.RowKit

/-! ### Weights, comparison -/
def cmpL : List Int → List Int → Int
  | [], [] => 0
  | [], _ :: _ => -1
  | _ :: _, [] => 1
  | a :: l, b :: r => if a < b then -1 else if b < a then 1 else cmpL l r
theorem cmpL_lt {a b : List Int} {j : Nat} (ha : j < a.length) (hb : j < b.length) (h : a.getD j 0 < b.getD j 0) : cmpL (a.drop j) (b.drop j) = -1 := by
  rw [List.drop_eq_getElem_cons ha, List.drop_eq_getElem_cons hb]
  simp only [List.getD, List.getElem?_eq_getElem ha, List.getElem?_eq_getElem hb, Option.getD_some] at h
  simp [cmpL, h]
theorem cmpL_gt {a b : List Int} {j : Nat} (ha : j < a.length) (hb : j < b.length) (h : b.getD j 0 < a.getD j 0) : cmpL (a.drop j) (b.drop j) = 1 := by
  rw [List.drop_eq_getElem_cons ha, List.drop_eq_getElem_cons hb]
  simp only [List.getD, List.getElem?_eq_getElem ha, List.getElem?_eq_getElem hb, Option.getD_some] at h
  have h1 : ¬ a[j] < b[j] := by omega
  simp [cmpL, h, h1]
theorem cmpL_eq {a b : List Int} {j : Nat} (ha : j < a.length) (hb : j < b.length) (h : a.getD j 0 = b.getD j 0) : cmpL (a.drop j) (b.drop j) = cmpL (a.drop (j + 1)) (b.drop (j + 1)) := by
  rw [List.drop_eq_getElem_cons ha, List.drop_eq_getElem_cons hb]
  simp only [List.getD, List.getElem?_eq_getElem ha, List.getElem?_eq_getElem hb, Option.getD_some] at h
  have h1 : ¬ a[j] < b[j] := by omega
  have h2 : ¬ b[j] < a[j] := by omega
  simp [cmpL, h]
theorem cmpL_end {a b : List Int} {j : Nat} (h : j = a.length ∨ j = b.length) (ha : j ≤ a.length) (hb : j ≤ b.length) : cmpL (a.drop j) (b.drop j) = if a.length < b.length then -1 else if b.length < a.length then 1 else 0 := by
  rcases h with h | h
  · rw [List.drop_of_length_le (l := a) (by omega)]
    by_cases e : j < b.length
    · rw [List.drop_eq_getElem_cons e]
      have : a.length < b.length := by omega
      simp [cmpL, this]
    · rw [List.drop_of_length_le (l := b) (by omega)]
      have h1 : ¬ a.length < b.length := by omega
      have h2 : ¬ b.length < a.length := by omega
      simp [cmpL, h1, h2]
  · rw [List.drop_of_length_le (l := b) (by omega)]
    by_cases e : j < a.length
    · rw [List.drop_eq_getElem_cons e]
      have h1 : ¬ a.length < b.length := by omega
      have h2 : b.length < a.length := by omega
      simp [cmpL, h1, h2]
    · rw [List.drop_of_length_le (l := a) (by omega)]
      have h1 : ¬ a.length < b.length := by omega
      have h2 : ¬ b.length < a.length := by omega
      simp [cmpL, h1, h2]
theorem cmpL_vals : ∀ a b : List Int, cmpL a b = -1 ∨ cmpL a b = 0 ∨ cmpL a b = 1
  | [], [] => by simp [cmpL]
  | [], _ :: _ => by simp [cmpL]
  | _ :: _, [] => by simp [cmpL]
  | a :: l, b :: r => by
    unfold cmpL
    split
    · simp
    · split
      · simp
      · exact cmpL_vals l r

def entNums (z : Nat → Nat → Int) (k : Nat → Nat) (j : Nat) : List Nat := (List.range (k j)).map fun i => (z j i).toNat
noncomputable def nums (L : Lay) (s : ByteArray) (q : Nat) : List Nat := (List.range q).flatMap fun j => entNums L.z L.k (pidx L.m L.tx s j)
theorem nums_succ (L : Lay) (s : ByteArray) (q : Nat) : nums L s (q + 1) = nums L s q ++ entNums L.z L.k (pidx L.m L.tx s q) := by simp [nums, List.range_succ]
theorem entNums_len (z : Nat → Nat → Int) (k : Nat → Nat) (j : Nat) : (entNums z k j).length = k j := by simp [entNums]
theorem entNums_take (z : Nat → Nat → Int) (k : Nat → Nat) (j i : Nat) (h : i < k j) : (entNums z k j).take (i + 1) = (entNums z k j).take i ++ [(z j i).toNat] := by
  rw [List.take_succ_eq_append_getElem (by rw [entNums_len]; exact h)]
  simp [entNums]
theorem nums_len {L : Lay} (hok : L.Ok) {s : ByteArray} : ∀ q, (∀ j, j < q → 0 < lenAt L.m L.tx s (pos L.m L.tx s j)) → (nums L s q).length ≤ 4 * q
  | 0, _ => by simp [nums]
  | q + 1, h => by
    have h1 := nums_len hok q (fun j hj => h j (by omega))
    have h2 := (hok.k _ (pidx_spec h (Nat.lt_succ_self q)).1).2
    rw [nums_succ, List.length_append, entNums_len]
    omega
theorem nums_lt {L : Lay} (hok : L.Ok) {s : ByteArray} : ∀ q, (∀ j, j < q → 0 < lenAt L.m L.tx s (pos L.m L.tx s j)) → ∀ c ∈ nums L s q, c < L.n
  | 0, _, c, hc => by simp [nums] at hc
  | q + 1, h, c, hc => by
    rw [nums_succ, List.mem_append] at hc
    rcases hc with hc | hc
    · exact nums_lt hok q (fun j hj => h j (by omega)) c hc
    · simp only [entNums, List.mem_map, List.mem_range] at hc
      obtain ⟨i, hi, rfl⟩ := hc
      have := hok.z _ (pidx_spec h (Nat.lt_succ_self q)).1 i hi
      omega

def wt (L : Lay) (lv : Nat) (c : Nat) : Int := if lv = 1 then L.p c else if lv = 2 then L.s c else L.t c
theorem wt_bd {L : Lay} (hok : L.Ok) (lv c : Nat) (h : c < L.n) : 0 ≤ wt L lv c ∧ wt L lv c ≤ 250 := by
  have := hok.node c h
  simp only [nodeB, decide_eq_true_eq] at this
  unfold wt
  split
  · omega
  · split <;> omega
def wts (L : Lay) (lv : Nat) (l : List Nat) : List Int := (l.map (wt L lv)).filter (· ≠ 0)

open Classical in
noncomputable def cutN (L : Lay) (s : ByteArray) : Nat := if h : ∃ q, Cut L.m L.tx s q then h.choose else 0
theorem cutN_eq {L : Lay} {s : ByteArray} {q : Nat} (h : Cut L.m L.tx s q) : cutN L s = q := by
  have hx : ∃ q, Cut L.m L.tx s q := ⟨q, h⟩
  unfold cutN
  rw [dif_pos hx]
  exact hx.choose_spec.uniq h
def hasP (L : Lay) (s : ByteArray) : Prop := pos L.m L.tx s (cutN L s) = s.size
noncomputable def nodesN (L : Lay) (s : ByteArray) : List Nat := nums L s (cutN L s)
noncomputable def wl (L : Lay) (s : ByteArray) (lv : Nat) : List Int := wts L lv (nodesN L s)
/-- the first level from lv on, up to top, that tells -/
noncomputable def cmpFrom (L : Lay) (a b : ByteArray) : Nat → Nat → Int
  | 0, _ => 0
  | f + 1, lv => if cmpL (wl L a lv) (wl L b lv) ≠ 0 then cmpL (wl L a lv) (wl L b lv) else cmpFrom L a b f (lv + 1)
open Classical in
noncomputable def cmpE (L : Lay) (a b : ByteArray) (lev : Int) : Int :=
  if L.err ≠ 0 then L.err else if 24 < a.size ∨ 24 < b.size then 4 else if lev < 1 ∨ 3 < lev then 5 else if ¬ hasP L a ∨ ¬ hasP L b then 6 else 0
noncomputable def cmpV (L : Lay) (a b : ByteArray) (lev : Int) : Int := if cmpE L a b lev ≠ 0 then 0 else cmpFrom L a b lev.toNat 1

/-- a list of numbers in memory -/
abbrev IntsL (B : Nat) (w : World) (ao : Option Addr) (l : List Int) (b off : Nat) : Prop := IntsIn B w ao l.length b off (fun i => l.getD i 0)

/-- the cells of a list of nodes -/
def nodesC (L : Lay) (l : List Nat) : List Value := l.flatMap fun c => [.int .i64 (L.p c), .int .i64 (L.s c), .int .i64 (L.t c)]
theorem nodesC_len (L : Lay) : ∀ l : List Nat, (nodesC L l).length = l.length * 3
  | [] => rfl
  | c :: r => by
    have := nodesC_len L r
    simp only [nodesC, List.flatMap_cons, List.length_append, List.length_cons, List.length_nil] at this ⊢
    omega
theorem nodesC_snoc (L : Lay) (l : List Nat) (c : Nat) : nodesC L (l ++ [c]) = nodesC L l ++ [.int .i64 (L.p c), .int .i64 (L.s c), .int .i64 (L.t c)] := by simp [nodesC]
theorem nodesC_at (L : Lay) : ∀ (l : List Nat) (i : Nat), i < l.length → (nodesC L l)[i * 3]? = some (.int .i64 (L.p (l.getD i 0))) ∧ (nodesC L l)[i * 3 + 1]? = some (.int .i64 (L.s (l.getD i 0))) ∧ (nodesC L l)[i * 3 + 2]? = some (.int .i64 (L.t (l.getD i 0)))
  | [], i, h => by simp at h
  | c :: r, 0, _ => by simp [nodesC]
  | c :: r, i + 1, h => by
    have := nodesC_at L r i (by simpa using h)
    have e : nodesC L (c :: r) = .int .i64 (L.p c) :: .int .i64 (L.s c) :: .int .i64 (L.t c) :: nodesC L r := rfl
    rw [e, show (i + 1) * 3 = i * 3 + 1 + 1 + 1 by omega, show i * 3 + 1 + 1 + 1 + 1 = (i * 3 + 1) + 1 + 1 + 1 by omega, show i * 3 + 1 + 1 + 1 + 2 = (i * 3 + 2) + 1 + 1 + 1 by omega]
    simpa [List.getElem?_cons_succ] using this
/-- nodes that the call has made, as nodes in memory -/
theorem nodes_of_own {w : World} {base : Nat} {v : Value} {L : Lay} {l : List Nat} (hl : l.length ≤ 1000) (ho : w.ownsRow base 60 3 v l.length (nodesC L l)) :
    ∃ ao cap b, v = .slice ao l.length cap ∧ NodesIn w.heap.size w ao l.length b 0 (fun i => L.p (l.getD i 0)) (fun i => L.s (l.getD i 0)) (fun i => L.t (l.getD i 0)) := by
  obtain ⟨vo, vc, gv, rfl, ha, hc⟩ := own_cells ho
  refine ⟨vo, vc, gv, rfl, ⟨fun h0 => (ha h0).1, fun h0 => (ha h0).2.1, fun i hi => ?_, fun i hi => ?_, fun i hi => ?_, by omega⟩⟩
  · have := hc (i * 3) _ (by omega) (nodesC_at L l i hi).1
    simpa using this
  · have := hc (i * 3 + 1) _ (by omega) (nodesC_at L l i hi).2.1
    simpa using this
  · have := hc (i * 3 + 2) _ (by omega) (nodesC_at L l i hi).2.2
    simpa using this
theorem ints_of_own {w : World} {base : Nat} {v : Value} {l : List Int} {n : Nat} (hn : n = l.length) (hl : n ≤ 1000) (ho : w.ownsRow base 3 1 v n (l.map (Value.int .i64))) : ∃ ao cap b, v = .slice ao l.length cap ∧ IntsL w.heap.size w ao l b 0 := by
  subst hn
  obtain ⟨vo, vc, gv, rfl, ha, hc⟩ := own_cells ho
  refine ⟨vo, vc, gv, rfl, ⟨fun h0 => (ha h0).1, fun h0 => (ha h0).2.1, fun i hi => ?_, by omega⟩⟩
  have := hc i (.int .i64 (l.getD i 0)) (by omega) (by simp [List.getD, List.getElem?_eq_getElem hi])
  simpa using this

end Go.Proofs.Ytpclldccjpncdab

namespace Go.Proofs.Ytpclldccjpncdab
open Go.RowKit

theorem infoNode : (Try.prog.info? 60).map (fun i => (i.zero, i.size, i.bytes)) = some (some (.agg #[.int .i64 0, .int .i64 0, .int .i64 0]), 3, 24) := by kernel_rfl
theorem infoInt : (Try.prog.info? 3).map (fun i => (i.zero, i.size, i.bytes)) = some (some (.int .i64 0), 1, 8) := by kernel_rfl
theorem new_three (w : World) (a b c : Value) (t : TypeId) : ∀ (j : Nat) (u : Value), [a, b, c][j]? = some u → (w.alloc (.cells #[a, b, c] t)).cell? ((⟨w.heap.size, 0, none⟩ : Addr).add j) = some u := by
  intro j u hj
  have hr : (w.alloc (.cells #[a, b, c] t)).rowIs w.heap.size t 3 (fun i => #[a, b, c].getD i undef) := row_new w _ t 3 rfl
  match j, hj with
  | 0, hj => simp at hj; subst hj; exact hr.cell (i := 0) (by omega)
  | 1, hj => simp at hj; subst hj; exact hr.cell (i := 1) (by omega)
  | 2, hj => simp at hj; subst hj; exact hr.cell (i := 2) (by omega)

set_option maxHeartbeats 400000 in
theorem weight_any (p s t : Int) (lv : Nat) (w : World) (h1 : 1 ≤ lv) (h3 : lv ≤ 3) :
    Calls Try.prog 71 #[.agg #[.int .i64 p, .int .i64 s, .int .i64 t], .int .i64 lv] w fun e w' => e = .returned (.int .i64 (if lv = 1 then p else if lv = 2 then s else t)) ∧ Below w.heap.size w w' := by
  have : lv = 1 ∨ lv = 2 ∨ lv = 3 := by omega
  rcases this with rfl | rfl | rfl
  all_goals
    go_enter Try.func71, Try.ntmps71
    go_wp2
    go_ret
    exact ⟨rfl, below_one _⟩

set_option maxHeartbeats 400000 in
theorem isLevel_any (lev : Int) (w : World) :
    Calls Try.prog 47 #[.int .i64 lev] w fun e w' => e = .returned (.bool (decide (1 ≤ lev ∧ lev ≤ 3))) ∧ w = w' := by
  by_cases h1 : 1 ≤ lev
  · by_cases h2 : lev ≤ 3
    all_goals
      go_enter Try.func47, Try.ntmps47
      go_wp2
      go_ret
      exact ⟨ret_bool (by simp [h1, h2]), rfl⟩
  · go_enter Try.func47, Try.ntmps47
    go_wp2
    go_ret
    exact ⟨ret_bool (by simp; intro _; omega), rfl⟩

set_option maxHeartbeats 1000000 in
theorem compareWeights_any (a b : List Int) (ao bo : Option Addr) (ab aoff bb boff acap bcap : Nat) (w : World) (h : IntsL w.heap.size w ao a ab aoff) (h' : IntsL w.heap.size w bo b bb boff) :
    Calls Try.prog 80 #[.slice ao a.length acap, .slice bo b.length bcap] w fun e w' => e = .returned (.int .i64 (cmpL a b)) ∧ Below w.heap.size w w' := by
  have la := h.le
  have lb := h'.le
  have HA : Hid (IntsL w.heap.size w ao a ab aoff) := h
  have HB : Hid (IntsL w.heap.size w bo b bb boff) := h'
  clear h h'
  obtain ⟨n, hn⟩ : ∃ n, n = a.length := ⟨_, rfl⟩
  obtain ⟨m, hm⟩ : ∃ m, m = b.length := ⟨_, rfl⟩
  rw [← hn] at la ⊢
  rw [← hm] at lb ⊢
  have HN : Hid (n = a.length) := hn
  have HM : Hid (m = b.length) := hm
  clear hn hm
  go_enter Try.func80, Try.ntmps80
  go_wp2
  go_loopw [5] (fun iv wr => ∃ j : Nat, j ≤ n ∧ j ≤ m ∧ iv = .int .i64 j ∧ Below w.heap.size w wr ∧ cmpL (a.drop j) (b.drop j) = cmpL a b) (fun iv _ => n - (intOf iv).toNat)
  case atStart => exact ⟨0, Nat.zero_le _, Nat.zero_le _, rfl, Below.refl _ _, by simp⟩
  case round =>
    obtain ⟨j, hj1, hj2, rfl, hbel, hcmp⟩ := hrel
    have HC : Hid (cmpL (a.drop j) (b.drop j) = cmpL a b) := hcmp
    clear hcmp
    by_cases hja : j < n
    · by_cases hjb : j < m
      · have pa : j < a.length := by have := HN.out; omega
        have pb : j < b.length := by have := HM.out; omega
        have e1 := HA.out.addr (by omega)
        have e2 := HB.out.addr (by omega)
        subst e1
        subst e2
        have c0 := cellTo hbel (HA.out.cell j pa) (HA.out.lt (by omega))
        have c1 := cellTo hbel (HB.out.cell j pb) (HB.out.lt (by omega))
        obtain ⟨x, hx⟩ : ∃ x, x = a.getD j 0 := ⟨_, rfl⟩
        obtain ⟨y, hy⟩ : ∃ y, y = b.getD j 0 := ⟨_, rfl⟩
        have HX : Hid (x = a.getD j 0) := hx
        have HY : Hid (y = b.getD j 0) := hy
        rw [← hx] at c0
        rw [← hy] at c1
        clear hx hy pa pb
        by_cases hlt : x < y
        · go_wp2
          go_quiet (fail)
          go_wp2
          go_ret
          exact ⟨ret_int (by rw [← HC.out]; exact (cmpL_lt (by have := HN.out; omega) (by have := HM.out; omega) (by rw [← HX.out, ← HY.out]; exact hlt)).symm), below_drewN hbel _⟩
        · by_cases hgt : y < x
          · go_wp2
            go_quiet (fail)
            go_wp2
            go_quiet (fail)
            go_wp2
            go_ret
            exact ⟨ret_int (by rw [← HC.out]; exact (cmpL_gt (by have := HN.out; omega) (by have := HM.out; omega) (by rw [← HX.out, ← HY.out]; exact hgt)).symm), (by first | exact below_drewN hbel _ | exact below_drewN (below_drewN hbel _) _)⟩
          · go_wp2
            go_quiet (fail)
            go_wp2
            go_quiet (fail)
            go_wp2
            go_roundw
            case rel => exact ⟨j + 1, by omega, by omega, by go_num, (by first | exact below_drewN hbel _ | exact below_drewN (below_drewN hbel _) _), by rw [← HC.out]; exact (cmpL_eq (by have := HN.out; omega) (by have := HM.out; omega) (by rw [← HX.out, ← HY.out]; omega)).symm⟩
            case measure => simp [intOf]; omega
      · have hje : j = m := by omega
        subst hje
        go_wp2
        go_ret
        refine ⟨ret_int ?_, hbel⟩
        rw [← HC.out, cmpL_end (.inr HM.out) (by have := HN.out; omega) (by have := HM.out; omega), ← HN.out, ← HM.out]
        have h1 : ¬ n < j := by omega
        simp [h1, hja]
    · have hje : j = n := by omega
      subst hje
      by_cases hnm : j < m
      · go_wp2
        go_ret
        refine ⟨ret_int ?_, hbel⟩
        rw [← HC.out, cmpL_end (.inl HN.out) (by have := HN.out; omega) (by have := HM.out; omega), ← HN.out, ← HM.out]
        simp [hnm]
      · go_wp2
        go_ret
        refine ⟨ret_int ?_, hbel⟩
        rw [← HC.out, cmpL_end (.inl HN.out) (by have := HN.out; omega) (by have := HM.out; omega), ← HN.out, ← HM.out]
        have : j = m := by omega
        simp [this]

end Go.Proofs.Ytpclldccjpncdab
