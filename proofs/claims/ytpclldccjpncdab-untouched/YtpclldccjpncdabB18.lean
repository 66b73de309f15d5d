import Derived.Test.YtpclldccjpncdabB17
import Derived.Deep.Cut
import Derived.Deep.CutRange
import Derived.Deep.RegionWith
import Derived.Laws.BytesArg
namespace Go.Proofs.Ytpclldccjpncdab
open Go.RowKit

theorem three_cells {w : World} {g : Nat} {p s t : Int} {T : TypeId} (hr : w.rowIs g T 3 (fun i => #[Value.int .i64 p, .int .i64 s, .int .i64 t].getD i undef)) (L : Lay) (c lv : Nat) (hp : p = L.p c) (hs : s = L.s c) (ht : t = L.t c) (h1 : 1 ≤ lv) (h3 : lv ≤ 3) : w.cell? ⟨g, lv - 1, none⟩ = some (.int .i64 (wt L lv c)) := by
  subst hp hs ht
  have : lv = 1 ∨ lv = 2 ∨ lv = 3 := by omega
  rcases this with rfl | rfl | rfl
  · exact hr.cell (i := 0) (by omega)
  · exact hr.cell (i := 1) (by omega)
  · exact hr.cell (i := 2) (by omega)

end Go.Proofs.Ytpclldccjpncdab

namespace Go.Proofs.Ytpclldccjpncdab
open Go.RowKit

open Classical in
noncomputable def mayE (L : Lay) (k : Nat) (u : Nat → ByteArray) (lev : Int) : Int :=
  if L.err ≠ 0 then L.err else if ∃ i, i < k ∧ 24 < (u i).size then 4 else if lev < 1 ∨ 3 < lev then 5 else if ∃ i, i < k ∧ ¬ hasP L (u i) then 6 else 0
theorem mayE_err {L : Lay} {k : Nat} {u : Nat → ByteArray} {lev : Int} (h : L.err ≠ 0) : L.err = mayE L k u lev := by simp [mayE, h]
theorem mayE_long {L : Lay} {k : Nat} {u : Nat → ByteArray} {lev : Int} (h : L.err = 0) (h2 : ∃ i, i < k ∧ 24 < (u i).size) : 4 = mayE L k u lev := by
  unfold mayE
  rw [if_neg (by simpa using h), if_pos h2]
theorem mayE_level {L : Lay} {k : Nat} {u : Nat → ByteArray} {lev : Int} (h : L.err = 0) (h2 : ∀ i, i < k → (u i).size ≤ 24) (h3 : lev < 1 ∨ 3 < lev) : 5 = mayE L k u lev := by
  unfold mayE
  rw [if_neg (by simpa using h), if_neg (by rintro ⟨i, hi, hx⟩; have := h2 i hi; omega), if_pos h3]
theorem mayE_text {L : Lay} {k : Nat} {u : Nat → ByteArray} {lev : Int} (h : L.err = 0) (h2 : ∀ i, i < k → (u i).size ≤ 24) (h3 : 1 ≤ lev) (h4 : lev ≤ 3) (h5 : ∃ i, i < k ∧ ¬ hasP L (u i)) : 6 = mayE L k u lev := by
  unfold mayE
  rw [if_neg (by simpa using h), if_neg (by rintro ⟨i, hi, hx⟩; have := h2 i hi; omega), if_neg (by omega), if_pos h5]
theorem mayE_ok {L : Lay} {k : Nat} {u : Nat → ByteArray} {lev : Int} (h : L.err = 0) (h2 : ∀ i, i < k → (u i).size ≤ 24) (h3 : 1 ≤ lev) (h4 : lev ≤ 3) (h5 : ∀ i, i < k → hasP L (u i)) : 0 = mayE L k u lev := by
  unfold mayE
  rw [if_neg (by simpa using h), if_neg (by rintro ⟨i, hi, hx⟩; have := h2 i hi; omega), if_neg (by omega), if_neg (by rintro ⟨i, hi, hx⟩; exact hx (h5 i hi))]

end Go.Proofs.Ytpclldccjpncdab

namespace Go.Proofs.Ytpclldccjpncdab
open Go.RowKit

/-- two texts -/
def two (a b : ByteArray) (i : Nat) : ByteArray := if i = 0 then a else b
theorem strs_two (w : World) (a b : ByteArray) (t : TypeId) : StrsIn (w.alloc (.cells #[.string a, .string b] t)).heap.size (w.alloc (.cells #[.string a, .string b] t)) (some ⟨w.heap.size, 0, none⟩) 2 w.heap.size 0 (two a b) := by
  have hr : (w.alloc (.cells #[.string a, .string b] t)).rowIs w.heap.size t 2 (fun i => #[Value.string a, .string b].getD i undef) := row_new w _ t 2 rfl
  refine ⟨fun _ => rfl, fun _ => hr.lt, fun i hi => ?_, by omega⟩
  match i, hi with
  | 0, _ => exact hr.cell (i := 0) (by omega)
  | 1, _ => exact hr.cell (i := 1) (by omega)
theorem mayE_two {L : Lay} {a b : ByteArray} {lev : Int} : mayE L 2 (two a b) lev = cmpE L a b lev := by
  by_cases he : L.err = 0
  · by_cases hs : 24 < a.size ∨ 24 < b.size
    · rw [cmpE_long he hs]
      refine (mayE_long he ?_).symm
      rcases hs with h | h
      · exact ⟨0, by omega, by simpa [two] using h⟩
      · exact ⟨1, by omega, by simpa [two] using h⟩
    · have h24 : ∀ i, i < 2 → (two a b i).size ≤ 24 := fun i hi => by
        match i, hi with
        | 0, _ => simp [two]; omega
        | 1, _ => simp [two]; omega
      by_cases hl : lev < 1 ∨ 3 < lev
      · rw [cmpE_level he (by omega) (by omega) hl, ← mayE_level he h24 hl]
      · by_cases hp : ¬ hasP L a ∨ ¬ hasP L b
        · rw [cmpE_text he (by omega) (by omega) (by omega) (by omega) hp]
          refine (mayE_text he h24 (by omega) (by omega) ?_).symm
          rcases hp with h | h
          · exact ⟨0, by omega, by simpa [two] using h⟩
          · exact ⟨1, by omega, by simpa [two] using h⟩
        · have ha : hasP L a := Classical.byContradiction fun h => hp (.inl h)
          have hb : hasP L b := Classical.byContradiction fun h => hp (.inr h)
          rw [cmpE_ok he (by omega) (by omega) (by omega) (by omega) ha hb]
          refine (mayE_ok he h24 (by omega) (by omega) fun i hi => ?_).symm
          match i, hi with
          | 0, _ => simpa [two] using ha
          | 1, _ => simpa [two] using hb
  · rw [cmpE_err he, ← mayE_err he]
theorem cmpE_zero {L : Lay} {a b : ByteArray} {lev : Int} (h : cmpE L a b lev = 0) : L.err = 0 ∧ a.size ≤ 24 ∧ b.size ≤ 24 ∧ 1 ≤ lev ∧ lev ≤ 3 ∧ hasP L a ∧ hasP L b := by
  by_cases he : L.err = 0
  · by_cases hs : 24 < a.size ∨ 24 < b.size
    · rw [cmpE_long he hs] at h; omega
    · by_cases hl : lev < 1 ∨ 3 < lev
      · rw [cmpE_level he (by omega) (by omega) hl] at h; omega
      · by_cases hp : ¬ hasP L a ∨ ¬ hasP L b
        · rw [cmpE_text he (by omega) (by omega) (by omega) (by omega) hp] at h; omega
        · exact ⟨he, by omega, by omega, by omega, by omega, Classical.byContradiction fun h => hp (.inl h), Classical.byContradiction fun h => hp (.inr h)⟩
  · rw [cmpE_err he] at h; exact absurd h he

end Go.Proofs.Ytpclldccjpncdab

namespace Go.Proofs.Ytpclldccjpncdab
open Go.RowKit

theorem infoByte : (Try.prog.info? 5).map (fun i => (i.zero, i.size, i.bytes)) = some (some (.int .u8 0), 1, 1) := by kernel_rfl

/-- the numbers of a key, up to a level -/
noncomputable def keyL (L : Lay) (s : ByteArray) : Nat → List Int
  | 0 => []
  | k + 1 => keyL L s k ++ (if 1 ≤ k then [0] else []) ++ wl L s (k + 1)
theorem wl_bd {L : Lay} (hok : L.Ok) {s : ByteArray} (h : (nodesN L s).length ≤ 96) (hn : ∀ c ∈ nodesN L s, c < L.n) (lv : Nat) : (wl L s lv).length ≤ 96 ∧ ∀ x ∈ wl L s lv, 1 ≤ x ∧ x ≤ 250 := by
  refine ⟨Nat.le_trans (wts_len L lv _) h, fun x hx => ?_⟩
  simp only [wl, wts, List.mem_filter, List.mem_map, decide_eq_true_eq] at hx
  obtain ⟨⟨c, hc, rfl⟩, h0⟩ := hx
  have := wt_bd hok lv c (hn c hc)
  omega
theorem keyL_len {L : Lay} {s : ByteArray} (h : ∀ lv, (wl L s lv).length ≤ 96) : ∀ k, (keyL L s k).length ≤ 97 * k
  | 0 => by simp [keyL]
  | k + 1 => by
    have h1 := keyL_len h k
    have h2 := h (k + 1)
    unfold keyL
    rw [List.length_append, List.length_append]
    split <;> simp <;> omega
noncomputable def keyE (L : Lay) (s : ByteArray) (lev : Int) : Int := mayE L 1 (fun _ => s) lev
noncomputable def keyV (L : Lay) (s : ByteArray) (lev : Int) : ByteArray := if keyE L s lev ≠ 0 then { data := #[] } else strOfNums (keyL L s lev.toNat)
theorem keyV_no {L : Lay} {s : ByteArray} {lev : Int} (h : keyE L s lev ≠ 0) : keyV L s lev = { data := #[] } := by simp [keyV, h]
theorem keyV_ok {L : Lay} {s : ByteArray} {lev : Int} (h : keyE L s lev = 0) : keyV L s lev = strOfNums (keyL L s lev.toNat) := by simp [keyV, h]
theorem keyE_err {L : Lay} {s : ByteArray} {lev : Int} (h : L.err ≠ 0) : keyE L s lev = L.err := (mayE_err h).symm
theorem keyE_long {L : Lay} {s : ByteArray} {lev : Int} (h : L.err = 0) (h2 : 24 < s.size) : keyE L s lev = 4 := (mayE_long h ⟨0, by omega, h2⟩).symm
theorem keyE_level {L : Lay} {s : ByteArray} {lev : Int} (h : L.err = 0) (h2 : s.size ≤ 24) (h3 : lev < 1 ∨ 3 < lev) : keyE L s lev = 5 := (mayE_level h (fun _ _ => h2) h3).symm
theorem keyE_text {L : Lay} {s : ByteArray} {lev : Int} (h : L.err = 0) (h2 : s.size ≤ 24) (h3 : 1 ≤ lev) (h4 : lev ≤ 3) (h5 : ¬ hasP L s) : keyE L s lev = 6 := (mayE_text h (fun _ _ => h2) h3 h4 ⟨0, by omega, h5⟩).symm
theorem keyE_ok {L : Lay} {s : ByteArray} {lev : Int} (h : L.err = 0) (h2 : s.size ≤ 24) (h3 : 1 ≤ lev) (h4 : lev ≤ 3) (h5 : hasP L s) : keyE L s lev = 0 := (mayE_ok h (fun _ _ => h2) h3 h4 (fun _ _ => h5)).symm
theorem keyE_zero {L : Lay} {s : ByteArray} {lev : Int} (h : keyE L s lev = 0) : L.err = 0 ∧ s.size ≤ 24 ∧ 1 ≤ lev ∧ lev ≤ 3 ∧ hasP L s := by
  by_cases he : L.err = 0
  · by_cases hs : s.size ≤ 24
    · by_cases hl : lev < 1 ∨ 3 < lev
      · rw [keyE_level he hs hl] at h; omega
      · by_cases hp : hasP L s
        · exact ⟨he, hs, by omega, by omega, hp⟩
        · rw [keyE_text he hs (by omega) (by omega) hp] at h; omega
    · rw [keyE_long he (by omega)] at h; omega
  · rw [keyE_err he] at h; exact absurd h he
theorem ret_str {x x' : ByteArray} {y y' : Int} (h1 : x = x') (h2 : y = y') : Ending.returned (.tuple #[.string x, .int .i64 y]) = .returned (.tuple #[.string x', .int .i64 y']) := by rw [h1, h2]

/-- bytes of one's own become a text -/
theorem conv_own {w : World} {base : Nat} {v : Value} {l : List Int} (ho : w.ownsRow base 5 1 v l.length (l.map (Value.int .u8))) : ∃ vo vc, v = .slice vo l.length vc ∧ (convert 69 9 (.slice vo l.length vc)).run Try.prog w = .ok (.string (strOfNums l)) w := by
  obtain ⟨vo, vc, gv, rfl, ha, hc⟩ := own_cells ho
  refine ⟨vo, vc, rfl, ?_⟩
  by_cases h0 : 0 < l.length
  · rw [(ha h0).1]
    refine run_convert_bytes_arg w 69 5 Try.underlying69 Try.underlying5 gv 0 l.length vc l rfl (fun i hi => ?_) 9 Try.underlying9
    have := hc i (.int .u8 (l.getD i 0)) (by omega) (by simp [List.getD, List.getElem?_eq_getElem hi])
    simpa using this
  · have hl : l = [] := List.eq_nil_of_length_eq_zero (by omega)
    subst hl
    obtain ⟨_, h2⟩ := ho
    rcases h2 with ⟨hv, _⟩ | ⟨g, cap, cur, hv, _⟩
    · cases hv
      exact run_convert_bytes_nil w 69 5 Try.underlying69 Try.underlying5 0 0 9 Try.underlying9
    · cases hv
      exact run_convert_bytes_arg w 69 5 Try.underlying69 Try.underlying5 g 0 0 vc [] rfl (fun i hi => by omega) 9 Try.underlying9
theorem take_snoc_i (l : List Int) (i : Nat) (h : i < l.length) : l.take (i + 1) = l.take i ++ [l.getD i 0] := by
  rw [List.take_succ_eq_append_getElem h]
  simp [List.getD, List.getElem?_eq_getElem h]

end Go.Proofs.Ytpclldccjpncdab
