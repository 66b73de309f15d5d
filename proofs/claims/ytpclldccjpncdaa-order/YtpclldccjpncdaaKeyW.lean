import Derived.Test.YtpclldccjpncdaaRefCompare
import Derived.Laws.BytesArg
namespace Go.Proofs.Ytpclldccjpncdaa
open Go.RowKit

theorem infoByte : (Try.prog.info? 5).map (fun i => (i.zero, i.size, i.bytes)) = some (some (.int .u8 0), 1, 1) := by kernel_rfl

/-- the numbers of a key, up to a level -/
noncomputable def keyL (L : Lay) (s : ByteArray) : Nat → List Int
  | 0 => []
  | k + 1 => keyL L s k ++ (if 1 ≤ k then [0] else []) ++ wl L s (k + 1)
theorem wl_bd {L : Lay} (hok : L.Ok) {s : ByteArray} (h : (nodesN L s).length ≤ 96) (hn : ∀ c ∈ nodesN L s, c < L.n) (lv : Nat) : (wl L s lv).length ≤ 96 ∧ ∀ x ∈ wl L s lv, 1 ≤ x ∧ x ≤ 250 := by
  refine ⟨Nat.le_trans (wts_len L lv _) h, fun x hx => ?_⟩
  simp only [wl, wts, List.mem_filter, List.mem_map, decide_eq_true_eq] at hx
  obtain ⟨⟨c, hc, rfl⟩, h0⟩ := hx
  have := wt_bd hok lv c (hn c hc)
  omega
theorem keyL_len {L : Lay} {s : ByteArray} (h : ∀ lv, (wl L s lv).length ≤ 96) : ∀ k, (keyL L s k).length ≤ 97 * k
  | 0 => by simp [keyL]
  | k + 1 => by
    have h1 := keyL_len h k
    have h2 := h (k + 1)
    unfold keyL
    rw [List.length_append, List.length_append]
    split <;> simp <;> omega
noncomputable def keyE (L : Lay) (s : ByteArray) (lev : Int) : Int := mayE L 1 (fun _ => s) lev
noncomputable def keyV (L : Lay) (s : ByteArray) (lev : Int) : ByteArray := if keyE L s lev ≠ 0 then { data := #[] } else strOfNums (keyL L s lev.toNat)
theorem keyV_no {L : Lay} {s : ByteArray} {lev : Int} (h : keyE L s lev ≠ 0) : keyV L s lev = { data := #[] } := by simp [keyV, h]
theorem keyV_ok {L : Lay} {s : ByteArray} {lev : Int} (h : keyE L s lev = 0) : keyV L s lev = strOfNums (keyL L s lev.toNat) := by simp [keyV, h]
theorem keyE_err {L : Lay} {s : ByteArray} {lev : Int} (h : L.err ≠ 0) : keyE L s lev = L.err := (mayE_err h).symm
theorem keyE_long {L : Lay} {s : ByteArray} {lev : Int} (h : L.err = 0) (h2 : 24 < s.size) : keyE L s lev = 4 := (mayE_long h ⟨0, by omega, h2⟩).symm
theorem keyE_level {L : Lay} {s : ByteArray} {lev : Int} (h : L.err = 0) (h2 : s.size ≤ 24) (h3 : lev < 1 ∨ 3 < lev) : keyE L s lev = 5 := (mayE_level h (fun _ _ => h2) h3).symm
theorem keyE_text {L : Lay} {s : ByteArray} {lev : Int} (h : L.err = 0) (h2 : s.size ≤ 24) (h3 : 1 ≤ lev) (h4 : lev ≤ 3) (h5 : ¬ hasP L s) : keyE L s lev = 6 := (mayE_text h (fun _ _ => h2) h3 h4 ⟨0, by omega, h5⟩).symm
theorem keyE_ok {L : Lay} {s : ByteArray} {lev : Int} (h : L.err = 0) (h2 : s.size ≤ 24) (h3 : 1 ≤ lev) (h4 : lev ≤ 3) (h5 : hasP L s) : keyE L s lev = 0 := (mayE_ok h (fun _ _ => h2) h3 h4 (fun _ _ => h5)).symm
theorem keyE_zero {L : Lay} {s : ByteArray} {lev : Int} (h : keyE L s lev = 0) : L.err = 0 ∧ s.size ≤ 24 ∧ 1 ≤ lev ∧ lev ≤ 3 ∧ hasP L s := by
  by_cases he : L.err = 0
  · by_cases hs : s.size ≤ 24
    · by_cases hl : lev < 1 ∨ 3 < lev
      · rw [keyE_level he hs hl] at h; omega
      · by_cases hp : hasP L s
        · exact ⟨he, hs, by omega, by omega, hp⟩
        · rw [keyE_text he hs (by omega) (by omega) hp] at h; omega
    · rw [keyE_long he (by omega)] at h; omega
  · rw [keyE_err he] at h; exact absurd h he
theorem ret_str {x x' : ByteArray} {y y' : Int} (h1 : x = x') (h2 : y = y') : Ending.returned (.tuple #[.string x, .int .i64 y]) = .returned (.tuple #[.string x', .int .i64 y']) := by rw [h1, h2]

/-- bytes of one's own become a text -/
theorem conv_own {w : World} {base : Nat} {v : Value} {l : List Int} (ho : w.ownsRow base 5 1 v l.length (l.map (Value.int .u8))) : ∃ vo vc, v = .slice vo l.length vc ∧ (convert 50 9 (.slice vo l.length vc)).run Try.prog w = .ok (.string (strOfNums l)) w := by
  obtain ⟨vo, vc, gv, rfl, ha, hc⟩ := own_cells ho
  refine ⟨vo, vc, rfl, ?_⟩
  by_cases h0 : 0 < l.length
  · rw [(ha h0).1]
    refine run_convert_bytes_arg w 50 5 Try.underlying50 Try.underlying5 gv 0 l.length vc l rfl (fun i hi => ?_) 9 Try.underlying9
    have := hc i (.int .u8 (l.getD i 0)) (by omega) (by simp [List.getD, List.getElem?_eq_getElem hi])
    simpa using this
  · have hl : l = [] := List.eq_nil_of_length_eq_zero (by omega)
    subst hl
    obtain ⟨_, h2⟩ := ho
    rcases h2 with ⟨hv, _⟩ | ⟨g, cap, cur, hv, _⟩
    · cases hv
      exact run_convert_bytes_nil w 50 5 Try.underlying50 Try.underlying5 0 0 9 Try.underlying9
    · cases hv
      exact run_convert_bytes_arg w 50 5 Try.underlying50 Try.underlying5 g 0 0 vc [] rfl (fun i hi => by omega) 9 Try.underlying9
theorem take_snoc_i (l : List Int) (i : Nat) (h : i < l.length) : l.take (i + 1) = l.take i ++ [l.getD i 0] := by
  rw [List.take_succ_eq_append_getElem h]
  simp [List.getD, List.getElem?_eq_getElem h]

end Go.Proofs.Ytpclldccjpncdaa
