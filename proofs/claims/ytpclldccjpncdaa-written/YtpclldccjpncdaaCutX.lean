import Derived.Test.YtpclldccjpncdaaCutW
import Derived.Test.YtpclldccjpncdaaLend
namespace Go.Proofs.Ytpclldccjpncdaa
open Go.RowKit

theorem info57 : (Try.prog.info? 64).map (fun i => (i.zero, i.size, i.bytes)) = some (some (.agg #[.string ByteArray.empty, .slice none 0 0]), 2, 40) := by kernel_rfl
theorem lenAt_end (m : Nat) (tx : Nat → ByteArray) (s : ByteArray) : lenAt m tx s s.size = 0 := by
  have := (lenAt_le m tx s s.size (Nat.le_refl _)).1
  omega
/-- the cells of the entries that were found -/
noncomputable def foundC (m : Nat) (tx : Nat → ByteArray) (la : Nat → Option Addr) (k lc : Nat → Nat) (s : ByteArray) (q : Nat) : List Value :=
  (List.range q).flatMap fun j => [.string (tx (pidx m tx s j)), .slice (la (pidx m tx s j)) (k (pidx m tx s j)) (lc (pidx m tx s j))]
theorem foundC_succ (m : Nat) (tx : Nat → ByteArray) (la : Nat → Option Addr) (k lc : Nat → Nat) (s : ByteArray) (q : Nat) :
    foundC m tx la k lc s (q + 1) = foundC m tx la k lc s q ++ [.string (tx (pidx m tx s q)), .slice (la (pidx m tx s q)) (k (pidx m tx s q)) (lc (pidx m tx s q))] := by
  simp [foundC, List.range_succ]
theorem new_two (w : World) (a b : Value) (t : TypeId) : ∀ (j : Nat) (u : Value), [a, b][j]? = some u → (w.alloc (.cells #[a, b] t)).cell? ((⟨w.heap.size, 0, none⟩ : Addr).add j) = some u := by
  intro j u hj
  have hr : (w.alloc (.cells #[a, b] t)).rowIs w.heap.size t 2 (fun i => #[a, b].getD i undef) := row_new w _ t 2 rfl
  match j, hj with
  | 0, hj => simp at hj; subst hj; exact hr.cell (i := 0) (by omega)
  | 1, hj => simp at hj; subst hj; exact hr.cell (i := 1) (by omega)

set_option maxRecDepth 100000 in
set_option maxHeartbeats 1000000 in
theorem cut_any (m cap b off : Nat) (ao : Option Addr) (tx : Nat → ByteArray) (la : Nat → Option Addr) (k lc lb lo : Nat → Nat) (z : Nat → Nat → Int) (s : ByteArray) (w : World) (hm : m ≤ 48) (hs : s.size ≤ 1000)
    (ht : ∀ i, i < m → 1 ≤ (tx i).size ∧ (tx i).size ≤ 3) (h : EntriesIn w.heap.size w ao m b off tx la k lc lb lo z) :
    Calls Try.prog 41 #[.slice ao m cap, .string s] w fun e w' => ∃ q, Cut m tx s q ∧ Below w.heap.size w w' ∧
      ((pos m tx s q = s.size ∧ ∃ v, e = .returned (.tuple #[v, .bool true]) ∧ w'.ownsRow w.heap.size 64 2 v q (foundC m tx la k lc s q)) ∨ (pos m tx s q ≠ s.size ∧ e = .returned (.tuple #[.slice none 0 0, .bool false]))) := by
  have HE : Hid (EntriesIn w.heap.size w ao m b off tx la k lc lb lo z) := h
  have HT : Hid (∀ i, i < m → 1 ≤ (tx i).size ∧ (tx i).size ≤ 3) := ht
  clear h ht
  obtain ⟨i0, hi0, hq0, hq1, hq2⟩ := info_parts info57
  go_enter Try.func41, Try.ntmps41
  go_wp2
  go_loopw [6, 7] (fun v av wr => ∃ q : Nat, av = .int .i64 (pos m tx s q : Nat) ∧ (∀ j, j < q → 0 < lenAt m tx s (pos m tx s j)) ∧ Below w.heap.size w wr ∧ wr.ownsRow w.heap.size 64 2 v q (foundC m tx la k lc s q)) (fun _ av _ => s.size - (intOf av).toNat)
  case atStart => exact ⟨0, rfl, fun j hj => by omega, Below.refl _ _, World.ownsRow_nil _ _ _ _⟩
  case round =>
    obtain ⟨q, rfl, hgo, hbel, hown⟩ := hrel
    have hpl := pos_le m tx s q
    have hqp := pos_ge q hgo
    have HGO : Hid (∀ j, j < q → 0 < lenAt m tx s (pos m tx s j)) := hgo
    have HOWN : Hid (wr.ownsRow w.heap.size 64 2 _ q (foundC m tx la k lc s q)) := hown
    clear hgo hown
    obtain ⟨pp, hpp⟩ : ∃ pp, pp = pos m tx s q := ⟨_, rfl⟩
    have HPP : Hid (pp = pos m tx s q) := hpp
    rw [← hpp] at hpl hqp ⊢
    clear hpp
    have hsz := hbel.size
    by_cases hlt : pp < s.size
    · by_cases hl : lenAt m tx s pp = 0
      · have HB : Hid (bestI m tx s pp = -1) := by show _ = _; simp [bestI, hl]
        have HL : Hid (lenAt m tx s pp = 0) := hl
        clear hl
        go_wp2_with (go_at_call 54; refine (longestAt_any _ _ _ _ _ _ _ _ _ _ _ _ _ _ _ hm hs hpl HT.out ((HE.out.below hbel).mono hsz)).mono ?_; rintro e w1 ⟨rfl, rfl⟩; rw [HB.out])
        go_ret2
        refine ⟨q, ⟨HGO.out, by rw [← HPP.out]; exact HL.out⟩, hbel, .inr ⟨by rw [← HPP.out]; omega, rfl⟩⟩
      · obtain ⟨c, hc⟩ : ∃ c, c = pidx m tx s q := ⟨_, rfl⟩
        have hl0 : 0 < lenAt m tx s pp := by omega
        have HB : Hid (bestI m tx s pp = (c : Int)) := by
          show _ = _
          rw [hc]
          simp [bestI, hl, pidx, piece, ← HPP.out]
        have hx := idx_spec (lenAt_text hl0)
        have hcm : c < m := by rw [hc, pidx, piece, ← HPP.out]; exact hx.1
        have HCT : Hid (tx c = sub s pp (lenAt m tx s pp)) := by show _ = _; rw [hc, pidx, piece, ← HPP.out]; exact hx.2.1
        have hsl : (tx c).size = lenAt m tx s pp := by rw [HCT.out]; exact size_sub _ _ _ (lenAt_le m tx s pp hpl).1
        have HSL : Hid ((tx c).size = lenAt m tx s pp) := hsl
        have HC : Hid (c = pidx m tx s q) := hc
        obtain ⟨t1, t2⟩ := HT.out c hcm
        have HL0 : Hid (0 < lenAt m tx s pp) := hl0
        clear hc hx hsl hl hl0
        have ha := HE.out.addr (by omega)
        subst ha
        have hbb := HE.out.lt (by omega)
        have c0 := cellTo hbel (HE.out.text c hcm) hbb
        have c1 := cellTo hbel (HE.out.list c hcm) hbb
        go_wp2_with (first
          | (go_at_call 54; refine (longestAt_any _ _ _ _ _ _ _ _ _ _ _ _ _ _ _ hm hs hpl HT.out ((HE.out.below hbel).mono hsz)).mono ?_; rintro e w1 ⟨rfl, rfl⟩; rw [HB.out])
          | (at_builtin; refine wpList_append_lies _ (by rfl) (.tmp 19) (.tmp 24) 24 (by rfl) w.heap.size 64 i0 (.agg #[.string ByteArray.empty, .slice none 0 0]) 2 40 Try.underlying24 hi0 hq0 hq1 hq2 rfl (by omega) _ q _ (by rfl) (HOWN.out.alloc _) ⟨wr.heap.size, 0, none⟩ 1 1 [.string (tx c), .slice (la c) (k c) (lc c)] (by rfl) (by rfl) ?c1 ?c2 (by omega) ?c3 ?c5 ?c4 (wr.heap.size + 1) (by simp) ?_))
        case c1 => exact new_two _ _ _ _
        case c2 => intro u hu; simp at hu; rcases hu with rfl | rfl <;> rfl
        case c3 => unfold maxLen; omega
        case c5 => omega
        case c4 => simp; omega
        · intro gv cap2 w2 hown2 hgrow _ hgv
          have HBN : Hid (Below w.heap.size w w2) := (hbel.alloc hsz _).grown hgrow (by simp; omega) (fun r hr => by
            obtain ⟨_, ho⟩ := HOWN.out
            rcases ho with ⟨hv, _⟩ | ⟨b', _, _, hv, hb', _⟩
            · rw [hv] at hr; simp [Value.ownBlock] at hr
            · rw [hv] at hr; simp [Value.ownBlock] at hr; omega)
          have d0 := cellTo HBN.out (HE.out.text c hcm) hbb
          have HO2 : Hid (w2.ownsRow w.heap.size 64 2 (.slice (some ⟨gv, 0, none⟩) (q + 1) cap2) (q + 1) (foundC m tx la k lc s (q + 1))) := by
            show _
            rw [foundC_succ, ← HC.out]
            exact hown2
          clear hown2 hgrow c0 c1
          go_wp2
          go_roundw
          case rel =>
            refine ⟨q + 1, ?_, fun j hj => ?_, HBN.out, HO2.out⟩
            · show _ = Value.int .i64 ((pos m tx s q + lenAt m tx s (pos m tx s q) : Nat) : Int)
              rw [← HPP.out, ← HSL.out]
              go_num
            · by_cases e : j = q
              · rw [e, ← HPP.out]; exact HL0.out
              · exact HGO.out j (by omega)
          case measure => simp [intOf]; omega
    · have hpe : pp = s.size := by omega
      have HPE : Hid (pos m tx s q = s.size) := by show _ = _; rw [← HPP.out]; exact hpe
      go_wp2
      go_ret2
      exact ⟨q, ⟨HGO.out, by rw [HPE.out]; exact lenAt_end m tx s⟩, hbel, .inl ⟨HPE.out, _, rfl, HOWN.out⟩⟩

end Go.Proofs.Ytpclldccjpncdaa
