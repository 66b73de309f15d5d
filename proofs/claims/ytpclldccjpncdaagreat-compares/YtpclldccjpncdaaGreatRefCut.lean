import Derived.Test.YtpclldccjpncdaaGreatRefPieces
namespace Go.Proofs.YtpclldccjpncdaaGreat
open Go.RowKit

/-- what is left of a text from a place on -/
def rest (s : ByteArray) (p : Nat) : ByteArray := s.extract p s.size
theorem rest_zero (s : ByteArray) : rest s 0 = s := ByteArray.extract_zero_size
theorem rest_size (s : ByteArray) (p : Nat) : (rest s p).size = s.size - p := by simp [rest, ByteArray.size_extract]
theorem rest_sub (s : ByteArray) (p n : Nat) (h : p + n ≤ s.size) : (rest s p).extract 0 n = sub s p n := by
  rw [rest, sub, ByteArray.extract_extract, Nat.add_zero, Nat.min_eq_left h]
theorem rest_rest (s : ByteArray) (p n : Nat) : (rest s p).extract n (rest s p).size = rest s (p + n) := by
  rw [rest_size, rest, ByteArray.extract_extract, rest]
  congr 1
  omega

set_option maxRecDepth 100000 in
set_option maxHeartbeats 1000000 in
theorem refCut_any (m cap b off : Nat) (ao : Option Addr) (tx : Nat → ByteArray) (la : Nat → Option Addr) (k lc lb lo : Nat → Nat) (z : Nat → Nat → Int) (s : ByteArray) (w : World) (hm : m ≤ 1000) (hs : s.size ≤ 1000)
    (h : EntriesIn w.heap.size w ao m b off tx la k lc lb lo z) :
    Calls Tryz.prog 45 #[.slice ao m cap, .string s] w fun e w' => ∃ q, Cut m tx s q ∧ Below w.heap.size w w' ∧
      ((pos m tx s q = s.size ∧ ∃ v, e = .returned (.tuple #[v, .bool true]) ∧ w'.ownsRow w.heap.size 9 1 v q ((List.range q).map fun j => .string (piece m tx s j))) ∨ (pos m tx s q ≠ s.size ∧ e = .returned (.tuple #[.slice none 0 0, .bool false]))) := by
  have HE : Hid (EntriesIn w.heap.size w ao m b off tx la k lc lb lo z) := h
  clear h
  obtain ⟨i0, hi0, hq0, hq1, hq2⟩ := info_parts infoStr
  go_enter Tryz.func45, Tryz.ntmps45
  go_wp2
  go_loopw [1, 6] (fun sv v wr => ∃ (q : Nat) (r : ByteArray), sv = .string r ∧ r = rest s (pos m tx s q) ∧ (∀ j, j < q → 0 < lenAt m tx s (pos m tx s j)) ∧ Below w.heap.size w wr ∧ wr.ownsRow w.heap.size 9 1 v q ((List.range q).map fun j => .string (piece m tx s j)))
    (fun sv _ _ => match sv with | .string r => r.size | _ => 0)
  case atStart => exact ⟨0, s, rfl, (rest_zero s).symm, fun j hj => by omega, Below.refl _ _, World.ownsRow_nil _ _ _ _⟩
  case round =>
    obtain ⟨q, r, rfl, hr, hgo, hbel, hown⟩ := hrel
    have hpl := pos_le m tx s q
    have hqp := pos_ge q hgo
    have HGO : Hid (∀ j, j < q → 0 < lenAt m tx s (pos m tx s j)) := hgo
    have HOWN : Hid (wr.ownsRow w.heap.size 9 1 _ q ((List.range q).map fun j => .string (piece m tx s j))) := hown
    clear hgo hown
    obtain ⟨pp, hpp⟩ : ∃ pp, pp = pos m tx s q := ⟨_, rfl⟩
    have HPP : Hid (pp = pos m tx s q) := hpp
    rw [← hpp] at hpl hqp hr
    clear hpp
    have hrs : r.size = s.size - pp := by rw [hr]; exact rest_size s pp
    have HRS : Hid (r.size = s.size - pp) := hrs
    have HR : Hid (r = rest s pp) := hr
    clear hr
    have hsz := hbel.size
    by_cases hlt : pp < s.size
    · have hr0 : 0 < r.size := by omega
      have hr1 : r.size ≤ 1000 := by omega
      clear hrs
      rcases Bool.eq_false_or_eq_true (decide ((r.size : Int) < 3)) with hd | hd
      all_goals
        have h3 := hd
        simp only [decide_eq_true_eq, decide_eq_false_iff_not] at h3
        go_wp2
        go_loop [7] (fun nv => ∃ n : Nat, nv = .int .i64 n ∧ n ≤ 3 ∧ n ≤ r.size ∧ ∀ x, n < x → x ≤ 3 → pp + x ≤ s.size → ¬ isText m tx (sub s pp x)) (fun nv => (intOf nv).toNat)
        case atStart => first | exact ⟨3, rfl, by omega, by omega, fun x h1 h2 _ => by omega⟩ | exact ⟨r.size, rfl, by omega, by omega, fun x h1 h2 h4 => by have := HRS.out; omega⟩
        case round =>
          obtain ⟨n, rfl, hn3, hnr, hno⟩ := hrel
          have HNO : Hid (∀ x, n < x → x ≤ 3 → pp + x ≤ s.size → ¬ isText m tx (sub s pp x)) := hno
          clear hno
          have hps : pp + n ≤ s.size := by have := HRS.out; omega
          by_cases hn0 : 0 < n
          · have hsub : r.extract 0 n = sub s pp n := by rw [HR.out]; exact rest_sub s pp n hps
            have HSUB : Hid (r.extract 0 n = sub s pp n) := hsub
            clear hsub
            by_cases hit : isText m tx (sub s pp n)
            · have HL : Hid (lenAt m tx s pp = n) := lenAt_eq hpl hn3 hps (fun _ => hit) HNO.out
              have HI : Hid (entI m tx (r.extract 0 n) = (idx m tx (sub s pp n) : Nat)) := by show _ = _; rw [HSUB.out]; exact entI_text hit
              obtain ⟨c, hc⟩ : ∃ c : Nat, c = idx m tx (sub s pp n) := ⟨_, rfl⟩
              have HC : Hid (c = idx m tx (sub s pp n)) := hc
              clear hc hit
              go_wp2_with (first
                | (go_at_call 75; refine (entry_any _ _ _ _ _ _ _ _ _ _ _ _ _ _ hm ((HE.out.below hbel).mono hsz)).mono ?_; rintro e w1 ⟨rfl, rfl⟩; rw [HI.out, ← HC.out])
                | (at_builtin; refine wpList_append_lies _ (by rfl) (.tmp 31) (.tmp 35) 40 (by rfl) w.heap.size 9 i0 (.string ByteArray.empty) 1 16 Tryz.underlying40 hi0 hq0 hq1 hq2 rfl (by omega) _ q _ (by rfl) (HOWN.out.alloc _) ⟨wr.heap.size, 0, none⟩ 1 1 [.string (r.extract 0 n)] (by rfl) (by rfl) ?c1 ?c2 (by omega) ?c3 ?c5 ?c4 (wr.heap.size + 1) (by simp) ?_))
              case c1 => exact cell_one_new _ _ _
              case c2 => intro u hu; simp at hu; subst hu; rfl
              case c3 => unfold maxLen; omega
              case c5 => omega
              case c4 => simp; omega
              · intro gv2 cap2 w3 hown2 hgrow _ _
                have HBN : Hid (Below w.heap.size w w3) := (hbel.alloc hsz _).grown hgrow (by simp; omega) (fun r hr => by
                  obtain ⟨_, ho⟩ := HOWN.out
                  rcases ho with ⟨hv, _⟩ | ⟨b', _, _, hv, hb', _⟩
                  · rw [hv] at hr; simp [Value.ownBlock] at hr
                  · rw [hv] at hr; simp [Value.ownBlock] at hr; omega)
                have HO2 : Hid (w3.ownsRow w.heap.size 9 1 (.slice (some ⟨gv2, 0, none⟩) (q + 1) cap2) (q + 1) ((List.range (q + 1)).map fun j => .string (piece m tx s j))) := by
                  show _
                  rw [List.range_succ, List.map_append]
                  have : piece m tx s q = r.extract 0 n := by rw [piece, ← HPP.out, HL.out, HSUB.out]
                  rw [List.map_singleton, this]
                  exact hown2
                clear hown2 hgrow
                go_wp2
                go_roundw
                case rel =>
                  refine ⟨q + 1, _, rfl, ?_, fun j hj => ?_, HBN.out, HO2.out⟩
                  · show _ = rest s (pos m tx s q + lenAt m tx s (pos m tx s q))
                    rw [← HPP.out, HL.out, ← rest_rest, ← HR.out]
                  · by_cases e : j = q
                    · rw [e, ← HPP.out, HL.out]; exact hn0
                    · exact HGO.out j (by omega)
                case measure => simp [ByteArray.size_extract]; omega
            · have HI : Hid (entI m tx (r.extract 0 n) = -1) := by show _ = _; rw [HSUB.out]; exact entI_no hit
              have HIT : Hid (¬ isText m tx (sub s pp n)) := hit
              clear hit
              go_wp2_with (go_at_call 75; refine (entry_any _ _ _ _ _ _ _ _ _ _ _ _ _ _ hm ((HE.out.below hbel).mono hsz)).mono ?_; rintro e w1 ⟨rfl, rfl⟩; rw [HI.out])
              go_round
              case rel => exact ⟨n - 1, by go_num, by omega, by omega, fun x h1 h2 h4 => by
                  by_cases e : x = n
                  · rw [e]; exact HIT.out
                  · exact HNO.out x (by omega) h2 h4⟩
              case measure => simp [intOf]; omega
          · have hnz : n = 0 := by omega
            subst hnz
            have HL : Hid (lenAt m tx s pp = 0) := lenAt_eq hpl (by omega) (by omega) (by omega) HNO.out
            go_wp2
            go_ret2
            exact ⟨q, ⟨HGO.out, by rw [← HPP.out]; exact HL.out⟩, hbel, .inr ⟨by rw [← HPP.out]; omega, rfl⟩⟩
    · have hre : r.size = 0 := by omega
      have hpe : pp = s.size := by omega
      have HPE : Hid (pos m tx s q = s.size) := by show _ = _; rw [← HPP.out]; exact hpe
      go_wp2
      go_ret2
      exact ⟨q, ⟨HGO.out, by rw [HPE.out]; exact lenAt_end m tx s⟩, hbel, .inl ⟨HPE.out, _, rfl, HOWN.out⟩⟩

end Go.Proofs.YtpclldccjpncdaaGreat
