import Derived.Test.YtpclldccjpncdaaKeyOwn
import Derived.Test.YtpclldccjpncdaaStillP
namespace Go.Proofs.Ytpclldccjpncdaa
open Go.RowKit

theorem lenAt_stop {m : Nat} {tx : Nat → ByteArray} {s : ByteArray} : ∃ q, Cut m tx s q := by
  have step : ∀ n q, n = s.size - pos m tx s q → (∀ j, j < q → 0 < lenAt m tx s (pos m tx s j)) → ∃ q, Cut m tx s q := by
    intro n
    induction n using Nat.strongRecOn with
    | ind n ih =>
      intro q hn hgo
      by_cases h0 : lenAt m tx s (pos m tx s q) = 0
      · exact ⟨q, hgo, h0⟩
      · have hle := lenAt_le m tx s _ (pos_le m tx s q)
        have hps : pos m tx s (q + 1) = pos m tx s q + lenAt m tx s (pos m tx s q) := rfl
        refine ih (s.size - pos m tx s (q + 1)) (by omega) (q + 1) rfl fun j hj => ?_
        by_cases e : j = q
        · rw [e]; omega
        · exact hgo j (by omega)
  exact step _ 0 rfl (fun j hj => by omega)
/-- of a valid table and a short text: few weights, each 1 to 250 -/
theorem nodesN_wl {L : Lay} (hok : L.Ok) {s : ByteArray} (hs : s.size ≤ 24) : ∀ lv, (wl L s lv).length ≤ 96 ∧ ∀ x ∈ wl L s lv, 1 ≤ x ∧ x ≤ 250 := by
  obtain ⟨q, hq⟩ := lenAt_stop (m := L.m) (tx := L.tx) (s := s)
  have hN := cutN_eq hq
  have h1 := pos_ge q hq.go
  have h2 := pos_le L.m L.tx s q
  have h3 := nums_len hok q hq.go
  have h4 := nums_lt hok q hq.go
  exact wl_bd hok (by unfold nodesN; rw [hN]; omega) (by unfold nodesN; rw [hN]; exact h4)

set_option maxRecDepth 100000 in
set_option maxHeartbeats 2000000 in
theorem tableKey_any (L : Lay) (s : ByteArray) (lev : Int) (w : World) (h : L.In w.heap.size w) :
    Calls Try.prog 33 #[.agg #[.slice L.na L.n L.nc, .slice L.ea L.m L.ec], .string s, .int .i64 lev] w fun e w' => e = .returned (.tuple #[.string (keyV L s lev), .int .i64 (keyE L s lev)]) ∧ Below w.heap.size w w' := by
  have HL : Hid (∀ w', Below w.heap.size w w' → L.In w'.heap.size w') := fun w' hb => h.later hb
  clear h
  obtain ⟨i0, hi0, hq0, hq1, hq2⟩ := info_parts infoByte
  by_cases he : L.err = 0
  · by_cases hs : s.size ≤ 24
    · by_cases hl : 1 ≤ lev ∧ lev ≤ 3
      · obtain ⟨hl1, hl3⟩ := hl
        have HOK : Hid L.Ok := err_zero he
        have hlv : decide (1 ≤ lev ∧ lev ≤ 3) = true := by simp [hl1, hl3]
        go_enter Try.func33, Try.ntmps33
        go_wp2_with (first
          | (go_at_call 40; refine (tableValid_any L _ (HL.out _ (below_one _))).mono ?_; rintro e w1 ⟨rfl, hb1⟩; obtain ⟨hc, hf⟩ := bcell hb1; have hz1 : w.heap.size < w1.heap.size := by have := hb1.size; simp at this; omega)
          | (go_at_call 42; refine (isLevel_any _ _).mono ?_; rintro e _ ⟨rfl, rfl⟩))
        refine (nodesOf_n L s _ (HL.out _ (below_then (below_one _) hb1)) HOK.out hs).mono ?_
        rintro e w3 ⟨hb3, hlen3, hor3⟩
        have HBW : Hid (Below w.heap.size w w3) := below_then (below_then (below_one _) hb1) hb3
        clear hc hf
        rcases hor3 with ⟨hp, ao, acap, ab, rfl, hna⟩ | ⟨hp, rfl⟩
        · have HNA : Hid (NodesL L w3 ao (nodesN L s) ab) := hna
          have HE : Hid (keyE L s lev = 0) := keyE_ok he hs hl1 hl3 hp
          have HWB : Hid (∀ lv, (wl L s lv).length ≤ 96 ∧ ∀ x ∈ wl L s lv, 1 ≤ x ∧ x ≤ 250) := nodesN_wl HOK.out hs
          clear hna hp
          obtain ⟨t, ht⟩ : ∃ t : Nat, lev = t := ⟨lev.toNat, by omega⟩
          subst ht
          go_wp2
          go_loopw [11, 12] (fun v kv wr => ∃ k : Nat, 1 ≤ k ∧ k ≤ t + 1 ∧ kv = .int .i64 (k : Nat) ∧ Below w3.heap.size w3 wr ∧ wr.ownsRow w3.heap.size 5 1 v (keyL L s (k - 1)).length ((keyL L s (k - 1)).map (Value.int .u8))) (fun _ kv _ => t + 1 - (intOf kv).toNat)
          case atStart => exact ⟨1, by omega, by omega, rfl, Below.refl _ _, World.ownsRow_nil _ _ _ _⟩
          case round =>
            rename World => wr
            obtain ⟨k, hk1, hk2, rfl, hbel, hown⟩ := hrel
            obtain ⟨j, hj⟩ : ∃ j, k = j + 1 := ⟨k - 1, by omega⟩
            subst hj
            rw [show j + 1 - 1 = j by omega] at hown
            have HOW : Hid (wr.ownsRow w3.heap.size 5 1 _ (keyL L s j).length ((keyL L s j).map (Value.int .u8))) := hown
            clear hown
            have hsz := hbel.size
            have hkl := keyL_len (fun lv => (HWB.out lv).1) (s := s) (L := L) j
            by_cases hkt : j + 1 ≤ t
            · by_cases hj0 : j = 0
              · subst hj0
                have HPL : Hid ((keyL L s 0).length ≤ 97 * 0 + 1) := by show _ ≤ _; simp [keyL]
                have HKS : Hid (keyL L s 0 ++ wl L s (0 + 1) = keyL L s (0 + 1 + 1 - 1)) := by show keyL L s 0 ++ wl L s (0 + 1) = keyL L s 0 ++ (if 1 ≤ 0 then [0] else []) ++ wl L s (0 + 1); simp
                have HOZ : Hid (wr.ownsRow w3.heap.size 5 1 _ (keyL L s 0).length ((keyL L s 0).map (Value.int .u8))) := HOW.out
                have HBZ : Hid (Below w3.heap.size w3 wr) := hbel
                go_wp2_with fail
                refine (weights_own L (nodesN L s) (0 + 1) ao ab 0 acap _ (by omega) (by omega) (by omega) ((HNA.out.below (HBZ.out)).mono (HBZ.out).size)).mono ?_
                rintro e w4 ⟨v4, rfl, hlo0, hb4⟩
                obtain ⟨b4, hlo⟩ : ∃ b4, w4.ownsRow b4 3 1 v4 (wl L s (0 + 1)).length ((wl L s (0 + 1)).map (Value.int .i64)) := ⟨_, hlo0⟩
                clear hlo0
                obtain ⟨vo4, vc4, hv4⟩ := own_shape hlo
                subst hv4
                have HLO : Hid (w4.ownsRow b4 3 1 (.slice vo4 (wl L s (0 + 1)).length vc4) (wl L s (0 + 1)).length ((wl L s (0 + 1)).map (Value.int .i64))) := hlo
                have hoy := own_of_block HOZ.out (fun b h => hb4.block b (own_lt' HOZ.out h))
                have HOY : Hid _ := hoy
                have HBY : Hid (Below w3.heap.size w3 w4) := below_then HBZ.out hb4
                obtain ⟨N, hN⟩ : ∃ N, N = (wl L s (0 + 1)).length := ⟨_, rfl⟩
                have HN : Hid (N = (wl L s (0 + 1)).length) := hN
                have hN96 : N ≤ 96 := by rw [hN]; exact (HWB.out (0 + 1)).1
                rw [← hN]
                clear hN hb4 hlo hoy
                go_wp2
                go_loopw [11, 14] (fun v iv wi => ∃ (i : Nat) (ks : List Int), Hid (ks = keyL L s 0 ++ (wl L s (0 + 1)).take i) ∧ i ≤ N ∧ iv = .int .i64 i ∧ wi.ownsRow b4 3 1 (.slice vo4 (wl L s (0 + 1)).length vc4) (wl L s (0 + 1)).length ((wl L s (0 + 1)).map (Value.int .i64)) ∧ Below w3.heap.size w3 wi ∧ wi.ownsRow w3.heap.size 5 1 v ks.length (ks.map (Value.int .u8))) (fun _ iv _ => N - (intOf iv).toNat)
                case atStart => exact ⟨0, _, (by show _ = _; rw [List.take_zero, List.append_nil]), Nat.zero_le _, rfl, HLO.out, HBY.out, HOY.out⟩
                case round =>
                  clear HLO HOY HBY
                  rename World => wi
                  obtain ⟨i, ks, HKK, hi, rfl, hloi, hb3i, hown⟩ := hrel
                  have HLI : Hid (wi.ownsRow b4 3 1 (.slice vo4 (wl L s (0 + 1)).length vc4) (wl L s (0 + 1)).length ((wl L s (0 + 1)).map (Value.int .i64))) := hloi
                  have HOI : Hid (wi.ownsRow w3.heap.size 5 1 _ ks.length (ks.map (Value.int .u8))) := hown
                  clear hown hloi
                  have hzi := hb3i.size
                  by_cases hiN : i < N
                  · have hil : i < (wl L s (0 + 1)).length := by have := HN.out; omega
                    obtain ⟨x, hx⟩ : ∃ x, x = (wl L s (0 + 1)).getD i 0 := ⟨_, rfl⟩
                    obtain ⟨g4, hvo4, c0⟩ := own_cell HLI.out hil (v := .int .i64 x) (by rw [hx]; simp [List.getD, List.getElem?_eq_getElem hil])
                    have hxb := (HWB.out (0 + 1)).2 x (by rw [hx]; simp [List.getD, List.getElem?_eq_getElem hil])
                    have HTK : Hid ((wl L s (0 + 1)).take (i + 1) = (wl L s (0 + 1)).take i ++ [x]) := by show _ = _; rw [take_snoc_i _ i hil, ← hx]
                    have hpl : ks.length ≤ 97 * 0 + 1 + i := by
                      rw [HKK.out, List.length_append]
                      have h1 := HPL.out
                      have h2 := List.length_take_le i (wl L s (0 + 1))
                      omega
                    subst hvo4
                    clear hx hil
                    go_wp2_with (first
                      | (at_builtin; refine wpList_append_lies _ (by rfl) (.tmp 53) (.tmp 59) 50 (by rfl) w3.heap.size 5 i0 (.int .u8 0) 1 1 Try.underlying50 hi0 hq0 hq1 hq2 rfl (by omega) _ _ _ (by rfl) (HOI.out.alloc _) ⟨wi.heap.size, 0, none⟩ 1 1 [.int .u8 x] (by rfl) (by rfl) ?c1 ?c2 (by omega) ?c3 ?c5 ?c4 (wi.heap.size + 1) (by simp) ?_))
                    case c1 => exact cell_one_new _ _ _
                    case c2 => intro u hu; simp at hu; subst hu; rfl
                    case c3 => unfold maxLen; omega
                    case c5 => omega
                    case c4 => simp; omega
                    · intro gv cap2 w5 hown2 hgrow _ _
                      have HBN : Hid (Below w3.heap.size w3 w5) := grown_below (hb3i.alloc (by omega) _) (by simp; omega) (HOI.out.alloc _) (Nat.le_refl _) hgrow
                      have HLN : Hid (w5.ownsRow b4 3 1 (.slice (some ⟨g4, 0, none⟩) (wl L s (0 + 1)).length vc4) (wl L s (0 + 1)).length ((wl L s (0 + 1)).map (Value.int .i64))) := own_grown (HLI.out.alloc _) (HOI.out.alloc _) (by decide) hgrow
                      have ho : w5.ownsRow w3.heap.size 5 1 (.slice (some ⟨gv, 0, none⟩) (ks.length + 1) cap2) (ks ++ [x]).length ((ks ++ [x]).map (Value.int .u8)) := by
                        rw [List.length_append, List.map_append]
                        exact hown2
                      have HO2 : Hid _ := ho
                      clear hown2 hgrow ho c0 hpl
                      go_wp2
                      go_roundw
                      case rel => exact ⟨i + 1, ks ++ [x], (by show _ = _; rw [HTK.out, HKK.out, List.append_assoc]), by omega, by go_num, HLN.out, HBN.out, HO2.out⟩
                      case measure => simp [intOf]; omega
                  · have hie : i = N := by omega
                    subst hie
                    have htk : (wl L s (0 + 1)).take i = wl L s (0 + 1) := List.take_of_length_le (by have := HN.out; omega)
                    have ho := HOI.out
                    have hkk := HKK.out
                    rw [htk, HKS.out] at hkk
                    rw [hkk] at ho
                    have HO2 : Hid _ := ho
                    clear ho htk hkk
                    go_wp2
                    go_roundw
                    case rel => exact ⟨0 + 1 + 1, by omega, by omega, by go_num, hb3i, HO2.out⟩
                    case measure => simp [intOf]; omega
              · have HPL : Hid ((keyL L s j ++ [0]).length ≤ 97 * j + 1) := by show _ ≤ _; simp; omega
                have HKS : Hid (keyL L s j ++ [0] ++ wl L s (j + 1) = keyL L s (j + 1 + 1 - 1)) := by
                  show _ = _
                  rw [show j + 1 + 1 - 1 = j + 1 by omega, keyL, if_pos (by omega)]
                go_wp2_with (first
                  | (at_builtin; refine wpList_append_lies _ (by rfl) (.tmp 41) (.tmp 42) 50 (by rfl) w3.heap.size 5 i0 (.int .u8 0) 1 1 Try.underlying50 hi0 hq0 hq1 hq2 rfl (by omega) _ _ _ (by rfl) (HOW.out.alloc _) ⟨wr.heap.size, 0, none⟩ 1 1 [.int .u8 0] (by rfl) (by rfl) ?c1 ?c2 (by omega) ?c3 ?c5 ?c4 (wr.heap.size + 1) (by simp) ?_))
                case c1 => exact cell_one_new _ _ _
                case c2 => intro u hu; simp at hu; subst hu; rfl
                case c3 => unfold maxLen; omega
                case c5 => omega
                case c4 => simp; omega
                · intro gz capz wz hownz hgrowz _ _
                  have HBZ : Hid (Below w3.heap.size w3 wz) := grown_below (hbel.alloc (by omega) _) (by simp; omega) (HOW.out.alloc _) (Nat.le_refl _) hgrowz
                  have hoz : wz.ownsRow w3.heap.size 5 1 (.slice (some ⟨gz, 0, none⟩) ((keyL L s j).length + 1) capz) (keyL L s j ++ [0]).length ((keyL L s j ++ [0]).map (Value.int .u8)) := by
                    rw [List.length_append, List.map_append]
                    exact hownz
                  have HOZ : Hid _ := hoz
                  clear hownz hgrowz hoz
                  go_wp2_with fail
                  refine (weights_own L (nodesN L s) (j + 1) ao ab 0 acap _ (by omega) (by omega) (by omega) ((HNA.out.below (HBZ.out)).mono (HBZ.out).size)).mono ?_
                  rintro e w4 ⟨v4, rfl, hlo0, hb4⟩
                  obtain ⟨b4, hlo⟩ : ∃ b4, w4.ownsRow b4 3 1 v4 (wl L s (j + 1)).length ((wl L s (j + 1)).map (Value.int .i64)) := ⟨_, hlo0⟩
                  clear hlo0
                  obtain ⟨vo4, vc4, hv4⟩ := own_shape hlo
                  subst hv4
                  have HLO : Hid (w4.ownsRow b4 3 1 (.slice vo4 (wl L s (j + 1)).length vc4) (wl L s (j + 1)).length ((wl L s (j + 1)).map (Value.int .i64))) := hlo
                  have hoy := own_of_block HOZ.out (fun b h => hb4.block b (own_lt' HOZ.out h))
                  have HOY : Hid _ := hoy
                  have HBY : Hid (Below w3.heap.size w3 w4) := below_then HBZ.out hb4
                  obtain ⟨N, hN⟩ : ∃ N, N = (wl L s (j + 1)).length := ⟨_, rfl⟩
                  have HN : Hid (N = (wl L s (j + 1)).length) := hN
                  have hN96 : N ≤ 96 := by rw [hN]; exact (HWB.out (j + 1)).1
                  rw [← hN]
                  clear hN hb4 hlo hoy
                  go_wp2
                  go_loopw [11, 14] (fun v iv wi => ∃ (i : Nat) (ks : List Int), Hid (ks = (keyL L s j ++ [0]) ++ (wl L s (j + 1)).take i) ∧ i ≤ N ∧ iv = .int .i64 i ∧ wi.ownsRow b4 3 1 (.slice vo4 (wl L s (j + 1)).length vc4) (wl L s (j + 1)).length ((wl L s (j + 1)).map (Value.int .i64)) ∧ Below w3.heap.size w3 wi ∧ wi.ownsRow w3.heap.size 5 1 v ks.length (ks.map (Value.int .u8))) (fun _ iv _ => N - (intOf iv).toNat)
                  case atStart => exact ⟨0, _, (by show _ = _; rw [List.take_zero, List.append_nil]), Nat.zero_le _, rfl, HLO.out, HBY.out, HOY.out⟩
                  case round =>
                    clear HLO HOY HBY
                    rename World => wi
                    obtain ⟨i, ks, HKK, hi, rfl, hloi, hb3i, hown⟩ := hrel
                    have HLI : Hid (wi.ownsRow b4 3 1 (.slice vo4 (wl L s (j + 1)).length vc4) (wl L s (j + 1)).length ((wl L s (j + 1)).map (Value.int .i64))) := hloi
                    have HOI : Hid (wi.ownsRow w3.heap.size 5 1 _ ks.length (ks.map (Value.int .u8))) := hown
                    clear hown hloi
                    have hzi := hb3i.size
                    by_cases hiN : i < N
                    · have hil : i < (wl L s (j + 1)).length := by have := HN.out; omega
                      obtain ⟨x, hx⟩ : ∃ x, x = (wl L s (j + 1)).getD i 0 := ⟨_, rfl⟩
                      obtain ⟨g4, hvo4, c0⟩ := own_cell HLI.out hil (v := .int .i64 x) (by rw [hx]; simp [List.getD, List.getElem?_eq_getElem hil])
                      have hxb := (HWB.out (j + 1)).2 x (by rw [hx]; simp [List.getD, List.getElem?_eq_getElem hil])
                      have HTK : Hid ((wl L s (j + 1)).take (i + 1) = (wl L s (j + 1)).take i ++ [x]) := by show _ = _; rw [take_snoc_i _ i hil, ← hx]
                      have hpl : ks.length ≤ 97 * j + 1 + i := by
                        rw [HKK.out, List.length_append]
                        have h1 := HPL.out
                        have h2 := List.length_take_le i (wl L s (j + 1))
                        omega
                      subst hvo4
                      clear hx hil
                      go_wp2_with (first
                        | (at_builtin; refine wpList_append_lies _ (by rfl) (.tmp 53) (.tmp 59) 50 (by rfl) w3.heap.size 5 i0 (.int .u8 0) 1 1 Try.underlying50 hi0 hq0 hq1 hq2 rfl (by omega) _ _ _ (by rfl) (HOI.out.alloc _) ⟨wi.heap.size, 0, none⟩ 1 1 [.int .u8 x] (by rfl) (by rfl) ?c1 ?c2 (by omega) ?c3 ?c5 ?c4 (wi.heap.size + 1) (by simp) ?_))
                      case c1 => exact cell_one_new _ _ _
                      case c2 => intro u hu; simp at hu; subst hu; rfl
                      case c3 => unfold maxLen; omega
                      case c5 => omega
                      case c4 => simp; omega
                      · intro gv cap2 w5 hown2 hgrow _ _
                        have HBN : Hid (Below w3.heap.size w3 w5) := grown_below (hb3i.alloc (by omega) _) (by simp; omega) (HOI.out.alloc _) (Nat.le_refl _) hgrow
                        have HLN : Hid (w5.ownsRow b4 3 1 (.slice (some ⟨g4, 0, none⟩) (wl L s (j + 1)).length vc4) (wl L s (j + 1)).length ((wl L s (j + 1)).map (Value.int .i64))) := own_grown (HLI.out.alloc _) (HOI.out.alloc _) (by decide) hgrow
                        have ho : w5.ownsRow w3.heap.size 5 1 (.slice (some ⟨gv, 0, none⟩) (ks.length + 1) cap2) (ks ++ [x]).length ((ks ++ [x]).map (Value.int .u8)) := by
                          rw [List.length_append, List.map_append]
                          exact hown2
                        have HO2 : Hid _ := ho
                        clear hown2 hgrow ho c0 hpl
                        go_wp2
                        go_roundw
                        case rel => exact ⟨i + 1, ks ++ [x], (by show _ = _; rw [HTK.out, HKK.out, List.append_assoc]), by omega, by go_num, HLN.out, HBN.out, HO2.out⟩
                        case measure => simp [intOf]; omega
                    · have hie : i = N := by omega
                      subst hie
                      have htk : (wl L s (j + 1)).take i = wl L s (j + 1) := List.take_of_length_le (by have := HN.out; omega)
                      have ho := HOI.out
                      have hkk := HKK.out
                      rw [htk, HKS.out] at hkk
                      rw [hkk] at ho
                      have HO2 : Hid _ := ho
                      clear ho htk hkk
                      go_wp2
                      go_roundw
                      case rel => exact ⟨j + 1 + 1, by omega, by omega, by go_num, hb3i, HO2.out⟩
                      case measure => simp [intOf]; omega
            · have hke : j = t := by omega
              subst hke
              obtain ⟨vo9, vc9, hv9, hcv⟩ := conv_own HOW.out
              subst hv9
              go_wp2
              go_ret2
              exact ⟨ret_str (keyV_ok HE.out).symm HE.out.symm, below_then HBW.out hbel⟩
        · have HE : Hid (keyE L s lev = 6) := keyE_text he hs hl1 hl3 hp
          go_wp2
          go_ret2
          exact ⟨ret_str (keyV_no (by rw [HE.out]; decide)).symm HE.out.symm, HBW.out⟩
      · have hlv : decide (1 ≤ lev ∧ lev ≤ 3) = false := by simpa using hl
        have HE : Hid (keyE L s lev = 5) := keyE_level he hs (by omega)
        go_enter Try.func33, Try.ntmps33
        go_wp2_with (first
          | (go_at_call 40; refine (tableValid_any L _ (HL.out _ (below_one _))).mono ?_; rintro e w1 ⟨rfl, hb1⟩)
          | (go_at_call 42; refine (isLevel_any _ _).mono ?_; rintro e _ ⟨rfl, rfl⟩))
        go_ret2
        exact ⟨ret_str (keyV_no (by rw [HE.out]; decide)).symm HE.out.symm, below_then (below_one _) hb1⟩
    · have HE : Hid (keyE L s lev = 4) := keyE_long he (by omega)
      go_enter Try.func33, Try.ntmps33
      go_wp2_with (first
        | (go_at_call 40; refine (tableValid_any L _ (HL.out _ (below_one _))).mono ?_; rintro e w1 ⟨rfl, hb1⟩))
      go_ret2
      exact ⟨ret_str (keyV_no (by rw [HE.out]; decide)).symm HE.out.symm, below_then (below_one _) hb1⟩
  · have HE : Hid (keyE L s lev = L.err) := keyE_err he
    go_enter Try.func33, Try.ntmps33
    go_wp2_with (first
      | (go_at_call 40; refine (tableValid_any L _ (HL.out _ (below_one _))).mono ?_; rintro e w1 ⟨rfl, hb1⟩))
    go_ret2
    exact ⟨ret_str (keyV_no (by rw [HE.out]; exact he)).symm HE.out.symm, below_then (below_one _) hb1⟩

set_option maxHeartbeats 400000 in
theorem key_any (L : Lay) (s : ByteArray) (lev : Int) (w : World) (h : L.In w.heap.size w) :
    Calls Try.prog 14 #[.agg #[.slice L.na L.n L.nc, .slice L.ea L.m L.ec], .string s, .int .i64 lev] w fun e w' => e = .returned (.tuple #[.string (keyV L s lev), .int .i64 (keyE L s lev)]) ∧ Below w.heap.size w w' := by
  have HL : Hid (∀ w', Below w.heap.size w w' → L.In w'.heap.size w') := fun w' hb => h.later hb
  clear h
  go_enter Try.func14, Try.ntmps14
  go_wp2_with (go_at_call 33; refine (tableKey_any L _ _ _ (HL.out _ (below_one _))).mono ?_; rintro e w1 ⟨rfl, hb1⟩)
  go_ret2
  exact ⟨rfl, below_then (below_one _) hb1⟩

end Go.Proofs.Ytpclldccjpncdaa
