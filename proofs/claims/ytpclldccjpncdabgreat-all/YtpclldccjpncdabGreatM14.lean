import Derived.Test.YtpclldccjpncdabGreatM13
namespace Go.Proofs.YtpclldccjpncdabGreat
open Go.RowKit

theorem lenAt_stop {m : Nat} {tx : Nat → ByteArray} {s : ByteArray} : ∃ q, Cut m tx s q := by
  have step : ∀ n q, n = s.size - pos m tx s q → (∀ j, j < q → 0 < lenAt m tx s (pos m tx s j)) → ∃ q, Cut m tx s q := by
    intro n
    induction n using Nat.strongRecOn with
    | ind n ih =>
      intro q hn hgo
      by_cases h0 : lenAt m tx s (pos m tx s q) = 0
      · exact ⟨q, hgo, h0⟩
      · have hle := lenAt_le m tx s _ (pos_le m tx s q)
        have hps : pos m tx s (q + 1) = pos m tx s q + lenAt m tx s (pos m tx s q) := rfl
        refine ih (s.size - pos m tx s (q + 1)) (by omega) (q + 1) rfl fun j hj => ?_
        by_cases e : j = q
        · rw [e]; omega
        · exact hgo j (by omega)
  exact step _ 0 rfl (fun j hj => by omega)
/-- of a valid table and a short text: few weights, each 1 to 250 -/
theorem nodesN_wl {L : Lay} (hok : L.Ok) {s : ByteArray} (hs : s.size ≤ 24) : ∀ lv, (wl L s lv).length ≤ 96 ∧ ∀ x ∈ wl L s lv, 1 ≤ x ∧ x ≤ 250 := by
  obtain ⟨q, hq⟩ := lenAt_stop (m := L.m) (tx := L.tx) (s := s)
  have hN := cutN_eq hq
  have h1 := pos_ge q hq.go
  have h2 := pos_le L.m L.tx s q
  have h3 := nums_len hok q hq.go
  have h4 := nums_lt hok q hq.go
  exact wl_bd hok (by unfold nodesN; rw [hN]; omega) (by unfold nodesN; rw [hN]; exact h4)

set_option maxRecDepth 100000 in
set_option maxHeartbeats 2000000 in
theorem tableKey_any (L : Lay) (s : ByteArray) (lev : Int) (w : World) (h : L.In w.heap.size w) :
    Calls Tryz.prog 45 #[.agg #[.slice L.na L.n L.nc, .slice L.ea L.m L.ec], .string s, .int .i64 lev] w fun e w' => e = .returned (.tuple #[.string (keyV L s lev), .int .i64 (keyE L s lev)]) ∧ Below w.heap.size w w' := by
  have HL : Hid (∀ w', Below w.heap.size w w' → L.In w'.heap.size w') := fun w' hb => h.later hb
  clear h
  obtain ⟨i0, hi0, hq0, hq1, hq2⟩ := info_parts infoByte
  by_cases he : L.err = 0
  · by_cases hs : s.size ≤ 24
    · by_cases hl : 1 ≤ lev ∧ lev ≤ 3
      · obtain ⟨hl1, hl3⟩ := hl
        have HOK : Hid L.Ok := err_zero he
        have hlv : decide (1 ≤ lev ∧ lev ≤ 3) = true := by simp [hl1, hl3]
        go_enter Tryz.func45, Tryz.ntmps45
        go_wp2_with (first
          | (go_at_call 36; refine (tableValid_any L _ (HL.out _ (below_one _))).mono ?_; rintro e w1 ⟨rfl, hb1⟩; obtain ⟨hc, hf⟩ := bcell hb1; have hz1 : w.heap.size < w1.heap.size := by have := hb1.size; simp at this; omega)
          | (go_at_call 71; refine (isLevel_any _ _).mono ?_; rintro e _ ⟨rfl, rfl⟩))
        refine (nodesOf_n L s _ (HL.out _ (below_then (below_one _) hb1)) HOK.out hs).mono ?_
        rintro e w3 ⟨hb3, hlen3, hor3⟩
        have HBW : Hid (Below w.heap.size w w3) := below_then (below_then (below_one _) hb1) hb3
        clear hc hf
        rcases hor3 with ⟨hp, ao, acap, ab, rfl, hna⟩ | ⟨hp, rfl⟩
        · have HNA : Hid (NodesL L w3 ao (nodesN L s) ab) := hna
          have HE : Hid (keyE L s lev = 0) := keyE_ok he hs hl1 hl3 hp
          have HWB : Hid (∀ lv, (wl L s lv).length ≤ 96 ∧ ∀ x ∈ wl L s lv, 1 ≤ x ∧ x ≤ 250) := nodesN_wl HOK.out hs
          clear hna hp
          obtain ⟨t, ht⟩ : ∃ t : Nat, lev = t := ⟨lev.toNat, by omega⟩
          subst ht
          go_wp2
          go_loopw [11, 12] (fun v kv wr => ∃ k : Nat, 1 ≤ k ∧ k ≤ t + 1 ∧ kv = .int .i64 (k : Nat) ∧ Below w3.heap.size w3 wr ∧ wr.ownsRow w3.heap.size 5 1 v (keyL L s (k - 1)).length ((keyL L s (k - 1)).map (Value.int .u8))) (fun _ kv _ => t + 1 - (intOf kv).toNat)
          case atStart => exact ⟨1, by omega, by omega, rfl, Below.refl _ _, World.ownsRow_nil _ _ _ _⟩
          case round =>
            rename World => wr
            obtain ⟨k, hk1, hk2, rfl, hbel, hown⟩ := hrel
            obtain ⟨j, hj⟩ : ∃ j, k = j + 1 := ⟨k - 1, by omega⟩
            subst hj
            rw [show j + 1 - 1 = j by omega] at hown
            have HOW : Hid (wr.ownsRow w3.heap.size 5 1 _ (keyL L s j).length ((keyL L s j).map (Value.int .u8))) := hown
            clear hown
            have hsz := hbel.size
            have hkl := keyL_len (fun lv => (HWB.out lv).1) (s := s) (L := L) j
            by_cases hkt : j + 1 ≤ t
            · by_cases hj0 : j = 0
              · subst hj0
                have HPL : Hid ((keyL L s 0).length ≤ 97 * 0 + 1) := by show _ ≤ _; simp [keyL]
                have HKS : Hid (keyL L s 0 ++ wl L s (0 + 1) = keyL L s (0 + 1 + 1 - 1)) := by show keyL L s 0 ++ wl L s (0 + 1) = keyL L s 0 ++ (if 1 ≤ 0 then [0] else []) ++ wl L s (0 + 1); simp
                have HOZ : Hid (wr.ownsRow w3.heap.size 5 1 _ (keyL L s 0).length ((keyL L s 0).map (Value.int .u8))) := HOW.out
                have HBZ : Hid (Below w3.heap.size w3 wr) := hbel
                go_wp2_with fail
                refine (weights_own L (nodesN L s) (0 + 1) ao ab 0 acap _ (by omega) (by omega) (by omega) ((HNA.out.below (HBZ.out)).mono (HBZ.out).size)).mono ?_
                rintro e w4 ⟨v4, rfl, hlo0, hb4⟩
                obtain ⟨b4, hlo⟩ : ∃ b4, w4.ownsRow b4 3 1 v4 (wl L s (0 + 1)).length ((wl L s (0 + 1)).map (Value.int .i64)) := ⟨_, hlo0⟩
                clear hlo0
                obtain ⟨vo4, vc4, hv4⟩ := own_shape hlo
                subst hv4
                have HLO : Hid (w4.ownsRow b4 3 1 (.slice vo4 (wl L s (0 + 1)).length vc4) (wl L s (0 + 1)).length ((wl L s (0 + 1)).map (Value.int .i64))) := hlo
                have hoy := own_of_block HOZ.out (fun b h => hb4.block b (own_lt' HOZ.out h))
                have HOY : Hid _ := hoy
                have HBY : Hid (Below w3.heap.size w3 w4) := below_then HBZ.out hb4
                obtain ⟨N, hN⟩ : ∃ N, N = (wl L s (0 + 1)).length := ⟨_, rfl⟩
                have HN : Hid (N = (wl L s (0 + 1)).length) := hN
                have hN96 : N ≤ 96 := by rw [hN]; exact (HWB.out (0 + 1)).1
                rw [← hN]
                clear hN hb4 hlo hoy
                go_wp2
                go_loopw [11, 14] (fun v iv wi => ∃ (i : Nat) (ks : List Int), Hid (ks = keyL L s 0 ++ (wl L s (0 + 1)).take i) ∧ i ≤ N ∧ iv = .int .i64 i ∧ wi.ownsRow b4 3 1 (.slice vo4 (wl L s (0 + 1)).length vc4) (wl L s (0 + 1)).length ((wl L s (0 + 1)).map (Value.int .i64)) ∧ Below w3.heap.size w3 wi ∧ wi.ownsRow w3.heap.size 5 1 v ks.length (ks.map (Value.int .u8))) (fun _ iv _ => N - (intOf iv).toNat)
                case atStart => exact ⟨0, _, (by show _ = _; rw [List.take_zero, List.append_nil]), Nat.zero_le _, rfl, HLO.out, HBY.out, HOY.out⟩
                case round =>
                  clear HLO HOY HBY
                  rename World => wi
                  obtain ⟨i, ks, HKK, hi, rfl, hloi, hb3i, hown⟩ := hrel
                  have HLI : Hid (wi.ownsRow b4 3 1 (.slice vo4 (wl L s (0 + 1)).length vc4) (wl L s (0 + 1)).length ((wl L s (0 + 1)).map (Value.int .i64))) := hloi
                  have HOI : Hid (wi.ownsRow w3.heap.size 5 1 _ ks.length (ks.map (Value.int .u8))) := hown
                  clear hown hloi
                  have hzi := hb3i.size
                  by_cases hiN : i < N
                  · have hil : i < (wl L s (0 + 1)).length := by have := HN.out; omega
                    obtain ⟨x, hx⟩ : ∃ x, x = (wl L s (0 + 1)).getD i 0 := ⟨_, rfl⟩
                    obtain ⟨g4, hvo4, c0⟩ := own_cell HLI.out hil (v := .int .i64 x) (by rw [hx]; simp [List.getD, List.getElem?_eq_getElem hil])
                    have hxb := (HWB.out (0 + 1)).2 x (by rw [hx]; simp [List.getD, List.getElem?_eq_getElem hil])
                    have HTK : Hid ((wl L s (0 + 1)).take (i + 1) = (wl L s (0 + 1)).take i ++ [x]) := by show _ = _; rw [take_snoc_i _ i hil, ← hx]
                    have hpl : ks.length ≤ 97 * 0 + 1 + i := by
                      rw [HKK.out, List.length_append]
                      have h1 := HPL.out
                      have h2 := List.length_take_le i (wl L s (0 + 1))
                      omega
                    subst hvo4
                    clear hx hil
                    go_wp2_with (first
                      | (at_builtin; refine wpList_append_lies _ (by rfl) (.tmp 53) (.tmp 59) 73 (by rfl) w3.heap.size 5 i0 (.int .u8 0) 1 1 Tryz.underlying73 hi0 hq0 hq1 hq2 rfl (by omega) _ _ _ (by rfl) (HOI.out.alloc _) ⟨wi.heap.size, 0, none⟩ 1 1 [.int .u8 x] (by rfl) (by rfl) ?c1 ?c2 (by omega) ?c3 ?c5 ?c4 (wi.heap.size + 1) (by simp) ?_))
                    case c1 => exact cell_one_new _ _ _
                    case c2 => intro u hu; simp at hu; subst hu; rfl
                    case c3 => unfold maxLen; omega
                    case c5 => omega
                    case c4 => simp; omega
                    · intro gv cap2 w5 hown2 hgrow _ _
                      have HBN : Hid (Below w3.heap.size w3 w5) := grown_below (hb3i.alloc (by omega) _) (by simp; omega) (HOI.out.alloc _) (Nat.le_refl _) hgrow
                      have HLN : Hid (w5.ownsRow b4 3 1 (.slice (some ⟨g4, 0, none⟩) (wl L s (0 + 1)).length vc4) (wl L s (0 + 1)).length ((wl L s (0 + 1)).map (Value.int .i64))) := own_grown (HLI.out.alloc _) (HOI.out.alloc _) (by decide) hgrow
                      have ho : w5.ownsRow w3.heap.size 5 1 (.slice (some ⟨gv, 0, none⟩) (ks.length + 1) cap2) (ks ++ [x]).length ((ks ++ [x]).map (Value.int .u8)) := by
                        rw [List.length_append, List.map_append]
                        exact hown2
                      have HO2 : Hid _ := ho
                      clear hown2 hgrow ho c0 hpl
                      go_wp2
                      go_roundw
                      case rel => exact ⟨i + 1, ks ++ [x], (by show _ = _; rw [HTK.out, HKK.out, List.append_assoc]), by omega, by go_num, HLN.out, HBN.out, HO2.out⟩
                      case measure => simp [intOf]; omega
                  · have hie : i = N := by omega
                    subst hie
                    have htk : (wl L s (0 + 1)).take i = wl L s (0 + 1) := List.take_of_length_le (by have := HN.out; omega)
                    have ho := HOI.out
                    have hkk := HKK.out
                    rw [htk, HKS.out] at hkk
                    rw [hkk] at ho
                    have HO2 : Hid _ := ho
                    clear ho htk hkk
                    go_wp2
                    go_roundw
                    case rel => exact ⟨0 + 1 + 1, by omega, by omega, by go_num, hb3i, HO2.out⟩
                    case measure => simp [intOf]; omega
              · have HPL : Hid ((keyL L s j ++ [0]).length ≤ 97 * j + 1) := by show _ ≤ _; simp; omega
                have HKS : Hid (keyL L s j ++ [0] ++ wl L s (j + 1) = keyL L s (j + 1 + 1 - 1)) := by
                  show _ = _
                  rw [show j + 1 + 1 - 1 = j + 1 by omega, keyL, if_pos (by omega)]
                go_wp2_with (first
                  | (at_builtin; refine wpList_append_lies _ (by rfl) (.tmp 41) (.tmp 42) 73 (by rfl) w3.heap.size 5 i0 (.int .u8 0) 1 1 Tryz.underlying73 hi0 hq0 hq1 hq2 rfl (by omega) _ _ _ (by rfl) (HOW.out.alloc _) ⟨wr.heap.size, 0, none⟩ 1 1 [.int .u8 0] (by rfl) (by rfl) ?c1 ?c2 (by omega) ?c3 ?c5 ?c4 (wr.heap.size + 1) (by simp) ?_))
                case c1 => exact cell_one_new _ _ _
                case c2 => intro u hu; simp at hu; subst hu; rfl
                case c3 => unfold maxLen; omega
                case c5 => omega
                case c4 => simp; omega
                · intro gz capz wz hownz hgrowz _ _
                  have HBZ : Hid (Below w3.heap.size w3 wz) := grown_below (hbel.alloc (by omega) _) (by simp; omega) (HOW.out.alloc _) (Nat.le_refl _) hgrowz
                  have hoz : wz.ownsRow w3.heap.size 5 1 (.slice (some ⟨gz, 0, none⟩) ((keyL L s j).length + 1) capz) (keyL L s j ++ [0]).length ((keyL L s j ++ [0]).map (Value.int .u8)) := by
                    rw [List.length_append, List.map_append]
                    exact hownz
                  have HOZ : Hid _ := hoz
                  clear hownz hgrowz hoz
                  go_wp2_with fail
                  refine (weights_own L (nodesN L s) (j + 1) ao ab 0 acap _ (by omega) (by omega) (by omega) ((HNA.out.below (HBZ.out)).mono (HBZ.out).size)).mono ?_
                  rintro e w4 ⟨v4, rfl, hlo0, hb4⟩
                  obtain ⟨b4, hlo⟩ : ∃ b4, w4.ownsRow b4 3 1 v4 (wl L s (j + 1)).length ((wl L s (j + 1)).map (Value.int .i64)) := ⟨_, hlo0⟩
                  clear hlo0
                  obtain ⟨vo4, vc4, hv4⟩ := own_shape hlo
                  subst hv4
                  have HLO : Hid (w4.ownsRow b4 3 1 (.slice vo4 (wl L s (j + 1)).length vc4) (wl L s (j + 1)).length ((wl L s (j + 1)).map (Value.int .i64))) := hlo
                  have hoy := own_of_block HOZ.out (fun b h => hb4.block b (own_lt' HOZ.out h))
                  have HOY : Hid _ := hoy
                  have HBY : Hid (Below w3.heap.size w3 w4) := below_then HBZ.out hb4
                  obtain ⟨N, hN⟩ : ∃ N, N = (wl L s (j + 1)).length := ⟨_, rfl⟩
                  have HN : Hid (N = (wl L s (j + 1)).length) := hN
                  have hN96 : N ≤ 96 := by rw [hN]; exact (HWB.out (j + 1)).1
                  rw [← hN]
                  clear hN hb4 hlo hoy
                  go_wp2
                  go_loopw [11, 14] (fun v iv wi => ∃ (i : Nat) (ks : List Int), Hid (ks = (keyL L s j ++ [0]) ++ (wl L s (j + 1)).take i) ∧ i ≤ N ∧ iv = .int .i64 i ∧ wi.ownsRow b4 3 1 (.slice vo4 (wl L s (j + 1)).length vc4) (wl L s (j + 1)).length ((wl L s (j + 1)).map (Value.int .i64)) ∧ Below w3.heap.size w3 wi ∧ wi.ownsRow w3.heap.size 5 1 v ks.length (ks.map (Value.int .u8))) (fun _ iv _ => N - (intOf iv).toNat)
                  case atStart => exact ⟨0, _, (by show _ = _; rw [List.take_zero, List.append_nil]), Nat.zero_le _, rfl, HLO.out, HBY.out, HOY.out⟩
                  case round =>
                    clear HLO HOY HBY
                    rename World => wi
                    obtain ⟨i, ks, HKK, hi, rfl, hloi, hb3i, hown⟩ := hrel
                    have HLI : Hid (wi.ownsRow b4 3 1 (.slice vo4 (wl L s (j + 1)).length vc4) (wl L s (j + 1)).length ((wl L s (j + 1)).map (Value.int .i64))) := hloi
                    have HOI : Hid (wi.ownsRow w3.heap.size 5 1 _ ks.length (ks.map (Value.int .u8))) := hown
                    clear hown hloi
                    have hzi := hb3i.size
                    by_cases hiN : i < N
                    · have hil : i < (wl L s (j + 1)).length := by have := HN.out; omega
                      obtain ⟨x, hx⟩ : ∃ x, x = (wl L s (j + 1)).getD i 0 := ⟨_, rfl⟩
                      obtain ⟨g4, hvo4, c0⟩ := own_cell HLI.out hil (v := .int .i64 x) (by rw [hx]; simp [List.getD, List.getElem?_eq_getElem hil])
                      have hxb := (HWB.out (j + 1)).2 x (by rw [hx]; simp [List.getD, List.getElem?_eq_getElem hil])
                      have HTK : Hid ((wl L s (j + 1)).take (i + 1) = (wl L s (j + 1)).take i ++ [x]) := by show _ = _; rw [take_snoc_i _ i hil, ← hx]
                      have hpl : ks.length ≤ 97 * j + 1 + i := by
                        rw [HKK.out, List.length_append]
                        have h1 := HPL.out
                        have h2 := List.length_take_le i (wl L s (j + 1))
                        omega
                      subst hvo4
                      clear hx hil
                      go_wp2_with (first
                        | (at_builtin; refine wpList_append_lies _ (by rfl) (.tmp 53) (.tmp 59) 73 (by rfl) w3.heap.size 5 i0 (.int .u8 0) 1 1 Tryz.underlying73 hi0 hq0 hq1 hq2 rfl (by omega) _ _ _ (by rfl) (HOI.out.alloc _) ⟨wi.heap.size, 0, none⟩ 1 1 [.int .u8 x] (by rfl) (by rfl) ?c1 ?c2 (by omega) ?c3 ?c5 ?c4 (wi.heap.size + 1) (by simp) ?_))
                      case c1 => exact cell_one_new _ _ _
                      case c2 => intro u hu; simp at hu; subst hu; rfl
                      case c3 => unfold maxLen; omega
                      case c5 => omega
                      case c4 => simp; omega
                      · intro gv cap2 w5 hown2 hgrow _ _
                        have HBN : Hid (Below w3.heap.size w3 w5) := grown_below (hb3i.alloc (by omega) _) (by simp; omega) (HOI.out.alloc _) (Nat.le_refl _) hgrow
                        have HLN : Hid (w5.ownsRow b4 3 1 (.slice (some ⟨g4, 0, none⟩) (wl L s (j + 1)).length vc4) (wl L s (j + 1)).length ((wl L s (j + 1)).map (Value.int .i64))) := own_grown (HLI.out.alloc _) (HOI.out.alloc _) (by decide) hgrow
                        have ho : w5.ownsRow w3.heap.size 5 1 (.slice (some ⟨gv, 0, none⟩) (ks.length + 1) cap2) (ks ++ [x]).length ((ks ++ [x]).map (Value.int .u8)) := by
                          rw [List.length_append, List.map_append]
                          exact hown2
                        have HO2 : Hid _ := ho
                        clear hown2 hgrow ho c0 hpl
                        go_wp2
                        go_roundw
                        case rel => exact ⟨i + 1, ks ++ [x], (by show _ = _; rw [HTK.out, HKK.out, List.append_assoc]), by omega, by go_num, HLN.out, HBN.out, HO2.out⟩
                        case measure => simp [intOf]; omega
                    · have hie : i = N := by omega
                      subst hie
                      have htk : (wl L s (j + 1)).take i = wl L s (j + 1) := List.take_of_length_le (by have := HN.out; omega)
                      have ho := HOI.out
                      have hkk := HKK.out
                      rw [htk, HKS.out] at hkk
                      rw [hkk] at ho
                      have HO2 : Hid _ := ho
                      clear ho htk hkk
                      go_wp2
                      go_roundw
                      case rel => exact ⟨j + 1 + 1, by omega, by omega, by go_num, hb3i, HO2.out⟩
                      case measure => simp [intOf]; omega
            · have hke : j = t := by omega
              subst hke
              obtain ⟨vo9, vc9, hv9, hcv⟩ := conv_own HOW.out
              subst hv9
              go_wp2
              go_ret2
              exact ⟨ret_str (keyV_ok HE.out).symm HE.out.symm, below_then HBW.out hbel⟩
        · have HE : Hid (keyE L s lev = 6) := keyE_text he hs hl1 hl3 hp
          go_wp2
          go_ret2
          exact ⟨ret_str (keyV_no (by rw [HE.out]; decide)).symm HE.out.symm, HBW.out⟩
      · have hlv : decide (1 ≤ lev ∧ lev ≤ 3) = false := by simpa using hl
        have HE : Hid (keyE L s lev = 5) := keyE_level he hs (by omega)
        go_enter Tryz.func45, Tryz.ntmps45
        go_wp2_with (first
          | (go_at_call 36; refine (tableValid_any L _ (HL.out _ (below_one _))).mono ?_; rintro e w1 ⟨rfl, hb1⟩)
          | (go_at_call 71; refine (isLevel_any _ _).mono ?_; rintro e _ ⟨rfl, rfl⟩))
        go_ret2
        exact ⟨ret_str (keyV_no (by rw [HE.out]; decide)).symm HE.out.symm, below_then (below_one _) hb1⟩
    · have HE : Hid (keyE L s lev = 4) := keyE_long he (by omega)
      go_enter Tryz.func45, Tryz.ntmps45
      go_wp2_with (first
        | (go_at_call 36; refine (tableValid_any L _ (HL.out _ (below_one _))).mono ?_; rintro e w1 ⟨rfl, hb1⟩))
      go_ret2
      exact ⟨ret_str (keyV_no (by rw [HE.out]; decide)).symm HE.out.symm, below_then (below_one _) hb1⟩
  · have HE : Hid (keyE L s lev = L.err) := keyE_err he
    go_enter Tryz.func45, Tryz.ntmps45
    go_wp2_with (first
      | (go_at_call 36; refine (tableValid_any L _ (HL.out _ (below_one _))).mono ?_; rintro e w1 ⟨rfl, hb1⟩))
    go_ret2
    exact ⟨ret_str (keyV_no (by rw [HE.out]; exact he)).symm HE.out.symm, below_then (below_one _) hb1⟩

set_option maxHeartbeats 400000 in
theorem key_any (L : Lay) (s : ByteArray) (lev : Int) (w : World) (h : L.In w.heap.size w) :
    Calls Tryz.prog 20 #[.agg #[.slice L.na L.n L.nc, .slice L.ea L.m L.ec], .string s, .int .i64 lev] w fun e w' => e = .returned (.tuple #[.string (keyV L s lev), .int .i64 (keyE L s lev)]) ∧ Below w.heap.size w w' := by
  have HL : Hid (∀ w', Below w.heap.size w w' → L.In w'.heap.size w') := fun w' hb => h.later hb
  clear h
  go_enter Tryz.func20, Tryz.ntmps20
  go_wp2_with (go_at_call 45; refine (tableKey_any L _ _ _ (HL.out _ (below_one _))).mono ?_; rintro e w1 ⟨rfl, hb1⟩)
  go_ret2
  exact ⟨rfl, below_then (below_one _) hb1⟩

end Go.Proofs.YtpclldccjpncdabGreat

namespace Go.Proofs.YtpclldccjpncdabGreat
open Go.RowKit

theorem strs_one (w : World) (a : ByteArray) (t : TypeId) : StrsIn (w.alloc (.cells #[.string a] t)).heap.size (w.alloc (.cells #[.string a] t)) (some ⟨w.heap.size, 0, none⟩) 1 w.heap.size 0 (fun _ => a) := by
  have hr : (w.alloc (.cells #[.string a] t)).rowIs w.heap.size t 1 (fun i => #[Value.string a].getD i undef) := row_new w _ t 1 rfl
  refine ⟨fun _ => rfl, fun _ => hr.lt, fun i hi => ?_, by omega⟩
  match i, hi with
  | 0, _ => exact hr.cell (i := 0) (by omega)

set_option maxRecDepth 100000 in
set_option maxHeartbeats 2000000 in
theorem refKey_any (L : Lay) (s : ByteArray) (lev : Int) (w : World) (h : L.In w.heap.size w) :
    Calls Tryz.prog 21 #[.agg #[.slice L.na L.n L.nc, .slice L.ea L.m L.ec], .string s, .int .i64 lev] w fun e w' => e = .returned (.tuple #[.string (keyV L s lev), .int .i64 (keyE L s lev)]) ∧ Below w.heap.size w w' := by
  have HL : Hid (∀ w', Below w.heap.size w w' → L.In w'.heap.size w') := fun w' hb => h.later hb
  clear h
  obtain ⟨i0, hi0, hq0, hq1, hq2⟩ := info_parts infoByte
  by_cases hE : keyE L s lev = 0
  · obtain ⟨he, hs, hl1, hl3, hp⟩ := keyE_zero hE
    have HOK : Hid L.Ok := err_zero he
    have HE : Hid (keyE L s lev = 0) := hE
    have HP : Hid (hasP L s) := hp
    have HM : Hid (mayE L 1 (fun _ => s) lev = 0) := hE
    have HWB : Hid (∀ lv, (wl L s lv).length ≤ 96 ∧ ∀ x ∈ wl L s lv, 1 ≤ x ∧ x ≤ 250) := nodesN_wl HOK.out hs
    clear hE hp he
    obtain ⟨t, ht⟩ : ∃ t : Nat, lev = t := ⟨lev.toNat, by omega⟩
    subst ht
    go_enter Tryz.func21, Tryz.ntmps21
    go_wp2_with (first
      | (go_at_call 42; refine (refMay_any L 1 (fun _ => s) _ _ _ _ _ (HL.out _ (below_then (below_one _) (below_one _))) (by simpa using strs_one (w.alloc (.cells #[.slice L.na L.n L.nc, .slice L.ea L.m L.ec] 28)) s 9)).mono ?_; rintro e w3 ⟨rfl, hb1⟩; rw [HM.out]; obtain ⟨hc, hf⟩ := bcell hb1; have hz1 : w.heap.size + 1 < w3.heap.size := by have := hb1.size; simp at this; omega))
    have HBW : Hid (Below w.heap.size w w3) := below_then (below_then (below_one _) (below_one _)) hb1
    have c0' : w3.cell? ⟨w.heap.size, 0, none⟩ = some (.slice L.na L.n L.nc) := by rw [hc w.heap.size 0 (by simp; omega)]; go_simp
    have c1' : w3.cell? ⟨w.heap.size, 1, none⟩ = some (.slice L.ea L.m L.ec) := by rw [hc w.heap.size 1 (by simp; omega)]; go_simp
    clear hc hf hb1
    go_loopw [9, 10] (fun v kv wr => ∃ k : Nat, 1 ≤ k ∧ k ≤ t + 1 ∧ kv = .int .i64 (k : Nat) ∧ Below w3.heap.size w3 wr ∧ wr.ownsRow w3.heap.size 5 1 v (keyL L s (k - 1)).length ((keyL L s (k - 1)).map (Value.int .u8))) (fun _ kv _ => t + 1 - (intOf kv).toNat)
    case atStart => exact ⟨1, by omega, by omega, rfl, Below.refl _ _, World.ownsRow_nil _ _ _ _⟩
    case round =>
      rename World => wr
      obtain ⟨k, hk1, hk2, rfl, hbel, hown⟩ := hrel
      obtain ⟨j, hj⟩ : ∃ j, k = j + 1 := ⟨k - 1, by omega⟩
      subst hj
      rw [show j + 1 - 1 = j by omega] at hown
      have HOW : Hid (wr.ownsRow w3.heap.size 5 1 _ (keyL L s j).length ((keyL L s j).map (Value.int .u8))) := hown
      clear hown
      have hsz := hbel.size
      have hkl := keyL_len (fun lv => (HWB.out lv).1) (s := s) (L := L) j
      by_cases hkt : j + 1 ≤ t
      · by_cases hj0 : j = 0
        · subst hj0
          have HPL : Hid ((keyL L s 0).length ≤ 97 * 0 + 1) := by show _ ≤ _; simp [keyL]
          have HKS : Hid (keyL L s 0 ++ wl L s (0 + 1) = keyL L s (0 + 1 + 1 - 1)) := by show keyL L s 0 ++ wl L s (0 + 1) = keyL L s 0 ++ (if 1 ≤ 0 then [0] else []) ++ wl L s (0 + 1); simp
          have HOZ : Hid (wr.ownsRow w3.heap.size 5 1 _ (keyL L s 0).length ((keyL L s 0).map (Value.int .u8))) := HOW.out
          have HBZ : Hid (Below w3.heap.size w3 wr) := hbel
          have d0 := cellTo (hbel) c0' (by show w.heap.size < _; omega)
          have d1 := cellTo (hbel) c1' (by show w.heap.size < _; omega)
          go_wp2_with fail
          refine (refLevel_own L s (0 + 1) _ (HL.out _ (below_then HBW.out (HBZ.out))) HOK.out hs HP.out (by omega) (by omega)).mono ?_
          rintro e w4 ⟨v4, b4, _, rfl, hlo, hb4⟩
          obtain ⟨vo4, vc4, hv4⟩ := own_shape hlo
          subst hv4
          have HLO : Hid (w4.ownsRow b4 3 1 (.slice vo4 (wl L s (0 + 1)).length vc4) (wl L s (0 + 1)).length ((wl L s (0 + 1)).map (Value.int .i64))) := hlo
          have hoy := own_of_block HOZ.out (fun b h => hb4.block b (own_lt' HOZ.out h))
          have HOY : Hid _ := hoy
          have HBY : Hid (Below w3.heap.size w3 w4) := below_then HBZ.out hb4
          obtain ⟨N, hN⟩ : ∃ N, N = (wl L s (0 + 1)).length := ⟨_, rfl⟩
          have HN : Hid (N = (wl L s (0 + 1)).length) := hN
          have hN96 : N ≤ 96 := by rw [hN]; exact (HWB.out (0 + 1)).1
          rw [← hN]
          clear hN hb4 hlo hoy
          go_wp2
          go_loopw [9, 12] (fun v iv wi => ∃ (i : Nat) (ks : List Int), Hid (ks = keyL L s 0 ++ (wl L s (0 + 1)).take i) ∧ i ≤ N ∧ iv = .int .i64 i ∧ wi.ownsRow b4 3 1 (.slice vo4 (wl L s (0 + 1)).length vc4) (wl L s (0 + 1)).length ((wl L s (0 + 1)).map (Value.int .i64)) ∧ Below w3.heap.size w3 wi ∧ wi.ownsRow w3.heap.size 5 1 v ks.length (ks.map (Value.int .u8))) (fun _ iv _ => N - (intOf iv).toNat)
          case atStart => exact ⟨0, _, (by show _ = _; rw [List.take_zero, List.append_nil]), Nat.zero_le _, rfl, HLO.out, HBY.out, HOY.out⟩
          case round =>
            clear HLO HOY HBY
            rename World => wi
            obtain ⟨i, ks, HKK, hi, rfl, hloi, hb3i, hown⟩ := hrel
            have HLI : Hid (wi.ownsRow b4 3 1 (.slice vo4 (wl L s (0 + 1)).length vc4) (wl L s (0 + 1)).length ((wl L s (0 + 1)).map (Value.int .i64))) := hloi
            have HOI : Hid (wi.ownsRow w3.heap.size 5 1 _ ks.length (ks.map (Value.int .u8))) := hown
            clear hown hloi
            have hzi := hb3i.size
            by_cases hiN : i < N
            · have hil : i < (wl L s (0 + 1)).length := by have := HN.out; omega
              obtain ⟨x, hx⟩ : ∃ x, x = (wl L s (0 + 1)).getD i 0 := ⟨_, rfl⟩
              obtain ⟨g4, hvo4, c0⟩ := own_cell HLI.out hil (v := .int .i64 x) (by rw [hx]; simp [List.getD, List.getElem?_eq_getElem hil])
              have hxb := (HWB.out (0 + 1)).2 x (by rw [hx]; simp [List.getD, List.getElem?_eq_getElem hil])
              have HTK : Hid ((wl L s (0 + 1)).take (i + 1) = (wl L s (0 + 1)).take i ++ [x]) := by show _ = _; rw [take_snoc_i _ i hil, ← hx]
              have hpl : ks.length ≤ 97 * 0 + 1 + i := by
                rw [HKK.out, List.length_append]
                have h1 := HPL.out
                have h2 := List.length_take_le i (wl L s (0 + 1))
                omega
              subst hvo4
              clear hx hil
              go_wp2_with (first
                | (at_builtin; refine wpList_append_lies _ (by rfl) (.tmp 41) (.tmp 47) 73 (by rfl) w3.heap.size 5 i0 (.int .u8 0) 1 1 Tryz.underlying73 hi0 hq0 hq1 hq2 rfl (by omega) _ _ _ (by rfl) (HOI.out.alloc _) ⟨wi.heap.size, 0, none⟩ 1 1 [.int .u8 x] (by rfl) (by rfl) ?c1 ?c2 (by omega) ?c3 ?c5 ?c4 (wi.heap.size + 1) (by simp) ?_))
              case c1 => exact cell_one_new _ _ _
              case c2 => intro u hu; simp at hu; subst hu; rfl
              case c3 => unfold maxLen; omega
              case c5 => omega
              case c4 => simp; omega
              · intro gv cap2 w5 hown2 hgrow _ _
                have HBN : Hid (Below w3.heap.size w3 w5) := grown_below (hb3i.alloc (by omega) _) (by simp; omega) (HOI.out.alloc _) (Nat.le_refl _) hgrow
                have HLN : Hid (w5.ownsRow b4 3 1 (.slice (some ⟨g4, 0, none⟩) (wl L s (0 + 1)).length vc4) (wl L s (0 + 1)).length ((wl L s (0 + 1)).map (Value.int .i64))) := own_grown (HLI.out.alloc _) (HOI.out.alloc _) (by decide) hgrow
                have ho : w5.ownsRow w3.heap.size 5 1 (.slice (some ⟨gv, 0, none⟩) (ks.length + 1) cap2) (ks ++ [x]).length ((ks ++ [x]).map (Value.int .u8)) := by
                  rw [List.length_append, List.map_append]
                  exact hown2
                have HO2 : Hid _ := ho
                clear hown2 hgrow ho c0 hpl
                go_wp2
                go_roundw
                case rel => exact ⟨i + 1, ks ++ [x], (by show _ = _; rw [HTK.out, HKK.out, List.append_assoc]), by omega, by go_num, HLN.out, HBN.out, HO2.out⟩
                case measure => simp [intOf]; omega
            · have hie : i = N := by omega
              subst hie
              have htk : (wl L s (0 + 1)).take i = wl L s (0 + 1) := List.take_of_length_le (by have := HN.out; omega)
              have ho := HOI.out
              have hkk := HKK.out
              rw [htk, HKS.out] at hkk
              rw [hkk] at ho
              have HO2 : Hid _ := ho
              clear ho htk hkk
              go_wp2
              go_roundw
              case rel => exact ⟨0 + 1 + 1, by omega, by omega, by go_num, hb3i, HO2.out⟩
              case measure => simp [intOf]; omega
        · have HPL : Hid ((keyL L s j ++ [0]).length ≤ 97 * j + 1) := by show _ ≤ _; simp; omega
          have HKS : Hid (keyL L s j ++ [0] ++ wl L s (j + 1) = keyL L s (j + 1 + 1 - 1)) := by
            show _ = _
            rw [show j + 1 + 1 - 1 = j + 1 by omega, keyL, if_pos (by omega)]
          have d0 := cellTo (hbel) c0' (by show w.heap.size < _; omega)
          have d1 := cellTo (hbel) c1' (by show w.heap.size < _; omega)
          go_wp2_with (first
            | (at_builtin; refine wpList_append_lies _ (by rfl) (.tmp 28) (.tmp 29) 73 (by rfl) w3.heap.size 5 i0 (.int .u8 0) 1 1 Tryz.underlying73 hi0 hq0 hq1 hq2 rfl (by omega) _ _ _ (by rfl) (HOW.out.alloc _) ⟨wr.heap.size, 0, none⟩ 1 1 [.int .u8 0] (by rfl) (by rfl) ?c1 ?c2 (by omega) ?c3 ?c5 ?c4 (wr.heap.size + 1) (by simp) ?_))
          case c1 => exact cell_one_new _ _ _
          case c2 => intro u hu; simp at hu; subst hu; rfl
          case c3 => unfold maxLen; omega
          case c5 => omega
          case c4 => simp; omega
          · intro gz capz wz hownz hgrowz _ _
            have HBZ : Hid (Below w3.heap.size w3 wz) := grown_below (hbel.alloc (by omega) _) (by simp; omega) (HOW.out.alloc _) (Nat.le_refl _) hgrowz
            have hoz : wz.ownsRow w3.heap.size 5 1 (.slice (some ⟨gz, 0, none⟩) ((keyL L s j).length + 1) capz) (keyL L s j ++ [0]).length ((keyL L s j ++ [0]).map (Value.int .u8)) := by
              rw [List.length_append, List.map_append]
              exact hownz
            have HOZ : Hid _ := hoz
            clear hownz hgrowz hoz
            have d0 := cellTo (HBZ.out) c0' (by show w.heap.size < _; omega)
            have d1 := cellTo (HBZ.out) c1' (by show w.heap.size < _; omega)
            go_wp2_with fail
            refine (refLevel_own L s (j + 1) _ (HL.out _ (below_then HBW.out (HBZ.out))) HOK.out hs HP.out (by omega) (by omega)).mono ?_
            rintro e w4 ⟨v4, b4, _, rfl, hlo, hb4⟩
            obtain ⟨vo4, vc4, hv4⟩ := own_shape hlo
            subst hv4
            have HLO : Hid (w4.ownsRow b4 3 1 (.slice vo4 (wl L s (j + 1)).length vc4) (wl L s (j + 1)).length ((wl L s (j + 1)).map (Value.int .i64))) := hlo
            have hoy := own_of_block HOZ.out (fun b h => hb4.block b (own_lt' HOZ.out h))
            have HOY : Hid _ := hoy
            have HBY : Hid (Below w3.heap.size w3 w4) := below_then HBZ.out hb4
            obtain ⟨N, hN⟩ : ∃ N, N = (wl L s (j + 1)).length := ⟨_, rfl⟩
            have HN : Hid (N = (wl L s (j + 1)).length) := hN
            have hN96 : N ≤ 96 := by rw [hN]; exact (HWB.out (j + 1)).1
            rw [← hN]
            clear hN hb4 hlo hoy
            go_wp2
            go_loopw [9, 12] (fun v iv wi => ∃ (i : Nat) (ks : List Int), Hid (ks = (keyL L s j ++ [0]) ++ (wl L s (j + 1)).take i) ∧ i ≤ N ∧ iv = .int .i64 i ∧ wi.ownsRow b4 3 1 (.slice vo4 (wl L s (j + 1)).length vc4) (wl L s (j + 1)).length ((wl L s (j + 1)).map (Value.int .i64)) ∧ Below w3.heap.size w3 wi ∧ wi.ownsRow w3.heap.size 5 1 v ks.length (ks.map (Value.int .u8))) (fun _ iv _ => N - (intOf iv).toNat)
            case atStart => exact ⟨0, _, (by show _ = _; rw [List.take_zero, List.append_nil]), Nat.zero_le _, rfl, HLO.out, HBY.out, HOY.out⟩
            case round =>
              clear HLO HOY HBY
              rename World => wi
              obtain ⟨i, ks, HKK, hi, rfl, hloi, hb3i, hown⟩ := hrel
              have HLI : Hid (wi.ownsRow b4 3 1 (.slice vo4 (wl L s (j + 1)).length vc4) (wl L s (j + 1)).length ((wl L s (j + 1)).map (Value.int .i64))) := hloi
              have HOI : Hid (wi.ownsRow w3.heap.size 5 1 _ ks.length (ks.map (Value.int .u8))) := hown
              clear hown hloi
              have hzi := hb3i.size
              by_cases hiN : i < N
              · have hil : i < (wl L s (j + 1)).length := by have := HN.out; omega
                obtain ⟨x, hx⟩ : ∃ x, x = (wl L s (j + 1)).getD i 0 := ⟨_, rfl⟩
                obtain ⟨g4, hvo4, c0⟩ := own_cell HLI.out hil (v := .int .i64 x) (by rw [hx]; simp [List.getD, List.getElem?_eq_getElem hil])
                have hxb := (HWB.out (j + 1)).2 x (by rw [hx]; simp [List.getD, List.getElem?_eq_getElem hil])
                have HTK : Hid ((wl L s (j + 1)).take (i + 1) = (wl L s (j + 1)).take i ++ [x]) := by show _ = _; rw [take_snoc_i _ i hil, ← hx]
                have hpl : ks.length ≤ 97 * j + 1 + i := by
                  rw [HKK.out, List.length_append]
                  have h1 := HPL.out
                  have h2 := List.length_take_le i (wl L s (j + 1))
                  omega
                subst hvo4
                clear hx hil
                go_wp2_with (first
                  | (at_builtin; refine wpList_append_lies _ (by rfl) (.tmp 41) (.tmp 47) 73 (by rfl) w3.heap.size 5 i0 (.int .u8 0) 1 1 Tryz.underlying73 hi0 hq0 hq1 hq2 rfl (by omega) _ _ _ (by rfl) (HOI.out.alloc _) ⟨wi.heap.size, 0, none⟩ 1 1 [.int .u8 x] (by rfl) (by rfl) ?c1 ?c2 (by omega) ?c3 ?c5 ?c4 (wi.heap.size + 1) (by simp) ?_))
                case c1 => exact cell_one_new _ _ _
                case c2 => intro u hu; simp at hu; subst hu; rfl
                case c3 => unfold maxLen; omega
                case c5 => omega
                case c4 => simp; omega
                · intro gv cap2 w5 hown2 hgrow _ _
                  have HBN : Hid (Below w3.heap.size w3 w5) := grown_below (hb3i.alloc (by omega) _) (by simp; omega) (HOI.out.alloc _) (Nat.le_refl _) hgrow
                  have HLN : Hid (w5.ownsRow b4 3 1 (.slice (some ⟨g4, 0, none⟩) (wl L s (j + 1)).length vc4) (wl L s (j + 1)).length ((wl L s (j + 1)).map (Value.int .i64))) := own_grown (HLI.out.alloc _) (HOI.out.alloc _) (by decide) hgrow
                  have ho : w5.ownsRow w3.heap.size 5 1 (.slice (some ⟨gv, 0, none⟩) (ks.length + 1) cap2) (ks ++ [x]).length ((ks ++ [x]).map (Value.int .u8)) := by
                    rw [List.length_append, List.map_append]
                    exact hown2
                  have HO2 : Hid _ := ho
                  clear hown2 hgrow ho c0 hpl
                  go_wp2
                  go_roundw
                  case rel => exact ⟨i + 1, ks ++ [x], (by show _ = _; rw [HTK.out, HKK.out, List.append_assoc]), by omega, by go_num, HLN.out, HBN.out, HO2.out⟩
                  case measure => simp [intOf]; omega
              · have hie : i = N := by omega
                subst hie
                have htk : (wl L s (j + 1)).take i = wl L s (j + 1) := List.take_of_length_le (by have := HN.out; omega)
                have ho := HOI.out
                have hkk := HKK.out
                rw [htk, HKS.out] at hkk
                rw [hkk] at ho
                have HO2 : Hid _ := ho
                clear ho htk hkk
                go_wp2
                go_roundw
                case rel => exact ⟨j + 1 + 1, by omega, by omega, by go_num, hb3i, HO2.out⟩
                case measure => simp [intOf]; omega
      · have hke : j = t := by omega
        subst hke
        obtain ⟨vo9, vc9, hv9, hcv⟩ := conv_own HOW.out
        subst hv9
        go_wp2
        go_ret2
        exact ⟨ret_str (keyV_ok HE.out).symm HE.out.symm, below_then HBW.out hbel⟩
  · have HV : Hid (keyV L s lev = { data := #[] }) := keyV_no hE
    have HM : Hid (mayE L 1 (fun _ => s) lev = keyE L s lev) := rfl
    go_enter Tryz.func21, Tryz.ntmps21
    go_wp2_with (first
      | (go_at_call 42; refine (refMay_any L 1 (fun _ => s) _ _ _ _ _ (HL.out _ (below_then (below_one _) (below_one _))) (by simpa using strs_one (w.alloc (.cells #[.slice L.na L.n L.nc, .slice L.ea L.m L.ec] 28)) s 9)).mono ?_; rintro e w1 ⟨rfl, hb1⟩; rw [HM.out]))
    go_ret2
    exact ⟨ret_str HV.out.symm rfl, below_then (below_then (below_one _) (below_one _)) hb1⟩

end Go.Proofs.YtpclldccjpncdabGreat

namespace Go.Proofs.YtpclldccjpncdabGreat
open Go.RowKit

theorem keyL_lent (L : Lay) (gn ge : Nat) (gl : Nat → Nat) (s : ByteArray) : ∀ k, keyL (L.lent gn ge gl) s k = keyL L s k
  | 0 => rfl
  | k + 1 => by
    unfold keyL
    rw [keyL_lent L gn ge gl s k]
    rfl
theorem keyE_lent (L : Lay) (gn ge : Nat) (gl : Nat → Nat) (s : ByteArray) (lev : Int) : keyE (L.lent gn ge gl) s lev = keyE L s lev := rfl
theorem keyV_lent (L : Lay) (gn ge : Nat) (gl : Nat → Nat) (s : ByteArray) (lev : Int) : keyV (L.lent gn ge gl) s lev = keyV L s lev := by
  unfold keyV
  rw [keyL_lent, keyE_lent]
theorem key_lent (L : Lay) (gn ge : Nat) (gl : Nat → Nat) (s : ByteArray) (lev : Int) (w : World) (h : (L.lent gn ge gl).In w.heap.size w) :
    Calls Tryz.prog 20 #[.agg #[.slice (some ⟨gn, 0, none⟩) L.n (L.n + 8), .slice (some ⟨ge, 0, none⟩) L.m (L.m + 8)], .string s, .int .i64 lev] w fun e w' => e = .returned (.tuple #[.string (keyV L s lev), .int .i64 (keyE L s lev)]) ∧ Below w.heap.size w w' := by
  have := key_any (L.lent gn ge gl) s lev w h
  rw [keyV_lent, keyE_lent] at this
  exact this

set_option maxRecDepth 100000 in
set_option maxHeartbeats 1000000 in
theorem asks_key (L : Lay) (a b : ByteArray) (lev : Int) (ra : Option Addr) (rn rc : Nat) (w : World) (h : L.In w.heap.size w) :
    Calls Tryz.prog 7 #[.agg #[.int .i64 4, .slice L.na L.n L.nc, .slice L.ea L.m L.ec, .string a, .string b, .int .i64 lev, .slice ra rn rc]] w fun e w' => e = .returned (.bool true) ∧ Below w.heap.size w w' := by
  have HL : Hid (∀ w', Below w.heap.size w w' → L.In w'.heap.size w') := fun w' hb => h.later hb
  clear h
  go_enter Tryz.func7, Tryz.ntmps7
  go_wp2_with (first
    | (go_at_call 12; refine (lent_any L _ (HL.out _ (below_one _))).mono ?_; rintro e w1 ⟨g, gn, ge, gl, vo, vc, rfl, hlent⟩; obtain ⟨hc, hf⟩ := bcell hlent.below; obtain ⟨x0, x1, xg⟩ := hlent.t01; have hz : w.heap.size < w1.heap.size := by have := hlent.below.size; simp at this; omega))
  have b1 : w1.cell? ⟨w.heap.size, 3, none⟩ = some (.string a) := by rw [hc w.heap.size 3 (by simp)]; go_simp
  have b3 : w1.cell? ⟨w.heap.size, 5, none⟩ = some (.int .i64 lev) := by rw [hc w.heap.size 5 (by simp)]; go_simp
  have y0 := Wb.cell (w := w1) (B := w1.heap.size) (by show g < _; omega) x0
  have y1 := Wb.cell (w := w1) (B := w1.heap.size) (by show g < _; omega) x1
  have y2 := Wb.cell (w := w1) (B := w1.heap.size) (by show w.heap.size < _; omega) b1
  have y4 := Wb.cell (w := w1) (B := w1.heap.size) (by show w.heap.size < _; omega) b3
  have HI : Hid (∀ x : Wb w1.heap.size w1, (L.lent gn ge gl).In x.val.heap.size x.val) := fun x => ((hlent.lay (HL.out _ (below_one _))).below x.below).mono x.below.size
  refine wp_region_below w1.heap.size (by kernel_rfl) (by kernel_rfl) ?_
  repeat (go_big_quiet_step ((go_at_call 20; exact Wb.ofCall _ (Nat.le_refl _) (key_lent L gn ge gl _ _ _ (HI.out _)))))
  refine wpQuiet_nil ?_
  rintro _ ⟨x, rfl⟩
  have hb2 := x.below
  generalize x.val = w2 at hb2
  have hz2 : w.heap.size < w2.heap.size := by have := hb2.size; omega
  obtain ⟨hc2, hf2⟩ := bcell hb2
  clear y0 y1 y2 y4 HI
  go_wp2_with (first
    | (go_at_call 21; refine (refKey_any L _ _ _ (HL.out _ (below_then (below_then (below_one _) hlent.below) hb2))).mono ?_; rintro e w3 ⟨rfl, hb3⟩; obtain ⟨hc3, hf3⟩ := bcell hb3; have hz3 : w.heap.size < w3.heap.size := by have := hb3.size; omega)
    | (go_at_call 24; refine (still_any L _ (HL.out _ (below_one _)) g gn ge gl vo vc _ ((hlent.later hb2).later hb3)).mono ?_; rintro e w4 ⟨rfl, hb4⟩))
  go_ret
  exact ⟨rfl, below_then (below_one _) hb4⟩

set_option maxRecDepth 100000 in
set_option maxHeartbeats 1000000 in
theorem plays_key (L : Lay) (a b : ByteArray) (lev : Int) (ra : Option Addr) (rn rc : Nat) (w : World) (h : L.In w.heap.size w) :
    Calls Tryz.prog 6 #[.agg #[.int .i64 4, .slice L.na L.n L.nc, .slice L.ea L.m L.ec, .string a, .string b, .int .i64 lev, .slice ra rn rc]] w fun e w' => e = .returned (.bool true) ∧ Below w.heap.size w w' := by
  have HL : Hid (∀ w', Below w.heap.size w w' → L.In w'.heap.size w') := fun w' hb => h.later hb
  clear h
  go_enter Tryz.func6, Tryz.ntmps6
  go_wp2_with (go_at_call 7; refine (asks_key L _ _ _ _ _ _ _ (HL.out _ (below_one _))).mono ?_; rintro e w1 ⟨rfl, hb1⟩)
  go_ret
  exact ⟨rfl, below_then (below_one _) hb1⟩

end Go.Proofs.YtpclldccjpncdabGreat
