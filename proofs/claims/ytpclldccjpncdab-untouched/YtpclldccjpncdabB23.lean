import Derived.Test.YtpclldccjpncdabB22
namespace Go.Proofs.Ytpclldccjpncdab
open Go.RowKit

theorem row_below {B : Nat} {w w' : World} (hb : Below B w w') {b : Nat} {t : TypeId} {n : Nat} {f : Nat → Value} (h : w.rowIs b t n f) (hB : b < B) : w'.rowIs b t n f := h.of_block (hb.block b hB)
theorem own_lt {w : World} {base : Nat} {e : TypeId} {size : Nat} {v : Value} {k : Nat} {xs : List Value} (ho : w.ownsRow base e size v k xs) {b : Nat} (hb : v.ownBlock = some b) : b < w.heap.size := by
  obtain ⟨_, h2⟩ := ho
  rcases h2 with ⟨rfl, _⟩ | ⟨g, cap, cur, rfl, _, hh, _⟩
  · simp [Value.ownBlock] at hb
  · simp only [Value.ownBlock, Option.some.injEq] at hb
    subst hb
    exact (Array.getElem?_eq_some_iff.1 hh).1
theorem own_below {w w' : World} (hb : Below w.heap.size w w') {base : Nat} {e : TypeId} {size : Nat} {v : Value} {k : Nat} {xs : List Value} (ho : w.ownsRow base e size v k xs) : w'.ownsRow base e size v k xs :=
  own_of_block ho fun b h => hb.block b (own_lt ho h)
theorem own_cell {w : World} {base : Nat} {e : TypeId} {vo : Option Addr} {n vc : Nat} {xs : List Value} (ho : w.ownsRow base e 1 (.slice vo n vc) n xs) {i : Nat} (hi : i < n) {v : Value} (hv : xs[i]? = some v) :
    ∃ gv, vo = some ⟨gv, 0, none⟩ ∧ w.cell? ⟨gv, i, none⟩ = some v := by
  obtain ⟨_, h2⟩ := ho
  rcases h2 with ⟨_, h0⟩ | ⟨g, cap, cur, hs, _, hh, hnc, _, hcs, ht⟩
  · omega
  · cases hs
    refine ⟨g, rfl, ?_⟩
    rw [← ht, List.getElem?_take] at hv
    rw [if_pos (by omega)] at hv
    simp only [Array.getElem?_toList] at hv
    simp [World.cell?, hh, hv]

def wipeF (k : Nat) (z : Nat → Int) (j q : Nat) : Value := .int .i64 (if q < j then -77 else markZ k z q)
theorem wipe_start {w : World} {h k : Nat} {z : Nat → Int} (hr : w.rowIs h 3 (k + 8) (fun q => .int .i64 (markZ k z q))) : w.rowIs h 3 (k + 8) (wipeF k z 0) := hr.congr fun q _ => by simp [wipeF]
theorem wipe_step {w : World} {h k j : Nat} {z : Nat → Int} (hr : w.rowIs h 3 (k + 8) (wipeF k z j)) : (w.setCell ⟨h, j, none⟩ (.int .i64 (-77))).rowIs h 3 (k + 8) (wipeF k z (j + 1)) :=
  (hr.set j (.int .i64 (-77))).congr fun q _ => by
    by_cases e : q = j
    · subst e; simp [wipeF]
    · rw [if_neg e]
      have h1 : q < j + 1 ↔ q < j := by omega
      simp [wipeF, h1]
theorem wipe_at (k : Nat) (z : Nat → Int) (j : Nat) (h : j < k) : wipeF k z j j = .int .i64 (z j) := by simp [wipeF, markZ, h]
theorem wipe_at' (k : Nat) (z : Nat → Int) (j : Nat) (h : ¬ j < k) : wipeF k z j j = .int .i64 (-77) := by simp [wipeF, markZ, h]

/-- the table that was lent, as a table -/
def Lay.lent (L : Lay) (gn ge : Nat) (gl : Nat → Nat) : Lay := { L with na := some ⟨gn, 0, none⟩, nc := L.n + 8, nb := gn, no := 0, ea := some ⟨ge, 0, none⟩, ec := L.m + 8, eb := ge, eo := 0, la := fun i => some ⟨gl i, 0, none⟩, lc := fun i => L.k i + 8, lb := gl, lo := fun _ => 0 }
end Go.Proofs.Ytpclldccjpncdab

namespace Go.Proofs.Ytpclldccjpncdab
open Go.RowKit

theorem lenAt_stop {m : Nat} {tx : Nat → ByteArray} {s : ByteArray} : ∃ q, Cut m tx s q := by
  have step : ∀ n q, n = s.size - pos m tx s q → (∀ j, j < q → 0 < lenAt m tx s (pos m tx s j)) → ∃ q, Cut m tx s q := by
    intro n
    induction n using Nat.strongRecOn with
    | ind n ih =>
      intro q hn hgo
      by_cases h0 : lenAt m tx s (pos m tx s q) = 0
      · exact ⟨q, hgo, h0⟩
      · have hle := lenAt_le m tx s _ (pos_le m tx s q)
        have hps : pos m tx s (q + 1) = pos m tx s q + lenAt m tx s (pos m tx s q) := rfl
        refine ih (s.size - pos m tx s (q + 1)) (by omega) (q + 1) rfl fun j hj => ?_
        by_cases e : j = q
        · rw [e]; omega
        · exact hgo j (by omega)
  exact step _ 0 rfl (fun j hj => by omega)
/-- of a valid table and a short text: few weights, each 1 to 250 -/
theorem nodesN_wl {L : Lay} (hok : L.Ok) {s : ByteArray} (hs : s.size ≤ 24) : ∀ lv, (wl L s lv).length ≤ 96 ∧ ∀ x ∈ wl L s lv, 1 ≤ x ∧ x ≤ 250 := by
  obtain ⟨q, hq⟩ := lenAt_stop (m := L.m) (tx := L.tx) (s := s)
  have hN := cutN_eq hq
  have h1 := pos_ge q hq.go
  have h2 := pos_le L.m L.tx s q
  have h3 := nums_len hok q hq.go
  have h4 := nums_lt hok q hq.go
  exact wl_bd hok (by unfold nodesN; rw [hN]; omega) (by unfold nodesN; rw [hN]; exact h4)

set_option maxRecDepth 100000 in
set_option maxHeartbeats 2000000 in
theorem tableKey_any (L : Lay) (s : ByteArray) (lev : Int) (w : World) (h : L.In w.heap.size w) :
    Calls Try.prog 35 #[.agg #[.slice L.na L.n L.nc, .slice L.ea L.m L.ec], .string s, .int .i64 lev] w fun e w' => e = .returned (.tuple #[.string (keyV L s lev), .int .i64 (keyE L s lev)]) ∧ Below w.heap.size w w' := by
  have HL : Hid (∀ w', Below w.heap.size w w' → L.In w'.heap.size w') := fun w' hb => h.later hb
  clear h
  obtain ⟨i0, hi0, hq0, hq1, hq2⟩ := info_parts infoByte
  by_cases he : L.err = 0
  · by_cases hs : s.size ≤ 24
    · by_cases hl : 1 ≤ lev ∧ lev ≤ 3
      · obtain ⟨hl1, hl3⟩ := hl
        have HOK : Hid L.Ok := err_zero he
        have hlv : decide (1 ≤ lev ∧ lev ≤ 3) = true := by simp [hl1, hl3]
        go_enter Try.func35, Try.ntmps35
        go_wp2_with (first
          | (go_at_call 32; refine (tableValid_any L _ (HL.out _ (below_one _))).mono ?_; rintro e w1 ⟨rfl, hb1⟩; obtain ⟨hc, hf⟩ := bcell hb1; have hz1 : w.heap.size < w1.heap.size := by have := hb1.size; simp at this; omega)
          | (go_at_call 47; refine (isLevel_any _ _).mono ?_; rintro e _ ⟨rfl, rfl⟩))
        refine (nodesOf_n L s _ (HL.out _ (below_then (below_one _) hb1)) HOK.out hs).mono ?_
        rintro e w3 ⟨hb3, hlen3, hor3⟩
        have HBW : Hid (Below w.heap.size w w3) := below_then (below_then (below_one _) hb1) hb3
        clear hc hf
        rcases hor3 with ⟨hp, ao, acap, ab, rfl, hna⟩ | ⟨hp, rfl⟩
        · have HNA : Hid (NodesL L w3 ao (nodesN L s) ab) := hna
          have HE : Hid (keyE L s lev = 0) := keyE_ok he hs hl1 hl3 hp
          have HWB : Hid (∀ lv, (wl L s lv).length ≤ 96 ∧ ∀ x ∈ wl L s lv, 1 ≤ x ∧ x ≤ 250) := nodesN_wl HOK.out hs
          clear hna hp
          obtain ⟨t, ht⟩ : ∃ t : Nat, lev = t := ⟨lev.toNat, by omega⟩
          subst ht
          go_wp2
          go_loopw [11, 12] (fun v kv wr => ∃ k : Nat, 1 ≤ k ∧ k ≤ t + 1 ∧ kv = .int .i64 (k : Nat) ∧ Below w3.heap.size w3 wr ∧ wr.ownsRow w3.heap.size 5 1 v (keyL L s (k - 1)).length ((keyL L s (k - 1)).map (Value.int .u8))) (fun _ kv _ => t + 1 - (intOf kv).toNat)
          case atStart => exact ⟨1, by omega, by omega, rfl, Below.refl _ _, World.ownsRow_nil _ _ _ _⟩
          case round =>
            rename World => wr
            obtain ⟨k, hk1, hk2, rfl, hbel, hown⟩ := hrel
            obtain ⟨j, hj⟩ : ∃ j, k = j + 1 := ⟨k - 1, by omega⟩
            subst hj
            rw [show j + 1 - 1 = j by omega] at hown
            have HOW : Hid (wr.ownsRow w3.heap.size 5 1 _ (keyL L s j).length ((keyL L s j).map (Value.int .u8))) := hown
            clear hown
            have hsz := hbel.size
            have hkl := keyL_len (fun lv => (HWB.out lv).1) (s := s) (L := L) j
            by_cases hkt : j + 1 ≤ t
            · by_cases hj0 : j = 0
              · subst hj0
                have HPL : Hid ((keyL L s 0).length ≤ 97 * 0 + 1) := by show _ ≤ _; simp [keyL]
                have HKS : Hid (keyL L s 0 ++ wl L s (0 + 1) = keyL L s (0 + 1 + 1 - 1)) := by show keyL L s 0 ++ wl L s (0 + 1) = keyL L s 0 ++ (if 1 ≤ 0 then [0] else []) ++ wl L s (0 + 1); simp
                have HOZ : Hid (wr.ownsRow w3.heap.size 5 1 _ (keyL L s 0).length ((keyL L s 0).map (Value.int .u8))) := HOW.out
                have HBZ : Hid (Below w3.heap.size w3 wr) := hbel
                go_wp2_with fail
                refine (weights_own L (nodesN L s) (0 + 1) ao ab 0 acap _ (by omega) (by omega) (by omega) ((HNA.out.below (HBZ.out)).mono (HBZ.out).size)).mono ?_
                rintro e w4 ⟨v4, rfl, hlo0, hb4⟩
                obtain ⟨b4, hlo⟩ : ∃ b4, w4.ownsRow b4 3 1 v4 (wl L s (0 + 1)).length ((wl L s (0 + 1)).map (Value.int .i64)) := ⟨_, hlo0⟩
                clear hlo0
                obtain ⟨vo4, vc4, hv4⟩ := own_shape hlo
                subst hv4
                have HLO : Hid (w4.ownsRow b4 3 1 (.slice vo4 (wl L s (0 + 1)).length vc4) (wl L s (0 + 1)).length ((wl L s (0 + 1)).map (Value.int .i64))) := hlo
                have hoy := own_of_block HOZ.out (fun b h => hb4.block b (own_lt' HOZ.out h))
                have HOY : Hid _ := hoy
                have HBY : Hid (Below w3.heap.size w3 w4) := below_then HBZ.out hb4
                obtain ⟨N, hN⟩ : ∃ N, N = (wl L s (0 + 1)).length := ⟨_, rfl⟩
                have HN : Hid (N = (wl L s (0 + 1)).length) := hN
                have hN96 : N ≤ 96 := by rw [hN]; exact (HWB.out (0 + 1)).1
                rw [← hN]
                clear hN hb4 hlo hoy
                go_wp2
                go_loopw [11, 14] (fun v iv wi => ∃ (i : Nat) (ks : List Int), Hid (ks = keyL L s 0 ++ (wl L s (0 + 1)).take i) ∧ i ≤ N ∧ iv = .int .i64 i ∧ wi.ownsRow b4 3 1 (.slice vo4 (wl L s (0 + 1)).length vc4) (wl L s (0 + 1)).length ((wl L s (0 + 1)).map (Value.int .i64)) ∧ Below w3.heap.size w3 wi ∧ wi.ownsRow w3.heap.size 5 1 v ks.length (ks.map (Value.int .u8))) (fun _ iv _ => N - (intOf iv).toNat)
                case atStart => exact ⟨0, _, (by show _ = _; rw [List.take_zero, List.append_nil]), Nat.zero_le _, rfl, HLO.out, HBY.out, HOY.out⟩
                case round =>
                  clear HLO HOY HBY
                  rename World => wi
                  obtain ⟨i, ks, HKK, hi, rfl, hloi, hb3i, hown⟩ := hrel
                  have HLI : Hid (wi.ownsRow b4 3 1 (.slice vo4 (wl L s (0 + 1)).length vc4) (wl L s (0 + 1)).length ((wl L s (0 + 1)).map (Value.int .i64))) := hloi
                  have HOI : Hid (wi.ownsRow w3.heap.size 5 1 _ ks.length (ks.map (Value.int .u8))) := hown
                  clear hown hloi
                  have hzi := hb3i.size
                  by_cases hiN : i < N
                  · have hil : i < (wl L s (0 + 1)).length := by have := HN.out; omega
                    obtain ⟨x, hx⟩ : ∃ x, x = (wl L s (0 + 1)).getD i 0 := ⟨_, rfl⟩
                    obtain ⟨g4, hvo4, c0⟩ := own_cell HLI.out hil (v := .int .i64 x) (by rw [hx]; simp [List.getD, List.getElem?_eq_getElem hil])
                    have hxb := (HWB.out (0 + 1)).2 x (by rw [hx]; simp [List.getD, List.getElem?_eq_getElem hil])
                    have HTK : Hid ((wl L s (0 + 1)).take (i + 1) = (wl L s (0 + 1)).take i ++ [x]) := by show _ = _; rw [take_snoc_i _ i hil, ← hx]
                    have hpl : ks.length ≤ 97 * 0 + 1 + i := by
                      rw [HKK.out, List.length_append]
                      have h1 := HPL.out
                      have h2 := List.length_take_le i (wl L s (0 + 1))
                      omega
                    subst hvo4
                    clear hx hil
                    go_wp2_with (first
                      | (at_builtin; refine wpList_append_lies _ (by rfl) (.tmp 53) (.tmp 59) 69 (by rfl) w3.heap.size 5 i0 (.int .u8 0) 1 1 Try.underlying69 hi0 hq0 hq1 hq2 rfl (by omega) _ _ _ (by rfl) (HOI.out.alloc _) ⟨wi.heap.size, 0, none⟩ 1 1 [.int .u8 x] (by rfl) (by rfl) ?c1 ?c2 (by omega) ?c3 ?c5 ?c4 (wi.heap.size + 1) (by simp) ?_))
                    case c1 => exact cell_one_new _ _ _
                    case c2 => intro u hu; simp at hu; subst hu; rfl
                    case c3 => unfold maxLen; omega
                    case c5 => omega
                    case c4 => simp; omega
                    · intro gv cap2 w5 hown2 hgrow _ _
                      have HBN : Hid (Below w3.heap.size w3 w5) := grown_below (hb3i.alloc (by omega) _) (by simp; omega) (HOI.out.alloc _) (Nat.le_refl _) hgrow
                      have HLN : Hid (w5.ownsRow b4 3 1 (.slice (some ⟨g4, 0, none⟩) (wl L s (0 + 1)).length vc4) (wl L s (0 + 1)).length ((wl L s (0 + 1)).map (Value.int .i64))) := own_grown (HLI.out.alloc _) (HOI.out.alloc _) (by decide) hgrow
                      have ho : w5.ownsRow w3.heap.size 5 1 (.slice (some ⟨gv, 0, none⟩) (ks.length + 1) cap2) (ks ++ [x]).length ((ks ++ [x]).map (Value.int .u8)) := by
                        rw [List.length_append, List.map_append]
                        exact hown2
                      have HO2 : Hid _ := ho
                      clear hown2 hgrow ho c0 hpl
                      go_wp2
                      go_roundw
                      case rel => exact ⟨i + 1, ks ++ [x], (by show _ = _; rw [HTK.out, HKK.out, List.append_assoc]), by omega, by go_num, HLN.out, HBN.out, HO2.out⟩
                      case measure => simp [intOf]; omega
                  · have hie : i = N := by omega
                    subst hie
                    have htk : (wl L s (0 + 1)).take i = wl L s (0 + 1) := List.take_of_length_le (by have := HN.out; omega)
                    have ho := HOI.out
                    have hkk := HKK.out
                    rw [htk, HKS.out] at hkk
                    rw [hkk] at ho
                    have HO2 : Hid _ := ho
                    clear ho htk hkk
                    go_wp2
                    go_roundw
                    case rel => exact ⟨0 + 1 + 1, by omega, by omega, by go_num, hb3i, HO2.out⟩
                    case measure => simp [intOf]; omega
              · have HPL : Hid ((keyL L s j ++ [0]).length ≤ 97 * j + 1) := by show _ ≤ _; simp; omega
                have HKS : Hid (keyL L s j ++ [0] ++ wl L s (j + 1) = keyL L s (j + 1 + 1 - 1)) := by
                  show _ = _
                  rw [show j + 1 + 1 - 1 = j + 1 by omega, keyL, if_pos (by omega)]
                go_wp2_with (first
                  | (at_builtin; refine wpList_append_lies _ (by rfl) (.tmp 41) (.tmp 42) 69 (by rfl) w3.heap.size 5 i0 (.int .u8 0) 1 1 Try.underlying69 hi0 hq0 hq1 hq2 rfl (by omega) _ _ _ (by rfl) (HOW.out.alloc _) ⟨wr.heap.size, 0, none⟩ 1 1 [.int .u8 0] (by rfl) (by rfl) ?c1 ?c2 (by omega) ?c3 ?c5 ?c4 (wr.heap.size + 1) (by simp) ?_))
                case c1 => exact cell_one_new _ _ _
                case c2 => intro u hu; simp at hu; subst hu; rfl
                case c3 => unfold maxLen; omega
                case c5 => omega
                case c4 => simp; omega
                · intro gz capz wz hownz hgrowz _ _
                  have HBZ : Hid (Below w3.heap.size w3 wz) := grown_below (hbel.alloc (by omega) _) (by simp; omega) (HOW.out.alloc _) (Nat.le_refl _) hgrowz
                  have hoz : wz.ownsRow w3.heap.size 5 1 (.slice (some ⟨gz, 0, none⟩) ((keyL L s j).length + 1) capz) (keyL L s j ++ [0]).length ((keyL L s j ++ [0]).map (Value.int .u8)) := by
                    rw [List.length_append, List.map_append]
                    exact hownz
                  have HOZ : Hid _ := hoz
                  clear hownz hgrowz hoz
                  go_wp2_with fail
                  refine (weights_own L (nodesN L s) (j + 1) ao ab 0 acap _ (by omega) (by omega) (by omega) ((HNA.out.below (HBZ.out)).mono (HBZ.out).size)).mono ?_
                  rintro e w4 ⟨v4, rfl, hlo0, hb4⟩
                  obtain ⟨b4, hlo⟩ : ∃ b4, w4.ownsRow b4 3 1 v4 (wl L s (j + 1)).length ((wl L s (j + 1)).map (Value.int .i64)) := ⟨_, hlo0⟩
                  clear hlo0
                  obtain ⟨vo4, vc4, hv4⟩ := own_shape hlo
                  subst hv4
                  have HLO : Hid (w4.ownsRow b4 3 1 (.slice vo4 (wl L s (j + 1)).length vc4) (wl L s (j + 1)).length ((wl L s (j + 1)).map (Value.int .i64))) := hlo
                  have hoy := own_of_block HOZ.out (fun b h => hb4.block b (own_lt' HOZ.out h))
                  have HOY : Hid _ := hoy
                  have HBY : Hid (Below w3.heap.size w3 w4) := below_then HBZ.out hb4
                  obtain ⟨N, hN⟩ : ∃ N, N = (wl L s (j + 1)).length := ⟨_, rfl⟩
                  have HN : Hid (N = (wl L s (j + 1)).length) := hN
                  have hN96 : N ≤ 96 := by rw [hN]; exact (HWB.out (j + 1)).1
                  rw [← hN]
                  clear hN hb4 hlo hoy
                  go_wp2
                  go_loopw [11, 14] (fun v iv wi => ∃ (i : Nat) (ks : List Int), Hid (ks = (keyL L s j ++ [0]) ++ (wl L s (j + 1)).take i) ∧ i ≤ N ∧ iv = .int .i64 i ∧ wi.ownsRow b4 3 1 (.slice vo4 (wl L s (j + 1)).length vc4) (wl L s (j + 1)).length ((wl L s (j + 1)).map (Value.int .i64)) ∧ Below w3.heap.size w3 wi ∧ wi.ownsRow w3.heap.size 5 1 v ks.length (ks.map (Value.int .u8))) (fun _ iv _ => N - (intOf iv).toNat)
                  case atStart => exact ⟨0, _, (by show _ = _; rw [List.take_zero, List.append_nil]), Nat.zero_le _, rfl, HLO.out, HBY.out, HOY.out⟩
                  case round =>
                    clear HLO HOY HBY
                    rename World => wi
                    obtain ⟨i, ks, HKK, hi, rfl, hloi, hb3i, hown⟩ := hrel
                    have HLI : Hid (wi.ownsRow b4 3 1 (.slice vo4 (wl L s (j + 1)).length vc4) (wl L s (j + 1)).length ((wl L s (j + 1)).map (Value.int .i64))) := hloi
                    have HOI : Hid (wi.ownsRow w3.heap.size 5 1 _ ks.length (ks.map (Value.int .u8))) := hown
                    clear hown hloi
                    have hzi := hb3i.size
                    by_cases hiN : i < N
                    · have hil : i < (wl L s (j + 1)).length := by have := HN.out; omega
                      obtain ⟨x, hx⟩ : ∃ x, x = (wl L s (j + 1)).getD i 0 := ⟨_, rfl⟩
                      obtain ⟨g4, hvo4, c0⟩ := own_cell HLI.out hil (v := .int .i64 x) (by rw [hx]; simp [List.getD, List.getElem?_eq_getElem hil])
                      have hxb := (HWB.out (j + 1)).2 x (by rw [hx]; simp [List.getD, List.getElem?_eq_getElem hil])
                      have HTK : Hid ((wl L s (j + 1)).take (i + 1) = (wl L s (j + 1)).take i ++ [x]) := by show _ = _; rw [take_snoc_i _ i hil, ← hx]
                      have hpl : ks.length ≤ 97 * j + 1 + i := by
                        rw [HKK.out, List.length_append]
                        have h1 := HPL.out
                        have h2 := List.length_take_le i (wl L s (j + 1))
                        omega
                      subst hvo4
                      clear hx hil
                      go_wp2_with (first
                        | (at_builtin; refine wpList_append_lies _ (by rfl) (.tmp 53) (.tmp 59) 69 (by rfl) w3.heap.size 5 i0 (.int .u8 0) 1 1 Try.underlying69 hi0 hq0 hq1 hq2 rfl (by omega) _ _ _ (by rfl) (HOI.out.alloc _) ⟨wi.heap.size, 0, none⟩ 1 1 [.int .u8 x] (by rfl) (by rfl) ?c1 ?c2 (by omega) ?c3 ?c5 ?c4 (wi.heap.size + 1) (by simp) ?_))
                      case c1 => exact cell_one_new _ _ _
                      case c2 => intro u hu; simp at hu; subst hu; rfl
                      case c3 => unfold maxLen; omega
                      case c5 => omega
                      case c4 => simp; omega
                      · intro gv cap2 w5 hown2 hgrow _ _
                        have HBN : Hid (Below w3.heap.size w3 w5) := grown_below (hb3i.alloc (by omega) _) (by simp; omega) (HOI.out.alloc _) (Nat.le_refl _) hgrow
                        have HLN : Hid (w5.ownsRow b4 3 1 (.slice (some ⟨g4, 0, none⟩) (wl L s (j + 1)).length vc4) (wl L s (j + 1)).length ((wl L s (j + 1)).map (Value.int .i64))) := own_grown (HLI.out.alloc _) (HOI.out.alloc _) (by decide) hgrow
                        have ho : w5.ownsRow w3.heap.size 5 1 (.slice (some ⟨gv, 0, none⟩) (ks.length + 1) cap2) (ks ++ [x]).length ((ks ++ [x]).map (Value.int .u8)) := by
                          rw [List.length_append, List.map_append]
                          exact hown2
                        have HO2 : Hid _ := ho
                        clear hown2 hgrow ho c0 hpl
                        go_wp2
                        go_roundw
                        case rel => exact ⟨i + 1, ks ++ [x], (by show _ = _; rw [HTK.out, HKK.out, List.append_assoc]), by omega, by go_num, HLN.out, HBN.out, HO2.out⟩
                        case measure => simp [intOf]; omega
                    · have hie : i = N := by omega
                      subst hie
                      have htk : (wl L s (j + 1)).take i = wl L s (j + 1) := List.take_of_length_le (by have := HN.out; omega)
                      have ho := HOI.out
                      have hkk := HKK.out
                      rw [htk, HKS.out] at hkk
                      rw [hkk] at ho
                      have HO2 : Hid _ := ho
                      clear ho htk hkk
                      go_wp2
                      go_roundw
                      case rel => exact ⟨j + 1 + 1, by omega, by omega, by go_num, hb3i, HO2.out⟩
                      case measure => simp [intOf]; omega
            · have hke : j = t := by omega
              subst hke
              obtain ⟨vo9, vc9, hv9, hcv⟩ := conv_own HOW.out
              subst hv9
              go_wp2
              go_ret2
              exact ⟨ret_str (keyV_ok HE.out).symm HE.out.symm, below_then HBW.out hbel⟩
        · have HE : Hid (keyE L s lev = 6) := keyE_text he hs hl1 hl3 hp
          go_wp2
          go_ret2
          exact ⟨ret_str (keyV_no (by rw [HE.out]; decide)).symm HE.out.symm, HBW.out⟩
      · have hlv : decide (1 ≤ lev ∧ lev ≤ 3) = false := by simpa using hl
        have HE : Hid (keyE L s lev = 5) := keyE_level he hs (by omega)
        go_enter Try.func35, Try.ntmps35
        go_wp2_with (first
          | (go_at_call 32; refine (tableValid_any L _ (HL.out _ (below_one _))).mono ?_; rintro e w1 ⟨rfl, hb1⟩)
          | (go_at_call 47; refine (isLevel_any _ _).mono ?_; rintro e _ ⟨rfl, rfl⟩))
        go_ret2
        exact ⟨ret_str (keyV_no (by rw [HE.out]; decide)).symm HE.out.symm, below_then (below_one _) hb1⟩
    · have HE : Hid (keyE L s lev = 4) := keyE_long he (by omega)
      go_enter Try.func35, Try.ntmps35
      go_wp2_with (first
        | (go_at_call 32; refine (tableValid_any L _ (HL.out _ (below_one _))).mono ?_; rintro e w1 ⟨rfl, hb1⟩))
      go_ret2
      exact ⟨ret_str (keyV_no (by rw [HE.out]; decide)).symm HE.out.symm, below_then (below_one _) hb1⟩
  · have HE : Hid (keyE L s lev = L.err) := keyE_err he
    go_enter Try.func35, Try.ntmps35
    go_wp2_with (first
      | (go_at_call 32; refine (tableValid_any L _ (HL.out _ (below_one _))).mono ?_; rintro e w1 ⟨rfl, hb1⟩))
    go_ret2
    exact ⟨ret_str (keyV_no (by rw [HE.out]; exact he)).symm HE.out.symm, below_then (below_one _) hb1⟩

set_option maxHeartbeats 400000 in
theorem key_any (L : Lay) (s : ByteArray) (lev : Int) (w : World) (h : L.In w.heap.size w) :
    Calls Try.prog 22 #[.agg #[.slice L.na L.n L.nc, .slice L.ea L.m L.ec], .string s, .int .i64 lev] w fun e w' => e = .returned (.tuple #[.string (keyV L s lev), .int .i64 (keyE L s lev)]) ∧ Below w.heap.size w w' := by
  have HL : Hid (∀ w', Below w.heap.size w w' → L.In w'.heap.size w') := fun w' hb => h.later hb
  clear h
  go_enter Try.func22, Try.ntmps22
  go_wp2_with (go_at_call 35; refine (tableKey_any L _ _ _ (HL.out _ (below_one _))).mono ?_; rintro e w1 ⟨rfl, hb1⟩)
  go_ret2
  exact ⟨rfl, below_then (below_one _) hb1⟩

end Go.Proofs.Ytpclldccjpncdab

namespace Go.Proofs.Ytpclldccjpncdab
open Go.RowKit

/-! ### a table whose texts are all of one byte -/
theorem lenAt_one {m : Nat} {tx : Nat → ByteArray} (h1 : ∀ i, i < m → (tx i).size = 1) {s : ByteArray} {p : Nat} (hp : p < s.size) (ht : isText m tx (sub s p 1)) : lenAt m tx s p = 1 := by
  refine lenAt_eq (by omega) (by omega) (by omega) (fun _ => ht) fun k hk hk3 hks ⟨i, hi, he⟩ => ?_
  have := h1 i hi
  rw [he, size_sub s p k hks] at this
  omega
theorem pos_one {m : Nat} {tx : Nat → ByteArray} (h1 : ∀ i, i < m → (tx i).size = 1) {s : ByteArray} (ht : ∀ p, p < s.size → isText m tx (sub s p 1)) : ∀ q, q ≤ s.size → pos m tx s q = q
  | 0, _ => rfl
  | q + 1, h => by
    rw [pos, pos_one h1 ht q (by omega), lenAt_one h1 (by omega) (ht q (by omega))]
theorem cut_one {m : Nat} {tx : Nat → ByteArray} (h1 : ∀ i, i < m → (tx i).size = 1) {s : ByteArray} (ht : ∀ p, p < s.size → isText m tx (sub s p 1)) : Cut m tx s s.size := by
  refine ⟨fun j hj => ?_, ?_⟩
  · rw [pos_one h1 ht j (by omega), lenAt_one h1 hj (ht j hj)]; omega
  · rw [pos_one h1 ht s.size (Nat.le_refl _)]; exact lenAt_end m tx s

/-- the table of the document's examples -/
structure Samp (L : Lay) : Prop where
  n : L.n = 5
  m : L.m = 5
  p : L.p = fun i => [0, 8, 8, 16, 24].getD i 0
  s : L.s = fun i => [16, 8, 8, 8, 8].getD i 0
  t : L.t = fun i => [8, 8, 16, 8, 8].getD i 0
  tx : L.tx = fun i => ([⟨#[39]⟩, ⟨#[65]⟩, ⟨#[97]⟩, ⟨#[98]⟩, ⟨#[99]⟩] : List ByteArray).getD i ByteArray.empty
  k : L.k = fun _ => 1
  z : L.z = fun i _ => [0, 2, 1, 3, 4].getD i 0
theorem lt5 {i : Nat} (h : i < 5) : i = 0 ∨ i = 1 ∨ i = 2 ∨ i = 3 ∨ i = 4 := by omega
theorem Samp.err {L : Lay} (h : Samp L) : L.err = 0 := by
  refine (err_ok (by rw [h.n]; omega) (by rw [h.m]; omega) (nodesB_true fun j hj => ?_).symm (entriesB_yes fun i hi => ?_).symm).symm
  · rw [h.n] at hj
    rw [h.p, h.s, h.t]
    rcases lt5 hj with rfl | rfl | rfl | rfl | rfl <;> first | exact ⟨by decide, fun _ => by decide⟩ | exact ⟨by decide, fun h0 => by omega⟩
  · rw [h.m] at hi
    refine ⟨(entryB_yes ?_).symm, fun h0 => ?_⟩
    · rw [h.tx, h.k, h.z, h.n]
      refine ⟨?_, ⟨Nat.le_refl _, (by omega : 1 ≤ 4)⟩, fun q hq => ?_⟩
      · rcases lt5 hi with rfl | rfl | rfl | rfl | rfl <;> decide
      · rcases lt5 hi with rfl | rfl | rfl | rfl | rfl <;> simp
    · rw [h.tx]
      rcases lt5 hi with rfl | rfl | rfl | rfl | rfl <;> first | omega | decide +kernel
theorem Samp.one {L : Lay} (h : Samp L) : ∀ i, i < L.m → (L.tx i).size = 1 := fun i hi => by
  rw [h.m] at hi
  rw [h.tx]
  rcases lt5 hi with rfl | rfl | rfl | rfl | rfl <;> rfl
theorem Samp.idx {L : Lay} (h : Samp L) (i : Nat) (hi : i < 5) : idx L.m L.tx (L.tx i) = i := by
  refine idx_eq (by rw [h.m]; exact hi) rfl fun j hj => ?_
  rw [h.tx]
  rcases lt5 hi with rfl | rfl | rfl | rfl | rfl
  · omega
  · have : j = 0 := by omega
    subst this; decide
  · have : j = 0 ∨ j = 1 := by omega
    rcases this with rfl | rfl <;> decide
  · have : j = 0 ∨ j = 1 ∨ j = 2 := by omega
    rcases this with rfl | rfl | rfl <;> decide
  · have : j = 0 ∨ j = 1 ∨ j = 2 ∨ j = 3 := by omega
    rcases this with rfl | rfl | rfl | rfl <;> decide
/-- a text of it: the entries' numbers -/
theorem Samp.text {L : Lay} (h : Samp L) (s : ByteArray) (l : List Nat) (hl : l.length = s.size) (hs : ∀ p, p < s.size → l.getD p 0 < 5 ∧ sub s p 1 = L.tx (l.getD p 0)) :
    hasP L s ∧ nodesN L s = l.map fun i => [0, 2, 1, 3, 4].getD i 0 := by
  have ht : ∀ p, p < s.size → isText L.m L.tx (sub s p 1) := fun p hp => ⟨l.getD p 0, by rw [h.m]; exact (hs p hp).1, (hs p hp).2.symm⟩
  have hc := cut_one h.one ht
  have hn := cutN_eq hc
  refine ⟨by unfold hasP; rw [hn]; exact pos_one h.one ht _ (Nat.le_refl _), ?_⟩
  unfold nodesN nums
  rw [hn, List.flatMap_def]
  have hj : ∀ j, j < s.size → entNums L.z L.k (pidx L.m L.tx s j) = [[0, 2, 1, 3, 4].getD (l.getD j 0) 0] := fun j hj => by
    have : pidx L.m L.tx s j = l.getD j 0 := by
      unfold pidx piece
      rw [pos_one h.one ht j (by omega), lenAt_one h.one hj (ht j hj), (hs j hj).2]
      exact h.idx _ (hs j hj).1
    rw [this]
    unfold entNums
    rw [h.k, h.z]
    rcases lt5 (hs j hj).1 with e | e | e | e | e <;> rw [e] <;> rfl
  rw [List.map_congr_left (g := fun j => [[0, 2, 1, 3, 4].getD (l.getD j 0) 0]) fun j hj' => hj j (List.mem_range.1 hj'), ← List.flatMap_def, ← hl]
  clear hj hc hn ht hs hl
  induction l with
  | nil => rfl
  | cons a r ih =>
    rw [List.length_cons, List.range_succ_eq_map, List.flatMap_cons, List.map_cons, ← ih]
    simp [List.flatMap_map]
def sampW (lv c : Nat) : Int := if lv = 1 then [0, 8, 8, 16, 24].getD c 0 else if lv = 2 then [16, 8, 8, 8, 8].getD c 0 else [8, 8, 16, 8, 8].getD c 0
theorem Samp.wt {L : Lay} (h : Samp L) : wt L = sampW := by
  funext lv c
  unfold Proofs.Ytpclldccjpncdab.wt sampW
  rw [h.p, h.s, h.t]
theorem Samp.orders {L : Lay} (h : Samp L) : cmpE L ⟨#[97, 39]⟩ ⟨#[65]⟩ 3 = 0 ∧ cmpV L ⟨#[97, 39]⟩ ⟨#[65]⟩ 3 = 1 ∧ keyE L ⟨#[97, 39, 98]⟩ 3 = 0 ∧ keyV L ⟨#[97, 39, 98]⟩ 3 = ⟨#[8, 16, 0, 8, 16, 8, 0, 8, 8, 8]⟩ := by
  obtain ⟨a1, a2⟩ := h.text ⟨#[97, 39]⟩ [2, 0] rfl (fun p hp => by
    have hp' : p < 2 := hp
    rw [h.tx]
    have : p = 0 ∨ p = 1 := by omega
    rcases this with rfl | rfl <;> exact ⟨by decide, by decide⟩)
  obtain ⟨b1, b2⟩ := h.text ⟨#[65]⟩ [1] rfl (fun p hp => by
    have hp' : p < 1 := hp
    rw [h.tx]
    have : p = 0 := by omega
    subst this
    exact ⟨by decide, by decide⟩)
  obtain ⟨c1, c2⟩ := h.text ⟨#[97, 39, 98]⟩ [2, 0, 3] rfl (fun p hp => by
    have hp' : p < 3 := hp
    rw [h.tx]
    have : p = 0 ∨ p = 1 ∨ p = 2 := by omega
    rcases this with rfl | rfl | rfl <;> exact ⟨by decide, by decide⟩)
  have hE : cmpE L ⟨#[97, 39]⟩ ⟨#[65]⟩ 3 = 0 := by
    unfold cmpE
    rw [if_neg (by rw [h.err]; simp), if_neg (by decide), if_neg (by decide), if_neg (by simp [a1, b1])]
  have hK : keyE L ⟨#[97, 39, 98]⟩ 3 = 0 := keyE_ok h.err (by decide) (by decide) (by decide) c1
  refine ⟨hE, ?_, hK, ?_⟩
  · unfold cmpV
    rw [if_neg (by rw [hE]; simp)]
    simp only [show (3 : Int).toNat = 3 from rfl, cmpFrom, wl, a2, b2, wts, h.wt]
    decide
  · rw [keyV_ok hK]
    simp only [show (3 : Int).toNat = 3 from rfl, keyL, wl, c2, wts, h.wt]
    decide

end Go.Proofs.Ytpclldccjpncdab

namespace Go.Proofs.Ytpclldccjpncdab
open Go.RowKit

def sampN : Array Value := #[.int .i64 0, .int .i64 16, .int .i64 8, .int .i64 8, .int .i64 8, .int .i64 8, .int .i64 8, .int .i64 8, .int .i64 16, .int .i64 16, .int .i64 8, .int .i64 8, .int .i64 24, .int .i64 8, .int .i64 8]
def sampE (g : Nat) : Array Value := #[.string ⟨#[39]⟩, .slice (some ⟨g + 1 + 1, 0, none⟩) 1 1, .string ⟨#[65]⟩, .slice (some ⟨g + 1 + 1 + 1, 0, none⟩) 1 1, .string ⟨#[97]⟩, .slice (some ⟨g + 1 + 1 + 1 + 1, 0, none⟩) 1 1,
  .string ⟨#[98]⟩, .slice (some ⟨g + 1 + 1 + 1 + 1 + 1, 0, none⟩) 1 1, .string ⟨#[99]⟩, .slice (some ⟨g + 1 + 1 + 1 + 1 + 1 + 1, 0, none⟩) 1 1]
def sampT (g : Nat) : Array Value := #[.slice (some ⟨g + 1, 0, none⟩) 5 5, .slice (some ⟨g + 1 + 1 + 1 + 1 + 1 + 1 + 1, 0, none⟩) 5 5]
def sampWorld (w : World) : World := ((((((((w.alloc (.cells (sampT w.heap.size) 27)).alloc (.cells sampN 60)).alloc (.cells #[.int .i64 0] 3)).alloc (.cells #[.int .i64 2] 3)).alloc (.cells #[.int .i64 1] 3)).alloc (.cells #[.int .i64 3] 3)).alloc (.cells #[.int .i64 4] 3)).alloc (.cells (sampE w.heap.size) 41))
def sampLay (g : Nat) : Lay where
  n := 5
  m := 5
  na := some ⟨g + 1, 0, none⟩
  ea := some ⟨g + 1 + 1 + 1 + 1 + 1 + 1 + 1, 0, none⟩
  nc := 5
  ec := 5
  nb := g + 1
  no := 0
  eb := g + 1 + 1 + 1 + 1 + 1 + 1 + 1
  eo := 0
  p := fun i => [0, 8, 8, 16, 24].getD i 0
  s := fun i => [16, 8, 8, 8, 8].getD i 0
  t := fun i => [8, 8, 16, 8, 8].getD i 0
  tx := fun i => ([⟨#[39]⟩, ⟨#[65]⟩, ⟨#[97]⟩, ⟨#[98]⟩, ⟨#[99]⟩] : List ByteArray).getD i ByteArray.empty
  la := fun i => some ⟨g + 2 + i, 0, none⟩
  k := fun _ => 1
  lc := fun _ => 1
  lb := fun i => g + 2 + i
  lo := fun _ => 0
  z := fun i _ => [0, 2, 1, 3, 4].getD i 0
theorem sampLay_is (g : Nat) : Samp (sampLay g) := ⟨rfl, rfl, rfl, rfl, rfl, rfl, rfl, rfl⟩
theorem sampLay_in (w : World) : (sampLay w.heap.size).In (sampWorld w).heap.size (sampWorld w) := by
  have hz : (sampWorld w).heap.size = w.heap.size + 8 := by simp [sampWorld]
  have rN : (sampWorld w).rowIs (w.heap.size + 1) 60 15 (fun i => sampN.getD i undef) := by
    unfold sampWorld
    refine World.rowIs.alloc (World.rowIs.alloc (World.rowIs.alloc (World.rowIs.alloc (World.rowIs.alloc (World.rowIs.alloc (row_at (row_new _ sampN _ 15 rfl) (by simp only [size_one]) fun _ _ => rfl) _) _) _) _) _) _
  have rE : (sampWorld w).rowIs (w.heap.size + 1 + 1 + 1 + 1 + 1 + 1 + 1) 41 10 (fun i => (sampE w.heap.size).getD i undef) := by
    unfold sampWorld
    exact row_at (row_new _ (sampE w.heap.size) _ 10 rfl) (by simp only [size_one]) fun _ _ => rfl
  have r0 : (sampWorld w).rowIs (w.heap.size + 2 + 0) 3 1 (fun i => #[Value.int .i64 0].getD i undef) := by
    unfold sampWorld
    refine World.rowIs.alloc (World.rowIs.alloc (World.rowIs.alloc (World.rowIs.alloc (World.rowIs.alloc (row_at (row_new _ #[.int .i64 0] _ 1 rfl) (by simp only [size_one]) fun _ _ => rfl) _) _) _) _) _
  have r1 : (sampWorld w).rowIs (w.heap.size + 2 + 1) 3 1 (fun i => #[Value.int .i64 2].getD i undef) := by
    unfold sampWorld
    refine World.rowIs.alloc (World.rowIs.alloc (World.rowIs.alloc (World.rowIs.alloc (row_at (row_new _ #[.int .i64 2] _ 1 rfl) (by simp only [size_one]) fun _ _ => rfl) _) _) _) _
  have r2 : (sampWorld w).rowIs (w.heap.size + 2 + 2) 3 1 (fun i => #[Value.int .i64 1].getD i undef) := by
    unfold sampWorld
    refine World.rowIs.alloc (World.rowIs.alloc (World.rowIs.alloc (row_at (row_new _ #[.int .i64 1] _ 1 rfl) (by simp only [size_one]) fun _ _ => rfl) _) _) _
  have r3 : (sampWorld w).rowIs (w.heap.size + 2 + 3) 3 1 (fun i => #[Value.int .i64 3].getD i undef) := by
    unfold sampWorld
    refine World.rowIs.alloc (World.rowIs.alloc (row_at (row_new _ #[.int .i64 3] _ 1 rfl) (by simp only [size_one]) fun _ _ => rfl) _) _
  have r4 : (sampWorld w).rowIs (w.heap.size + 2 + 4) 3 1 (fun i => #[Value.int .i64 4].getD i undef) := by
    unfold sampWorld
    refine World.rowIs.alloc (row_at (row_new _ #[.int .i64 4] _ 1 rfl) (by simp only [size_one]) fun _ _ => rfl) _
  refine ⟨⟨fun _ => rfl, fun _ => rN.lt, fun i hi => ?_, fun i hi => ?_, fun i hi => ?_, by show 5 * 24 ≤ _; omega⟩, ⟨fun _ => rfl, fun _ => rE.lt, fun i hi => ?_, fun i hi => ?_, fun i hi => ?_, by show 5 * 40 ≤ _; omega⟩⟩
  · rcases lt5 hi with rfl | rfl | rfl | rfl | rfl
    · exact rN.cell (i := 0) (by omega)
    · exact rN.cell (i := 3) (by omega)
    · exact rN.cell (i := 6) (by omega)
    · exact rN.cell (i := 9) (by omega)
    · exact rN.cell (i := 12) (by omega)
  · rcases lt5 hi with rfl | rfl | rfl | rfl | rfl
    · exact rN.cell (i := 1) (by omega)
    · exact rN.cell (i := 4) (by omega)
    · exact rN.cell (i := 7) (by omega)
    · exact rN.cell (i := 10) (by omega)
    · exact rN.cell (i := 13) (by omega)
  · rcases lt5 hi with rfl | rfl | rfl | rfl | rfl
    · exact rN.cell (i := 2) (by omega)
    · exact rN.cell (i := 5) (by omega)
    · exact rN.cell (i := 8) (by omega)
    · exact rN.cell (i := 11) (by omega)
    · exact rN.cell (i := 14) (by omega)
  · rcases lt5 hi with rfl | rfl | rfl | rfl | rfl
    · exact rE.cell (i := 0) (by omega)
    · exact rE.cell (i := 2) (by omega)
    · exact rE.cell (i := 4) (by omega)
    · exact rE.cell (i := 6) (by omega)
    · exact rE.cell (i := 8) (by omega)
  · rcases lt5 hi with rfl | rfl | rfl | rfl | rfl
    · exact rE.cell (i := 1) (by omega)
    · exact rE.cell (i := 3) (by omega)
    · exact rE.cell (i := 5) (by omega)
    · exact rE.cell (i := 7) (by omega)
    · exact rE.cell (i := 9) (by omega)
  · have one : ∀ q, q < 1 → q = 0 := by omega
    rcases lt5 hi with rfl | rfl | rfl | rfl | rfl
    · exact ⟨fun _ => rfl, fun _ => r0.lt, fun q hq => by obtain rfl := one q hq; exact r0.cell (i := 0) (by omega), by show 1 * 8 ≤ _; omega⟩
    · exact ⟨fun _ => rfl, fun _ => r1.lt, fun q hq => by obtain rfl := one q hq; exact r1.cell (i := 0) (by omega), by show 1 * 8 ≤ _; omega⟩
    · exact ⟨fun _ => rfl, fun _ => r2.lt, fun q hq => by obtain rfl := one q hq; exact r2.cell (i := 0) (by omega), by show 1 * 8 ≤ _; omega⟩
    · exact ⟨fun _ => rfl, fun _ => r3.lt, fun q hq => by obtain rfl := one q hq; exact r3.cell (i := 0) (by omega), by show 1 * 8 ≤ _; omega⟩
    · exact ⟨fun _ => rfl, fun _ => r4.lt, fun q hq => by obtain rfl := one q hq; exact r4.cell (i := 0) (by omega), by show 1 * 8 ≤ _; omega⟩
theorem sampT_row (w : World) : (sampWorld w).heap[w.heap.size]? = some (.cells (sampT w.heap.size) 27 (0, 0)) := by
  have r : (sampWorld w).rowIs w.heap.size 27 2 (fun i => (sampT w.heap.size).getD i undef) := by
    unfold sampWorld
    refine World.rowIs.alloc (World.rowIs.alloc (World.rowIs.alloc (World.rowIs.alloc (World.rowIs.alloc (World.rowIs.alloc (World.rowIs.alloc (row_new _ (sampT w.heap.size) _ 2 rfl) _) _) _) _) _) _) _
  exact row2_cells r
theorem sampWorld_below (w : World) : Below w.heap.size w (sampWorld w) :=
  below_then (below_then (below_then (below_then (below_then (below_then (below_then (below_one _) (below_one _)) (below_one _)) (below_one _)) (below_one _)) (below_one _)) (below_one _)) (below_one _)

set_option maxRecDepth 100000 in
set_option maxHeartbeats 1000000 in
theorem sample_any (w : World) : Calls Try.prog 24 #[] w fun e w' => (∃ L : Lay, e = .returned (.agg #[.slice L.na L.n L.nc, .slice L.ea L.m L.ec]) ∧ Samp L ∧ L.In w'.heap.size w') ∧ Below w.heap.size w w' := by
  go_enter Try.func24, Try.ntmps24
  go_wp2
  refine bodyPost_ret (v := .agg (sampT w.heap.size)) (w := sampWorld w) (results_cell_row rfl _ _ w.heap.size 27 (sampT w.heap.size) (0, 0) _ (by rfl) (sampT_row w) Try.underlying27 rfl size29) rfl ⟨⟨sampLay w.heap.size, rfl, sampLay_is _, sampLay_in w⟩, sampWorld_below w⟩

end Go.Proofs.Ytpclldccjpncdab
