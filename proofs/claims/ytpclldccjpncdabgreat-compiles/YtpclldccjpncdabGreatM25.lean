import Derived.Test.YtpclldccjpncdabGreatM24
namespace Go.Proofs.YtpclldccjpncdabGreat
open Go.RowKit

noncomputable def entI (m : Nat) (tx : Nat → ByteArray) (u : ByteArray) : Int := if idx m tx u < m then (idx m tx u : Nat) else -1
theorem entI_hit {m : Nat} {tx : Nat → ByteArray} {u : ByteArray} {i : Nat} (hi : i < m) (ht : tx i = u) (hf : ∀ j, j < i → tx j ≠ u) : (i : Int) = entI m tx u := by
  have := idx_eq hi ht hf
  simp [entI, this, hi]
theorem entI_miss {m : Nat} {tx : Nat → ByteArray} {u : ByteArray} (hf : ∀ j, j < m → tx j ≠ u) : -1 = entI m tx u := by
  have : idx m tx u = m := idx_none (fun ⟨i, hi, ht⟩ => hf i hi ht)
  simp [entI, this]
theorem entI_text {m : Nat} {tx : Nat → ByteArray} {u : ByteArray} (h : isText m tx u) : entI m tx u = (idx m tx u : Nat) := by simp [entI, (idx_spec h).1]
theorem entI_no {m : Nat} {tx : Nat → ByteArray} {u : ByteArray} (h : ¬ isText m tx u) : entI m tx u = -1 := by simp [entI, idx_none h]

set_option maxHeartbeats 400000 in
theorem entry_any (m cap b off : Nat) (ao : Option Addr) (tx : Nat → ByteArray) (la : Nat → Option Addr) (k lc lb lo : Nat → Nat) (z : Nat → Nat → Int) (u : ByteArray) (w : World) (hm : m ≤ 1000) (h : EntriesIn w.heap.size w ao m b off tx la k lc lb lo z) :
    Calls Tryz.prog 70 #[.slice ao m cap, .string u] w fun e w' => e = .returned (.int .i64 (entI m tx u)) ∧ w = w' := by
  have HE : Hid (EntriesIn w.heap.size w ao m b off tx la k lc lb lo z) := h
  clear h
  go_enter Tryz.func70, Tryz.ntmps70
  go_wp2
  go_loop [5] (fun iv => ∃ i : Nat, i ≤ m ∧ iv = .int .i64 i ∧ ∀ j, j < i → tx j ≠ u) (fun iv => m - (intOf iv).toNat)
  case atStart => exact ⟨0, Nat.zero_le _, rfl, fun j hj => by omega⟩
  case round =>
    obtain ⟨i, hi, rfl, hno⟩ := hrel
    have HN : Hid (∀ j, j < i → tx j ≠ u) := hno
    clear hno
    by_cases hlt : i < m
    · have ha := HE.out.addr (by omega)
      subst ha
      have c0 := HE.out.text i hlt
      by_cases ht : tx i = u
      · have hb : ((tx i).toList == u.toList) = true := by simp [ht]
        have HT : Hid (tx i = u) := ht
        clear ht
        go_wp2
        go_ret
        exact ⟨ret_int (entI_hit hlt HT.out HN.out), rfl⟩
      · have hb : ((tx i).toList == u.toList) = false := by simp [bytes_eq, ht]
        have HT : Hid (tx i ≠ u) := ht
        clear ht
        go_wp2
        go_round
        case rel => exact ⟨i + 1, by omega, by go_num, fun j hj => by
            by_cases e : j = i
            · rw [e]; exact HT.out
            · exact HN.out j (by omega)⟩
        case measure => simp [intOf]; omega
    · go_wp2
      go_ret
      have : i = m := by omega
      subst this
      exact ⟨ret_int (entI_miss HN.out), rfl⟩

set_option maxHeartbeats 400000 in
theorem sameStrings_any (k b off b' off' cap cap' : Nat) (ao ao' : Option Addr) (u : Nat → ByteArray) (w : World) (h : StrsIn w.heap.size w ao k b off u) (h' : StrsIn w.heap.size w ao' k b' off' u) :
    Calls Tryz.prog 17 #[.slice ao k cap, .slice ao' k cap'] w fun e w' => e = .returned (.bool true) ∧ Below w.heap.size w w' := by
  have hk := h.le
  obtain ⟨ha, hb, hc, _⟩ := h
  obtain ⟨ha', hb', hc', _⟩ := h'
  go_enter Tryz.func17, Tryz.ntmps17
  go_wp2
  go_loopw [5] (fun i wr => ∃ j : Nat, j ≤ k ∧ i = .int .i64 j ∧ Below w.heap.size w wr) (fun i _ => k - (intOf i).toNat)
  case atStart => exact ⟨0, Nat.zero_le _, rfl, Below.refl _ _⟩
  case round =>
    obtain ⟨j, hj, rfl, hbel⟩ := hrel
    by_cases hlt : j < k
    · have e1 := ha (by omega)
      have e2 := ha' (by omega)
      subst e1
      subst e2
      have c0 := cellTo hbel (hc j hlt) (hb (by omega))
      have c1 := cellTo hbel (hc' j hlt) (hb' (by omega))
      go_wp2
      go_quiet (fail)
      go_wp2
      go_roundw
      case rel => exact ⟨j + 1, by omega, by go_num, below_drewN hbel _⟩
      case measure => simp [intOf]; omega
    · go_wp2
      go_ret
      exact ⟨rfl, hbel⟩

end Go.Proofs.YtpclldccjpncdabGreat

namespace Go.Proofs.YtpclldccjpncdabGreat
open Go.RowKit

/-- what is left of a text from a place on -/
def rest (s : ByteArray) (p : Nat) : ByteArray := s.extract p s.size
theorem rest_zero (s : ByteArray) : rest s 0 = s := ByteArray.extract_zero_size
theorem rest_size (s : ByteArray) (p : Nat) : (rest s p).size = s.size - p := by simp [rest, ByteArray.size_extract]
theorem rest_sub (s : ByteArray) (p n : Nat) (h : p + n ≤ s.size) : (rest s p).extract 0 n = sub s p n := by
  rw [rest, sub, ByteArray.extract_extract, Nat.add_zero, Nat.min_eq_left h]
theorem rest_rest (s : ByteArray) (p n : Nat) : (rest s p).extract n (rest s p).size = rest s (p + n) := by
  rw [rest_size, rest, ByteArray.extract_extract, rest]
  congr 1
  omega

set_option maxRecDepth 100000 in
set_option maxHeartbeats 1000000 in
theorem refCut_any (m cap b off : Nat) (ao : Option Addr) (tx : Nat → ByteArray) (la : Nat → Option Addr) (k lc lb lo : Nat → Nat) (z : Nat → Nat → Int) (s : ByteArray) (w : World) (hm : m ≤ 1000) (hs : s.size ≤ 1000)
    (h : EntriesIn w.heap.size w ao m b off tx la k lc lb lo z) :
    Calls Tryz.prog 40 #[.slice ao m cap, .string s] w fun e w' => ∃ q, Cut m tx s q ∧ Below w.heap.size w w' ∧
      ((pos m tx s q = s.size ∧ ∃ v, e = .returned (.tuple #[v, .bool true]) ∧ w'.ownsRow w.heap.size 9 1 v q ((List.range q).map fun j => .string (piece m tx s j))) ∨ (pos m tx s q ≠ s.size ∧ e = .returned (.tuple #[.slice none 0 0, .bool false]))) := by
  have HE : Hid (EntriesIn w.heap.size w ao m b off tx la k lc lb lo z) := h
  clear h
  obtain ⟨i0, hi0, hq0, hq1, hq2⟩ := info_parts infoStr
  go_enter Tryz.func40, Tryz.ntmps40
  go_wp2
  go_loopw [1, 6] (fun sv v wr => ∃ (q : Nat) (r : ByteArray), sv = .string r ∧ r = rest s (pos m tx s q) ∧ (∀ j, j < q → 0 < lenAt m tx s (pos m tx s j)) ∧ Below w.heap.size w wr ∧ wr.ownsRow w.heap.size 9 1 v q ((List.range q).map fun j => .string (piece m tx s j)))
    (fun sv _ _ => match sv with | .string r => r.size | _ => 0)
  case atStart => exact ⟨0, s, rfl, (rest_zero s).symm, fun j hj => by omega, Below.refl _ _, World.ownsRow_nil _ _ _ _⟩
  case round =>
    obtain ⟨q, r, rfl, hr, hgo, hbel, hown⟩ := hrel
    have hpl := pos_le m tx s q
    have hqp := pos_ge q hgo
    have HGO : Hid (∀ j, j < q → 0 < lenAt m tx s (pos m tx s j)) := hgo
    have HOWN : Hid (wr.ownsRow w.heap.size 9 1 _ q ((List.range q).map fun j => .string (piece m tx s j))) := hown
    clear hgo hown
    obtain ⟨pp, hpp⟩ : ∃ pp, pp = pos m tx s q := ⟨_, rfl⟩
    have HPP : Hid (pp = pos m tx s q) := hpp
    rw [← hpp] at hpl hqp hr
    clear hpp
    have hrs : r.size = s.size - pp := by rw [hr]; exact rest_size s pp
    have HRS : Hid (r.size = s.size - pp) := hrs
    have HR : Hid (r = rest s pp) := hr
    clear hr
    have hsz := hbel.size
    by_cases hlt : pp < s.size
    · have hr0 : 0 < r.size := by omega
      have hr1 : r.size ≤ 1000 := by omega
      clear hrs
      rcases Bool.eq_false_or_eq_true (decide ((r.size : Int) < 3)) with hd | hd
      all_goals
        have h3 := hd
        simp only [decide_eq_true_eq, decide_eq_false_iff_not] at h3
        go_wp2
        go_loop [7] (fun nv => ∃ n : Nat, nv = .int .i64 n ∧ n ≤ 3 ∧ n ≤ r.size ∧ ∀ x, n < x → x ≤ 3 → pp + x ≤ s.size → ¬ isText m tx (sub s pp x)) (fun nv => (intOf nv).toNat)
        case atStart => first | exact ⟨3, rfl, by omega, by omega, fun x h1 h2 _ => by omega⟩ | exact ⟨r.size, rfl, by omega, by omega, fun x h1 h2 h4 => by have := HRS.out; omega⟩
        case round =>
          obtain ⟨n, rfl, hn3, hnr, hno⟩ := hrel
          have HNO : Hid (∀ x, n < x → x ≤ 3 → pp + x ≤ s.size → ¬ isText m tx (sub s pp x)) := hno
          clear hno
          have hps : pp + n ≤ s.size := by have := HRS.out; omega
          by_cases hn0 : 0 < n
          · have hsub : r.extract 0 n = sub s pp n := by rw [HR.out]; exact rest_sub s pp n hps
            have HSUB : Hid (r.extract 0 n = sub s pp n) := hsub
            clear hsub
            by_cases hit : isText m tx (sub s pp n)
            · have HL : Hid (lenAt m tx s pp = n) := lenAt_eq hpl hn3 hps (fun _ => hit) HNO.out
              have HI : Hid (entI m tx (r.extract 0 n) = (idx m tx (sub s pp n) : Nat)) := by show _ = _; rw [HSUB.out]; exact entI_text hit
              obtain ⟨c, hc⟩ : ∃ c : Nat, c = idx m tx (sub s pp n) := ⟨_, rfl⟩
              have HC : Hid (c = idx m tx (sub s pp n)) := hc
              clear hc hit
              go_wp2_with (first
                | (go_at_call 70; refine (entry_any _ _ _ _ _ _ _ _ _ _ _ _ _ _ hm ((HE.out.below hbel).mono hsz)).mono ?_; rintro e w1 ⟨rfl, rfl⟩; rw [HI.out, ← HC.out])
                | (at_builtin; refine wpList_append_lies _ (by rfl) (.tmp 31) (.tmp 35) 40 (by rfl) w.heap.size 9 i0 (.string ByteArray.empty) 1 16 Tryz.underlying40 hi0 hq0 hq1 hq2 rfl (by omega) _ q _ (by rfl) (HOWN.out.alloc _) ⟨wr.heap.size, 0, none⟩ 1 1 [.string (r.extract 0 n)] (by rfl) (by rfl) ?c1 ?c2 (by omega) ?c3 ?c5 ?c4 (wr.heap.size + 1) (by simp) ?_))
              case c1 => exact cell_one_new _ _ _
              case c2 => intro u hu; simp at hu; subst hu; rfl
              case c3 => unfold maxLen; omega
              case c5 => omega
              case c4 => simp; omega
              · intro gv2 cap2 w3 hown2 hgrow _ _
                have HBN : Hid (Below w.heap.size w w3) := (hbel.alloc hsz _).grown hgrow (by simp; omega) (fun r hr => by
                  obtain ⟨_, ho⟩ := HOWN.out
                  rcases ho with ⟨hv, _⟩ | ⟨b', _, _, hv, hb', _⟩
                  · rw [hv] at hr; simp [Value.ownBlock] at hr
                  · rw [hv] at hr; simp [Value.ownBlock] at hr; omega)
                have HO2 : Hid (w3.ownsRow w.heap.size 9 1 (.slice (some ⟨gv2, 0, none⟩) (q + 1) cap2) (q + 1) ((List.range (q + 1)).map fun j => .string (piece m tx s j))) := by
                  show _
                  rw [List.range_succ, List.map_append]
                  have : piece m tx s q = r.extract 0 n := by rw [piece, ← HPP.out, HL.out, HSUB.out]
                  rw [List.map_singleton, this]
                  exact hown2
                clear hown2 hgrow
                go_wp2
                go_roundw
                case rel =>
                  refine ⟨q + 1, _, rfl, ?_, fun j hj => ?_, HBN.out, HO2.out⟩
                  · show _ = rest s (pos m tx s q + lenAt m tx s (pos m tx s q))
                    rw [← HPP.out, HL.out, ← rest_rest, ← HR.out]
                  · by_cases e : j = q
                    · rw [e, ← HPP.out, HL.out]; exact hn0
                    · exact HGO.out j (by omega)
                case measure => simp [ByteArray.size_extract]; omega
            · have HI : Hid (entI m tx (r.extract 0 n) = -1) := by show _ = _; rw [HSUB.out]; exact entI_no hit
              have HIT : Hid (¬ isText m tx (sub s pp n)) := hit
              clear hit
              go_wp2_with (go_at_call 70; refine (entry_any _ _ _ _ _ _ _ _ _ _ _ _ _ _ hm ((HE.out.below hbel).mono hsz)).mono ?_; rintro e w1 ⟨rfl, rfl⟩; rw [HI.out])
              go_round
              case rel => exact ⟨n - 1, by go_num, by omega, by omega, fun x h1 h2 h4 => by
                  by_cases e : x = n
                  · rw [e]; exact HIT.out
                  · exact HNO.out x (by omega) h2 h4⟩
              case measure => simp [intOf]; omega
          · have hnz : n = 0 := by omega
            subst hnz
            have HL : Hid (lenAt m tx s pp = 0) := lenAt_eq hpl (by omega) (by omega) (by omega) HNO.out
            go_wp2
            go_ret2
            exact ⟨q, ⟨HGO.out, by rw [← HPP.out]; exact HL.out⟩, hbel, .inr ⟨by rw [← HPP.out]; omega, rfl⟩⟩
    · have hre : r.size = 0 := by omega
      have hpe : pp = s.size := by omega
      have HPE : Hid (pos m tx s q = s.size) := by show _ = _; rw [← HPP.out]; exact hpe
      go_wp2
      go_ret2
      exact ⟨q, ⟨HGO.out, by rw [HPE.out]; exact lenAt_end m tx s⟩, hbel, .inl ⟨HPE.out, _, rfl, HOWN.out⟩⟩

end Go.Proofs.YtpclldccjpncdabGreat

namespace Go.Proofs.YtpclldccjpncdabGreat
open Go.RowKit

set_option maxHeartbeats 1000000 in
theorem refSign_any (a b : List Int) (ao bo : Option Addr) (ab aoff bb boff acap bcap : Nat) (w : World) (h : IntsL w.heap.size w ao a ab aoff) (h' : IntsL w.heap.size w bo b bb boff) :
    Calls Tryz.prog 44 #[.slice ao a.length acap, .slice bo b.length bcap] w fun e w' => e = .returned (.int .i64 (cmpL a b)) ∧ Below w.heap.size w w' := by
  have la := h.le
  have lb := h'.le
  have HA : Hid (IntsL w.heap.size w ao a ab aoff) := h
  have HB : Hid (IntsL w.heap.size w bo b bb boff) := h'
  clear h h'
  obtain ⟨n, hn⟩ : ∃ n, n = a.length := ⟨_, rfl⟩
  obtain ⟨m, hm⟩ : ∃ m, m = b.length := ⟨_, rfl⟩
  rw [← hn] at la ⊢
  rw [← hm] at lb ⊢
  have HN : Hid (n = a.length) := hn
  have HM : Hid (m = b.length) := hm
  clear hn hm
  go_enter Tryz.func44, Tryz.ntmps44
  go_wp2
  go_loopw [5] (fun iv wr => ∃ j : Nat, j ≤ n ∧ j ≤ m ∧ iv = .int .i64 j ∧ Below w.heap.size w wr ∧ cmpL (a.drop j) (b.drop j) = cmpL a b) (fun iv _ => n + 1 - (intOf iv).toNat)
  case atStart => exact ⟨0, Nat.zero_le _, Nat.zero_le _, rfl, Below.refl _ _, by simp⟩
  case round =>
    obtain ⟨j, hj1, hj2, rfl, hbel, hcmp⟩ := hrel
    have HC : Hid (cmpL (a.drop j) (b.drop j) = cmpL a b) := hcmp
    clear hcmp
    by_cases hja : j < n
    · by_cases hjb : j < m
      · have pa : j < a.length := by have := HN.out; omega
        have pb : j < b.length := by have := HM.out; omega
        have e1 := HA.out.addr (by omega)
        have e2 := HB.out.addr (by omega)
        subst e1
        subst e2
        have c0 := cellTo hbel (HA.out.cell j pa) (HA.out.lt (by omega))
        have c1 := cellTo hbel (HB.out.cell j pb) (HB.out.lt (by omega))
        obtain ⟨x, hx⟩ : ∃ x, x = a.getD j 0 := ⟨_, rfl⟩
        obtain ⟨y, hy⟩ : ∃ y, y = b.getD j 0 := ⟨_, rfl⟩
        have HX : Hid (x = a.getD j 0) := hx
        have HY : Hid (y = b.getD j 0) := hy
        rw [← hx] at c0
        rw [← hy] at c1
        clear hx hy pa pb
        by_cases hlt : x < y
        · go_wp2
          go_quiet (fail)
          go_wp2
          go_ret
          exact ⟨ret_int (by rw [← HC.out]; exact (cmpL_lt (by have := HN.out; omega) (by have := HM.out; omega) (by rw [← HX.out, ← HY.out]; exact hlt)).symm), below_drewN hbel _⟩
        · by_cases hgt : y < x
          · go_wp2
            go_quiet (fail)
            go_wp2
            go_quiet (fail)
            go_wp2
            go_ret
            exact ⟨ret_int (by rw [← HC.out]; exact (cmpL_gt (by have := HN.out; omega) (by have := HM.out; omega) (by rw [← HX.out, ← HY.out]; exact hgt)).symm), (by first | exact below_drewN hbel _ | exact below_drewN (below_drewN hbel _) _)⟩
          · go_wp2
            go_quiet (fail)
            go_wp2
            go_quiet (fail)
            go_wp2
            go_roundw
            case rel => exact ⟨j + 1, by omega, by omega, by go_num, (by first | exact below_drewN hbel _ | exact below_drewN (below_drewN hbel _) _), by rw [← HC.out]; exact (cmpL_eq (by have := HN.out; omega) (by have := HM.out; omega) (by rw [← HX.out, ← HY.out]; omega)).symm⟩
            case measure => simp [intOf]; omega
      · have hje : j = m := by omega
        subst hje
        go_wp2
        go_ret
        refine ⟨ret_int ?_, hbel⟩
        rw [← HC.out, cmpL_end (.inr HM.out) (by have := HN.out; omega) (by have := HM.out; omega), ← HN.out, ← HM.out]
        have h1 : ¬ n < j := by omega
        simp [h1, hja]
    · have hje : j = n := by omega
      subst hje
      by_cases hnm : j < m
      · go_wp2
        go_ret
        refine ⟨ret_int ?_, hbel⟩
        rw [← HC.out, cmpL_end (.inl HN.out) (by have := HN.out; omega) (by have := HM.out; omega), ← HN.out, ← HM.out]
        simp [hnm]
      · go_wp2
        go_ret
        refine ⟨ret_int ?_, hbel⟩
        rw [← HC.out, cmpL_end (.inl HN.out) (by have := HN.out; omega) (by have := HM.out; omega), ← HN.out, ← HM.out]
        have : j = m := by omega
        simp [this]

/-- the numbers of a text's nodes, as numbers -/
noncomputable def numsZ (L : Lay) (s : ByteArray) (q : Nat) : List Int := (nums L s q).map Int.ofNat
theorem numsZ_succ {L : Lay} (hok : L.Ok) {s : ByteArray} {q : Nat} (h : ∀ j, j < q + 1 → 0 < lenAt L.m L.tx s (pos L.m L.tx s j)) :
    numsZ L s (q + 1) = numsZ L s q ++ (List.range (L.k (pidx L.m L.tx s q))).map fun i => L.z (pidx L.m L.tx s q) i := by
  unfold numsZ
  rw [nums_succ, List.map_append]
  congr 1
  simp only [entNums, List.map_map]
  refine List.map_congr_left fun i hi => ?_
  have := hok.z _ (pidx_spec h (Nat.lt_succ_self q)).1 i (List.mem_range.1 hi)
  simp; omega

set_option maxRecDepth 100000 in
set_option maxHeartbeats 2000000 in
theorem refNodes_any (L : Lay) (s : ByteArray) (eao : Option Addr) (cap : Nat) (w : World) (h : EntriesIn w.heap.size w eao L.m L.eb L.eo L.tx L.la L.k L.lc L.lb L.lo L.z) (hok : L.Ok) (hs : s.size ≤ 24) :
    Calls Tryz.prog 75 #[.slice eao L.m cap, .string s] w fun e w' => ∃ q, Cut L.m L.tx s q ∧ Below w.heap.size w w' ∧
      ((pos L.m L.tx s q = s.size ∧ ∃ ao c b, e = .returned (.tuple #[.slice ao (numsZ L s q).length c, .bool true]) ∧ IntsL w'.heap.size w' ao (numsZ L s q) b 0) ∨
       (pos L.m L.tx s q ≠ s.size ∧ ∃ v, e = .returned (.tuple #[v, .bool false]))) := by
  have HIN : Hid (EntriesIn w.heap.size w eao L.m L.eb L.eo L.tx L.la L.k L.lc L.lb L.lo L.z) := h
  have hm := hok.m
  have HOK : Hid (L.Ok) := hok
  clear h hok
  obtain ⟨i0, hi0, hq0, hq1, hq2⟩ := info_parts infoInt
  go_enter Tryz.func75, Tryz.ntmps75
  go_wp2_with fail
  refine (refCut_any L.m _ _ _ _ L.tx L.la L.k L.lc L.lb L.lo L.z s _ (by omega) (by omega) HIN.out).mono ?_
  rintro e w2 ⟨q, hq, hb2, hor⟩
  have hq1' := pos_ge q hq.go
  have hq2' := pos_le L.m L.tx s q
  have HQ : Hid (Cut L.m L.tx s q) := hq
  have hqs : q ≤ 24 := by omega
  clear hq hq1' hq2'
  rcases hor with ⟨hp, v, rfl, hown⟩ | ⟨hp, rfl⟩
  · obtain ⟨vo, vc, gv, hv, hst⟩ := strs_of_own (by omega) hown
    have HST : Hid (StrsIn w2.heap.size w2 vo q gv 0 (piece L.m L.tx s)) := hst
    have HP : Hid (pos L.m L.tx s q = s.size) := hp
    clear hst hown hp
    subst hv
    go_wp2
    go_loopw [8, 9] (fun v iv wr => ∃ i : Nat, i ≤ q ∧ iv = .int .i64 i ∧ Below w2.heap.size w2 wr ∧ wr.ownsRow w2.heap.size 3 1 v (numsZ L s i).length ((numsZ L s i).map (Value.int .i64))) (fun _ iv _ => q - (intOf iv).toNat)
    case atStart => exact ⟨0, Nat.zero_le _, rfl, Below.refl _ _, World.ownsRow_nil _ _ _ _⟩
    case round =>
      obtain ⟨i, hi, rfl, hbel, hown⟩ := hrel
      have HOWN : Hid (wr.ownsRow w2.heap.size 3 1 _ (numsZ L s i).length ((numsZ L s i).map (Value.int .i64))) := hown
      clear hown
      have hsz := hbel.size
      by_cases hlt : i < q
      · have ha := HST.out.addr (by omega)
        subst ha
        have c0 := cellTo hbel (HST.out.cell i hlt) (HST.out.lt (by omega))
        simp only [Nat.zero_add] at c0
        obtain ⟨e, he⟩ : ∃ e, e = pidx L.m L.tx s i := ⟨_, rfl⟩
        have hpx := idx_spec (lenAt_text (HQ.out.go i hlt))
        have hem : e < L.m := by rw [he]; exact hpx.1
        have HEN : Hid (entI L.m L.tx (piece L.m L.tx s i) = (e : Int)) := by
          show _ = _
          rw [he]
          exact entI_text (lenAt_text (HQ.out.go i hlt))
        have HSUC : Hid (numsZ L s (i + 1) = numsZ L s i ++ (List.range (L.k e)).map fun j => L.z e j) := by
          show _ = _
          rw [he]
          exact numsZ_succ HOK.out (fun j hj => HQ.out.go j (by omega))
        have hke := HOK.out.k e hem
        have hnl := nums_len HOK.out i (fun j hj => HQ.out.go j (by omega))
        have hnz : (numsZ L s i).length ≤ 4 * i := by simp [numsZ]; omega
        clear hnl
        clear he hpx
        have hbw := below_then hb2 hbel
        have hea := HIN.out.addr (by omega)
        subst hea
        have hbb := HIN.out.lt (by omega)
        have cl := cellTo hbw (HIN.out.list e hem) hbb
        have HI : Hid (IntsIn w.heap.size w (L.la e) (L.k e) (L.lb e) (L.lo e) (L.z e)) := HIN.out.ints e hem
        rw [HI.out.addr (by omega)] at cl
        have HNW : Hid (∀ (j : Nat) (u : Value), ((List.range (L.k e)).map fun j => Value.int .i64 (L.z e j))[j]? = some u → wr.cell? ((⟨L.lb e, L.lo e, none⟩ : Addr).add j) = some u) := fun j u hj => by
          have hjk : j < L.k e := by
            by_cases hx : j < L.k e
            · exact hx
            · rw [List.getElem?_eq_none (by simp; omega)] at hj; cases hj
          rw [List.getElem?_map, List.getElem?_range hjk] at hj
          simp at hj
          subst hj
          rw [Addr.add_mid]
          exact cellTo hbw (HI.out.cell j hjk) (HI.out.lt (by omega))
        have HEI : Hid (EntriesIn wr.heap.size wr (some ⟨L.eb, L.eo, none⟩) L.m L.eb L.eo L.tx L.la L.k L.lc L.lb L.lo L.z) := (HIN.out.below hbw).mono hbw.size
        go_wp2_with (first
          | (go_at_call 70; refine (entry_any _ _ _ _ _ _ _ _ _ _ _ _ _ _ (by omega) HEI.out).mono ?_; rintro e _ ⟨rfl, rfl⟩; rw [HEN.out])
          | (at_builtin; refine wpList_append_lies _ (by rfl) (.tmp 29) (.tmp 34) 61 (by rfl) w2.heap.size 3 i0 (.int .i64 0) 1 8 Tryz.underlying61 hi0 hq0 hq1 hq2 rfl (by omega) _ _ _ (by rfl) HOWN.out ⟨L.lb e, L.lo e, none⟩ (L.k e) (L.lc e) ((List.range (L.k e)).map fun j => Value.int .i64 (L.z e j)) (by rfl) ?c0 HNW.out ?c2 (by omega) ?c3 ?c5 (by omega) wr.heap.size rfl ?_))
        case c0 => simp
        case c2 => intro u hu; simp at hu; obtain ⟨_, _, rfl⟩ := hu; rfl
        case c3 => unfold maxLen; omega
        case c5 => omega
        · intro gv2 cap2 w3 hown2 hgrow _ _
          have HBN : Hid (Below w2.heap.size w2 w3) := grown_below hbel hsz HOWN.out (Nat.le_refl _) hgrow
          have ho : w3.ownsRow w2.heap.size 3 1 (.slice (some ⟨gv2, 0, none⟩) ((numsZ L s i).length + L.k e) cap2) (numsZ L s (i + 1)).length ((numsZ L s (i + 1)).map (Value.int .i64)) := by
            rw [HSUC.out, List.length_append, List.map_append, List.map_map, List.length_map, List.length_range]
            exact hown2
          have HO2 : Hid _ := ho
          clear hown2 hgrow ho
          go_wp2
          go_roundw
          case rel => exact ⟨i + 1, by omega, by go_num, HBN.out, HO2.out⟩
          case measure => simp [intOf]; omega
      · have hie : i = q := by omega
        subst hie
        have hnl := nums_len HOK.out i HQ.out.go
        obtain ⟨ao', cap', b', hv, hnn⟩ := ints_of_own rfl (by simp [numsZ]; omega) HOWN.out
        have HNN : Hid (IntsL wr.heap.size wr ao' (numsZ L s i) b' 0) := hnn
        clear hnn
        subst hv
        go_wp2
        go_ret2
        exact ⟨i, HQ.out, below_then hb2 hbel, .inl ⟨HP.out, _, _, _, rfl, HNN.out⟩⟩
  · go_wp2
    go_loopw [8, 9] (fun v iv wr => iv = .int .i64 0 ∧ wr = w2) (fun _ _ _ => 0)
    case atStart => exact ⟨rfl, rfl⟩
    case round =>
      obtain ⟨rfl, rfl⟩ := hrel
      go_wp2
      go_ret2
      exact ⟨q, HQ.out, hb2, .inr ⟨hp, _, rfl⟩⟩

end Go.Proofs.YtpclldccjpncdabGreat
