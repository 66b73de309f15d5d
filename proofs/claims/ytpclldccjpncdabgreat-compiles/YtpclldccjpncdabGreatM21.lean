import Derived.Test.YtpclldccjpncdabGreatM20
namespace Go.Proofs.YtpclldccjpncdabGreat
open Go.RowKit

theorem strengthP_any (p s t p' s' t' : Int) (w : World) :
    Calls Tryz.prog 111 #[.agg #[.int .i64 p, .int .i64 s, .int .i64 t], .agg #[.int .i64 p', .int .i64 s', .int .i64 t']] w fun e w' => e = .returned (.int .i64 (stI p' s' t' p s t)) ∧ Below w.heap.size w w' := by
  obtain ⟨r, hr⟩ : ∃ r, r = stI p' s' t' p s t := ⟨_, rfl⟩
  have HR : Hid (r = stI p' s' t' p s t) := hr
  rw [← hr]
  clear hr
  by_cases h1 : p = p'
  · subst h1
    by_cases h2 : s = s'
    · subst h2
      have HE : Hid (r = 3) := by show _ = _; rw [HR.out, stI, if_neg (by simp), if_neg (by simp)]
      clear HR
      go_enter Tryz.func111, Tryz.ntmps111
      go_wp2
      go_ret
      exact ⟨by rw [HE.out]; rfl, below_then (below_one _) (below_one _)⟩
    · have h2' : (s == s') = false := beq_eq_false_iff_ne.2 h2
      have HE : Hid (r = 2) := by show _ = _; rw [HR.out, stI, if_neg (by simp), if_pos (fun e => h2 e.symm)]
      clear HR
      go_enter Tryz.func111, Tryz.ntmps111
      go_wp2
      go_ret
      exact ⟨by rw [HE.out]; rfl, below_then (below_one _) (below_one _)⟩
  · have h1' : (p == p') = false := beq_eq_false_iff_ne.2 h1
    have HE : Hid (r = 1) := by show _ = _; rw [HR.out, stI, if_pos (fun e => h1 e.symm)]
    clear HR
    go_enter Tryz.func111, Tryz.ntmps111
    go_wp2
    go_ret
    exact ⟨by rw [HE.out]; rfl, below_then (below_one _) (below_one _)⟩

set_option maxRecDepth 100000 in
set_option maxHeartbeats 1000000 in
theorem placeOf_any (la : Option Addr) (lc gv : Nat) (l : List Sp) (nm : Int) (w : World) (hl : l.length ≤ 1000) (hin : ∃ x ∈ l, x.name = nm) (h : MemIn w.heap.size w la gv l) :
    Calls Tryz.prog 119 #[.slice la l.length lc, .int .i64 nm] w fun e w' => e = .returned (.int .i64 (plc l nm)) ∧ w' = w := by
  obtain ⟨r, hr⟩ : ∃ r, r = plc l nm := ⟨_, rfl⟩
  have HR : Hid (r = plc l nm) := hr
  rw [← hr]
  clear hr
  have HL : Hid (MemIn w.heap.size w la gv l) := h
  clear h
  obtain ⟨n, hn⟩ : ∃ n, n = l.length := ⟨_, rfl⟩
  have HN : Hid (n = l.length) := hn
  rw [← hn] at hl ⊢
  clear hn
  have HX : Hid (∃ x ∈ l, x.name = nm) := hin
  clear hin
  go_enter Tryz.func119, Tryz.ntmps119
  go_wp2
  go_loopw [5] (fun iv wr => ∃ i : Nat, Hid (∀ j, j < i → (l.getD j default).name ≠ nm) ∧ i ≤ n ∧ iv = .int .i64 (i : Nat) ∧ wr = w) (fun iv _ => n - (intOf iv).toNat)
  case atStart => exact ⟨0, fun j hj => by omega, Nat.zero_le _, rfl, rfl⟩
  case round =>
    obtain ⟨i, HJ, hi, rfl, hw⟩ := hrel
    obtain rfl := hw.symm
    clear hw
    have hlt : i < n := by
      by_cases hlt : i < n
      · exact hlt
      · exfalso
        obtain ⟨x, hx, he⟩ := HX.out
        obtain ⟨j, hj, rfl⟩ := List.getElem_of_mem hx
        have hnn := HN.out
        exact HJ.out j (by omega) (by rw [getD_at hj]; exact he)
    have hlt' : i < l.length := by rw [← HN.out]; exact hlt
    have ha := HL.out.addr (by omega)
    subst ha
    have c0 := HL.out.name i hlt'
    obtain ⟨x, hx⟩ : ∃ x, x = (l.getD i default).name := ⟨_, rfl⟩
    rw [← hx] at c0
    by_cases hxn : x = nm
    · have HE : Hid (r = (i : Nat)) := by show _ = _; rw [HR.out]; exact plc_at hlt' (by rw [← hx]; exact hxn) HJ.out
      subst hxn
      clear hx hlt'
      go_wp2
      go_ret
      exact ⟨by rw [HE.out]; rfl, rfl⟩
    · have HJ' : Hid (∀ j, j < i + 1 → (l.getD j default).name ≠ nm) := fun j hj => by
        by_cases e : j = i
        · rw [e, ← hx]; exact hxn
        · exact HJ.out j (by omega)
      have hxn' : (x == nm) = false := beq_eq_false_iff_ne.2 hxn
      clear hx hxn hlt'
      go_wp2
      go_roundw
      case rel => exact ⟨i + 1, HJ', by omega, by go_num, by trivial⟩
      case measure => simp [intOf]; omega

set_option maxRecDepth 100000 in
set_option maxHeartbeats 1000000 in
theorem placeBehind_any (la : Option Addr) (lc gv : Nat) (l : List Sp) (nm lev : Int) (w : World) (hl : l.length ≤ 1000) (hin : ∃ x ∈ l, x.name = nm) (h : MemIn w.heap.size w la gv l) :
    Calls Tryz.prog 125 #[.slice la l.length lc, .int .i64 nm, .int .i64 lev] w fun e w' => e = .returned (.int .i64 (behindS l nm lev : Nat)) ∧ w' = w := by
  obtain ⟨r, hr⟩ : ∃ r, r = behindS l nm lev := ⟨_, rfl⟩
  have HR : Hid (r = behindS l nm lev) := hr
  rw [← hr]
  clear hr
  have hp := plc_in hin
  obtain ⟨p, hpp⟩ : ∃ p : Nat, plc l nm = (p : Nat) := ⟨(plc l nm).toNat, by omega⟩
  have HC : Hid (∀ w, MemIn w.heap.size w la gv l → Calls Tryz.prog 119 #[.slice la l.length lc, .int .i64 nm] w fun e w' => e = .returned (.int .i64 ((p : Nat) : Int)) ∧ w' = w) := fun w h => by
    rw [← hpp]; exact placeOf_any la lc gv l nm w hl hin h
  have hpl : p < l.length := by omega
  have HR' : Hid (r = beh l lev (p + 1)) := by
    show _ = _
    rw [HR.out, behindS, hpp]
    congr 1
  clear HR hp hpp hin
  have HL : Hid (MemIn w.heap.size w la gv l) := h
  clear h
  obtain ⟨n, hn⟩ : ∃ n, n = l.length := ⟨_, rfl⟩
  have HN : Hid (n = l.length) := hn
  rw [← hn] at hl hpl HC ⊢
  clear hn
  go_enter Tryz.func125, Tryz.ntmps125
  go_wp2_with fail
  refine (HC.out _ HL.out).mono ?_
  rintro e w1 ⟨rfl, hw⟩
  obtain rfl := hw.symm
  clear hw
  go_wp2
  go_loopw [7] (fun iv wr => ∃ i : Nat, Hid (r = beh l lev i) ∧ i ≤ n ∧ iv = .int .i64 (i : Nat) ∧ wr = w) (fun iv _ => n - (intOf iv).toNat)
  case atStart => exact ⟨p + 1, HR', by omega, by go_num, rfl⟩
  case round =>
    obtain ⟨i, HB, hi, rfl, hw⟩ := hrel
    obtain rfl := hw.symm
    clear hw
    by_cases hlt : i < n
    · have hlt' : i < l.length := by rw [← HN.out]; exact hlt
      have ha := HL.out.addr (by omega)
      subst ha
      have c0 := HL.out.str i hlt'
      obtain ⟨x, hx⟩ : ∃ x, x = (l.getD i default).str := ⟨_, rfl⟩
      rw [← hx] at c0
      by_cases hxn : lev < x
      · have HB' : Hid (r = beh l lev (i + 1)) := by show _ = _; rw [HB.out, beh, if_pos ⟨hlt', by rw [← hx]; exact hxn⟩]
        clear hx hlt'
        go_wp2
        go_roundw
        case rel => exact ⟨i + 1, HB', by omega, by go_num, by trivial⟩
        case measure => simp [intOf]; omega
      · have HE : Hid (r = i) := by show _ = _; rw [HB.out, beh, if_neg (fun hh => hxn (by rw [hx]; exact hh.2))]
        clear hx hlt'
        have hxn' : x ≤ lev := by omega
        go_wp2
        go_ret
        exact ⟨by rw [HE.out]; rfl, rfl⟩
    · have HE : Hid (r = i) := by show _ = _; rw [HB.out, beh, if_neg (fun hh => by have := HN.out; omega)]
      go_wp2
      go_ret
      exact ⟨by rw [HE.out]; rfl, rfl⟩

set_option maxRecDepth 100000 in
set_option maxHeartbeats 1000000 in
theorem placeBefore_any (la : Option Addr) (lc gv : Nat) (l : List Sp) (nm lev : Int) (w : World) (hl : l.length ≤ 1000) (hin : ∃ x ∈ l, x.name = nm) (h : MemIn w.heap.size w la gv l) :
    Calls Tryz.prog 126 #[.slice la l.length lc, .int .i64 nm, .int .i64 lev] w fun e w' => e = .returned (.tuple #[.int .i64 (if startS l nm lev < 0 then 0 else startS l nm lev), .bool (decide (0 ≤ startS l nm lev))]) ∧ w' = w := by
  have hp := plc_in hin
  obtain ⟨p, hpp⟩ : ∃ p : Nat, plc l nm = (p : Nat) := ⟨(plc l nm).toNat, by omega⟩
  obtain ⟨r, hr⟩ : ∃ r, r = startS l nm lev := ⟨_, rfl⟩
  have HR : Hid (r = stt l lev (p + 1)) := by
    show _ = _
    rw [hr, startS, hpp]
    congr 1
  obtain ⟨ra, hra⟩ : ∃ x, x = (if startS l nm lev < 0 then 0 else startS l nm lev) := ⟨_, rfl⟩
  obtain ⟨rb, hrb⟩ : ∃ x, x = decide (0 ≤ startS l nm lev) := ⟨_, rfl⟩
  have HNO : Hid (r < 0 → ra = 0 ∧ rb = false) := fun h => by rw [hra, hrb, ← hr]; exact ⟨if_pos h, by simp; omega⟩
  have HYES : Hid (0 ≤ r → ra = r ∧ rb = true) := fun h => by rw [hra, hrb, ← hr]; exact ⟨if_neg (by omega), by simp; omega⟩
  rw [← hra, ← hrb]
  clear hr hra hrb
  have HC : Hid (∀ w, MemIn w.heap.size w la gv l → Calls Tryz.prog 119 #[.slice la l.length lc, .int .i64 nm] w fun e w' => e = .returned (.int .i64 ((p : Nat) : Int)) ∧ w' = w) := fun w h => by
    rw [← hpp]; exact placeOf_any la lc gv l nm w hl hin h
  have hpl : p < l.length := by omega
  clear hp hpp hin
  have HL : Hid (MemIn w.heap.size w la gv l) := h
  clear h
  obtain ⟨n, hn⟩ : ∃ n, n = l.length := ⟨_, rfl⟩
  have HN : Hid (n = l.length) := hn
  rw [← hn] at hl hpl HC ⊢
  clear hn
  go_enter Tryz.func126, Tryz.ntmps126
  go_wp2_with fail
  refine (HC.out _ HL.out).mono ?_
  rintro e w1 ⟨rfl, hw⟩
  obtain rfl := hw.symm
  clear hw
  have hpl' : ((p : Nat) : Int) < (n : Int) := by omega
  go_wp2
  go_loopw [8] (fun iv wr => ∃ i : Nat, Hid (r = stt l lev i) ∧ i ≤ p + 1 ∧ iv = .int .i64 ((i : Int) - 1) ∧ wr = w) (fun iv _ => (intOf iv + 1).toNat)
  case atStart => exact ⟨p + 1, HR, Nat.le_refl _, by go_num, rfl⟩
  case round =>
    obtain ⟨i, HB, hi, rfl, hw⟩ := hrel
    obtain rfl := hw.symm
    clear hw
    cases i with
    | zero =>
      have HE : Hid (r < 0) := by show _ < _; rw [HB.out]; unfold stt; omega
      go_wp2
      go_ret2
      exact ⟨by rw [(HNO.out HE.out).1, (HNO.out HE.out).2]; rfl, rfl⟩
    | succ i =>
      have hlt' : i < l.length := by rw [← HN.out]; omega
      have ha := HL.out.addr (by omega)
      subst ha
      have c0 := HL.out.str i hlt'
      obtain ⟨x, hx⟩ : ∃ x, x = (l.getD i default).str := ⟨_, rfl⟩
      rw [← hx] at c0
      have e1 : (((i + 1 : Nat) : Int) - 1) = (i : Nat) := by omega
      rw [e1]
      have hin' : (i : Int) < (n : Int) := by omega
      by_cases hxn : lev < x
      · have HB' : Hid (r = stt l lev i) := by show _ = _; rw [HB.out, stt, if_neg (by rw [← hx]; omega)]
        clear hx hlt' e1
        go_wp2
        go_roundw
        case rel => exact ⟨i, HB', by omega, by go_num, by trivial⟩
        case measure => simp [intOf]
      · have hxn' : x ≤ lev := by omega
        by_cases hxe : x = lev
        · have HE : Hid (r = (i : Nat)) := by show _ = _; rw [HB.out, stt, if_pos (by rw [← hx]; exact hxn'), if_pos (by rw [← hx]; exact hxe)]
          clear hx hlt' e1
          subst hxe
          go_wp2
          go_ret2
          exact ⟨by rw [(HYES.out (by rw [HE.out]; omega)).1, (HYES.out (by rw [HE.out]; omega)).2, HE.out]; rfl, rfl⟩
        · have HE : Hid (r < 0) := by show _ < _; rw [HB.out, stt, if_pos (by rw [← hx]; exact hxn'), if_neg (by rw [← hx]; exact hxe)]; omega
          have hxe' : (x == lev) = false := beq_eq_false_iff_ne.2 hxe
          have hxe2 : (x != lev) = true := by simp [hxe]
          clear hx hlt' e1 hxe
          go_wp2
          go_ret2
          exact ⟨by rw [(HNO.out HE.out).1, (HNO.out HE.out).2]; rfl, rfl⟩

end Go.Proofs.YtpclldccjpncdabGreat

namespace Go.Proofs.YtpclldccjpncdabGreat
open Go.RowKit

theorem SlIn.news {B : Nat} {w : World} {v : Value} {zs : List Int} (h : SlIn B w v zs) : ∀ (j : Nat) (u : Value), (zs.map (Value.int .i64))[j]? = some u → w.cell? ((⟨aB (slA v), aO (slA v), none⟩ : Addr).add j) = some u := fun j u hu => by
  have hj : j < zs.length := by
    by_cases hx : j < zs.length
    · exact hx
    · rw [List.getElem?_eq_none (by simp; omega)] at hu; cases hu
  have := h.ints.cell j hj
  rw [List.getElem?_map, List.getElem?_eq_getElem hj] at hu
  rw [Addr.add_mid, this, List.getD_eq_getElem?_getD, List.getElem?_eq_getElem hj]
  exact hu
theorem ints_one (l : List Int) : ∀ u ∈ l.map (Value.int .i64), u.oneCell' = true := fun u hu => by
  rw [List.mem_map] at hu
  obtain ⟨_, _, rfl⟩ := hu
  rfl

set_option maxRecDepth 100000 in
set_option maxHeartbeats 1000000 in
theorem joined_any (v1 v2 : Value) (zs ms : List Int) (x : Int) (w : World) (h1 : SlIn w.heap.size w v1 zs) (h2 : SlIn w.heap.size w v2 ms) (hz : zs.length ≤ 100) (hm : ms.length ≤ 100) :
    Calls Tryz.prog 115 #[v1, .int .i64 x, v2] w fun e w' => ∃ (a : Option Addr) (c : Nat), e = .returned (.slice a (zs ++ [x] ++ ms).length c) ∧ Hid (w'.ownsRow w.heap.size 3 1 (.slice a (zs ++ [x] ++ ms).length c) (zs ++ [x] ++ ms).length ((zs ++ [x] ++ ms).map (Value.int .i64))) ∧ Below w.heap.size w w' := by
  obtain ⟨i0, hi0, hq0, hq1, hq2⟩ := info_parts infoIntC
  have N1 := h1.news
  have N2 := h2.news
  have A1 := h1.ints.addr
  have A2 := h2.ints.addr
  have L2 := h2.ints.lt
  have S1 := h1.shape
  have S2 := h2.shape
  generalize slA v1 = a1 at S1 A1 N1
  generalize slC v1 = c1 at S1
  generalize slA v2 = a2 at S2 A2 N2 L2
  generalize slC v2 = c2 at S2
  subst S1
  subst S2
  have HN1 : Hid (∀ (j : Nat) (u : Value), (zs.map (Value.int .i64))[j]? = some u → w.cell? ((⟨aB a1, aO a1, none⟩ : Addr).add j) = some u) := N1
  have HN2 : Hid (∀ (j : Nat) (u : Value), (ms.map (Value.int .i64))[j]? = some u → w.cell? ((⟨aB a2, aO a2, none⟩ : Addr).add j) = some u) := N2
  have HA1 : Hid (0 < zs.length → a1 = some ⟨aB a1, aO a1, none⟩) := A1
  have HA2 : Hid (0 < ms.length → a2 = some ⟨aB a2, aO a2, none⟩) := A2
  have HT2 : Hid (0 < ms.length → aB a2 < w.heap.size) := L2
  clear h1 h2 N1 N2 A1 A2 L2
  obtain ⟨n1, hn1⟩ : ∃ n, n = zs.length := ⟨_, rfl⟩
  obtain ⟨n2, hn2⟩ : ∃ n, n = ms.length := ⟨_, rfl⟩
  have HZ : Hid (n1 = zs.length ∧ n2 = ms.length) := ⟨hn1, hn2⟩
  obtain ⟨n3, hn3⟩ : ∃ n, n = (zs ++ [x] ++ ms).length := ⟨_, rfl⟩
  have HZ3 : Hid (n3 = (zs ++ [x] ++ ms).length ∧ n1 + 1 + n2 = n3) := ⟨hn3, by rw [hn3, hn1, hn2]; simp; omega⟩
  rw [← hn1] at hz
  rw [← hn2] at hm
  rw [← hn1] at HA1
  rw [← hn2] at HA2 HT2
  rw [← hn1, ← hn2, ← hn3]
  clear hn1 hn2 hn3
  go_enter Tryz.func115, Tryz.ntmps115
  go_wp2_with (first
    | (at_builtin; refine wpList_append_all _ (by rfl) (.tmp 8) (.tmp 9) 61 (by rfl) w.heap.size 3 i0 (.int .i64 0) 1 8 Tryz.underlying61 hi0 hq0 hq1 hq2 rfl (by omega) _ 0 [] (by rfl) (World.ownsRow_nil _ _ _ _) _ ⟨aB a1, aO a1, none⟩ n1 c1 (zs.map (Value.int .i64)) (by rfl) HA1.out ?a0 HN1.out (ints_one _) ?a2 ?a3 (Nat.le_refl _) ?_))
  case a0 => rw [List.length_map, ← HZ.out.1]; omega
  case a2 => unfold maxLen; omega
  case a3 => omega
  · intro v3 w1 hown1 hgrow1
    obtain ⟨l1, lc1, hl1⟩ := ownC_shape hown1
    subst hl1
    have HB1 : Hid (Below w.heap.size w w1) := (Below.refl w.heap.size w).grown hgrow1 (Nat.le_refl _) (fun _ hr => by simp [Value.ownBlock] at hr)
    have HO1 : Hid (w1.ownsRow w.heap.size 3 1 (.slice l1 (n1) lc1) (n1) (zs.map (Value.int .i64))) := hown1
    have hz1 := HB1.out.size
    clear hown1 hgrow1
    go_wp2_with (first
      | (at_builtin; refine wpList_append_lies _ (by rfl) (.tmp 11) (.tmp 13) 61 (by rfl) w.heap.size 3 i0 (.int .i64 0) 1 8 Tryz.underlying61 hi0 hq0 hq1 hq2 rfl (by omega) _ (n1) _ (by rfl) (HO1.out.alloc _) ⟨w1.heap.size, 0, none⟩ 1 1 [.int .i64 x] (by rfl) (by rfl) ?b1 ?b2 (by omega) ?b3 ?b5 ?b4 (w1.heap.size + 1) (by simp) ?_))
    case b1 => exact cell_one_new _ _ _
    case b2 => intro u hu; simp at hu; subst hu; rfl
    case b3 => unfold maxLen; omega
    case b5 => omega
    case b4 => simp; omega
    · intro g2 lc2 w2 hown2 hgrow2 _ _
      have HB2 : Hid (Below w.heap.size w w2) := ownC_grown_below (below_then HB1.out (below_one _)) (by simp; omega) (HO1.out.alloc _) (Nat.le_refl _) hgrow2
      have HO2 : Hid (w2.ownsRow w.heap.size 3 1 (.slice (some ⟨g2, 0, none⟩) (n1 + 1) lc2) (n1 + 1) (zs.map (Value.int .i64) ++ [.int .i64 x])) := hown2
      have hz2 := HB2.out.size
      have HN2' : Hid (∀ (j : Nat) (u : Value), (ms.map (Value.int .i64))[j]? = some u → w2.cell? ((⟨aB a2, aO a2, none⟩ : Addr).add j) = some u) := fun j u hu => by
        have hj : j < ms.length := by
          by_cases hx : j < ms.length
          · exact hx
          · rw [List.getElem?_eq_none (by simp; omega)] at hu; cases hu
        have h0 : 0 < n2 := by have := HZ.out.2; omega
        have := HN2.out j u hu
        rw [Addr.add_mid] at this ⊢
        exact cellTo HB2.out this (HT2.out h0)
      clear hown2 hgrow2
      go_wp2_with (first
        | (at_builtin; refine wpList_append_all _ (by rfl) (.tmp 15) (.tmp 16) 61 (by rfl) w.heap.size 3 i0 (.int .i64 0) 1 8 Tryz.underlying61 hi0 hq0 hq1 hq2 rfl (by omega) _ (n1 + 1) _ (by rfl) HO2.out _ ⟨aB a2, aO a2, none⟩ n2 c2 (ms.map (Value.int .i64)) (by rfl) HA2.out ?e0 HN2'.out (ints_one _) ?e2 ?e3 ?e4 ?_))
      case e0 => rw [List.length_map, ← HZ.out.2]; omega
      case e2 => unfold maxLen; omega
      case e3 => omega
      case e4 => omega
      · intro v4 w3 hown3 hgrow3
        have HB3 : Hid (Below w.heap.size w w3) := ownC_grown_below HB2.out hz2 HO2.out (Nat.le_refl _) hgrow3
        have ho : w3.ownsRow w.heap.size 3 1 v4 n3 ((zs ++ [x] ++ ms).map (Value.int .i64)) := by
          have := hown3
          rw [HZ3.out.2] at this
          rw [List.map_append, List.map_append, List.append_assoc]
          exact this
        obtain ⟨l4, lc4, hl4⟩ := ownC_shape ho
        subst hl4
        have HO3 : Hid (w3.ownsRow w.heap.size 3 1 (.slice l4 n3 lc4) n3 ((zs ++ [x] ++ ms).map (Value.int .i64))) := ho
        clear hown3 hgrow3 ho
        go_wp2
        go_ret
        exact ⟨_, _, rfl, HO3, HB3.out⟩

theorem infoMemC : (Tryz.prog.info? 145).map (fun i => (i.zero, i.size, i.bytes)) = some (some (.agg #[.int .i64 0, .int .i64 0, .bool false, .int .i64 0, .int .i64 0, .int .i64 0]), 6, 48) := by kernel_rfl
/-- the list with one more, as far as place i of the old one -/
def wmS (l : List Sp) (p : Nat) (x : Sp) (i : Nat) : List Sp := if p < i then l.take p ++ [x] ++ (l.drop p).take (i - p) else l.take i
theorem take_snocS (l : List Sp) (i : Nat) (h : i < l.length) : l.take (i + 1) = l.take i ++ [l.getD i default] := by
  rw [List.take_succ_eq_append_getElem h, getD_at h]
theorem wmS_step {l : List Sp} {p i : Nat} (x : Sp) (h : i < l.length) (hn : i ≠ p) : wmS l p x (i + 1) = wmS l p x i ++ [l.getD i default] := by
  unfold wmS
  by_cases hp : p < i
  · rw [if_pos (by omega), if_pos hp]
    have hd : i - p < (l.drop p).length := by rw [List.length_drop]; omega
    have hy : (l.drop p).getD (i - p) default = l.getD i default := by
      rw [getD_at hd, getD_at h, List.getElem_drop]
      congr 1
      omega
    rw [show i + 1 - p = (i - p) + 1 by omega, take_snocS _ _ hd, hy, ← List.append_assoc]
  · rw [if_neg (by omega), if_neg hp]
    exact take_snocS l i h
theorem wmS_here {l : List Sp} {p : Nat} (x : Sp) (h : p < l.length) : wmS l p x (p + 1) = wmS l p x p ++ [x] ++ [l.getD p default] := by
  unfold wmS
  rw [if_pos (by omega), if_neg (by omega)]
  have hd : 0 < (l.drop p).length := by rw [List.length_drop]; omega
  have hy : (l.drop p).getD 0 default = l.getD p default := by
    rw [getD_at hd, getD_at h, List.getElem_drop]
    congr 1
  rw [show p + 1 - p = 0 + 1 by omega, take_snocS _ _ hd, List.take_zero, List.nil_append, hy]
theorem wmS_len {l : List Sp} {p i : Nat} (x : Sp) (h : i ≤ l.length) : (wmS l p x i).length ≤ i + 1 := by
  unfold wmS
  split
  · simp; omega
  · simp; omega
theorem wmS_end {l : List Sp} {p : Nat} (x : Sp) (hp : p ≤ l.length) : (if l.length ≤ p then wmS l p x l.length ++ [x] else wmS l p x l.length) = l.take p ++ [x] ++ l.drop p := by
  unfold wmS
  split
  · next h =>
    have e : p = l.length := by omega
    rw [if_neg (by omega), e]
    simp
  · next h =>
    rw [if_pos (by omega), List.take_of_length_le (l := l.drop p) (by rw [List.length_drop]; omega)]
theorem mem_one (x : Sp) : ∀ u ∈ x.cm, u.oneCell' = true := fun u hu => by
  simp only [Sp.cm, List.mem_cons, List.not_mem_nil, or_false] at hu
  rcases hu with rfl | rfl | rfl | rfl | rfl | rfl <;> rfl

set_option maxRecDepth 100000 in
set_option maxHeartbeats 2000000 in
theorem withMember_any (la : Option Addr) (lc gv : Nat) (l : List Sp) (p : Nat) (nm st : Int) (w : World) (hl : l.length ≤ 1000) (hp : p ≤ l.length) (h : MemIn w.heap.size w la gv l) :
    Calls Tryz.prog 114 #[.slice la l.length lc, .int .i64 (p : Nat), .agg #[.int .i64 nm, .int .i64 st, .bool true, .int .i64 0, .int .i64 0, .int .i64 0]] w fun e w' => ∃ (a : Option Addr) (c n : Nat), e = .returned (.slice a n c) ∧ Hid (n = (l.take p ++ [Sp.mk nm st false 0 0 0] ++ l.drop p).length ∧ w'.ownsRow w.heap.size 145 6 (.slice a n c) n (memC (l.take p ++ [Sp.mk nm st false 0 0 0] ++ l.drop p))) ∧ Below w.heap.size w w' := by
  obtain ⟨i0, hi0, hq0, hq1, hq2⟩ := info_parts infoMemC
  obtain ⟨x, hx⟩ : ∃ x : Sp, x = Sp.mk nm st false 0 0 0 := ⟨_, rfl⟩
  have HX : Hid (x.cm = [.int .i64 nm, .int .i64 st, .bool true, .int .i64 0, .int .i64 0, .int .i64 0]) := by show _ = _; rw [hx]; rfl
  rw [← hx]
  have HEND : Hid ((if l.length ≤ p then wmS l p x l.length ++ [x] else wmS l p x l.length) = l.take p ++ [x] ++ l.drop p) := wmS_end x hp
  clear hx
  have HL : Hid (∀ wr, Below w.heap.size w wr → MemIn w.heap.size wr la gv l) := fun wr hb => h.below hb
  clear h
  obtain ⟨n, hn⟩ : ∃ n, n = l.length := ⟨_, rfl⟩
  have HN : Hid (n = l.length) := hn
  rw [← hn] at hl hp HEND ⊢
  clear hn
  obtain ⟨W, hW⟩ : ∃ W, W = w.alloc (.cells #[.int .i64 nm, .int .i64 st, .bool true, .int .i64 0, .int .i64 0, .int .i64 0] 145) := ⟨_, rfl⟩
  have HWS : Hid (W.heap.size = w.heap.size + 1) := by show _ = _; rw [hW]; simp
  have HM : Hid (∀ k u, [Value.int .i64 nm, .int .i64 st, .bool true, .int .i64 0, .int .i64 0, .int .i64 0][k]? = some u → W.cell? ⟨w.heap.size, k, none⟩ = some u) := fun k u hu => by
    rw [hW]
    have := hB6 w rfl (.int .i64 nm) (.int .i64 st) (.bool true) (.int .i64 0) (.int .i64 0) (.int .i64 0) 145 k u hu
    rw [Addr.add_mid] at this
    simpa using this
  have HB0 : Hid (Below w.heap.size w W) := by show Below _ _ _; rw [hW]; exact below_one _
  go_enter Tryz.func114, Tryz.ntmps114
  go_wp2
  rw [← hW]
  clear hW
  go_loopw [7, 8] (fun v iv wr => ∃ (i m : Nat), i ≤ n ∧ m ≤ i + 1 ∧ iv = .int .i64 (i : Nat) ∧ Below (w.heap.size + 1) W wr ∧ Hid (m = (wmS l p x i).length ∧ wr.ownsRow (w.heap.size + 1) 145 6 v m (memC (wmS l p x i)))) (fun _ iv _ => n - (intOf iv).toNat)
  case atStart => exact ⟨0, 0, Nat.zero_le _, by omega, rfl, Below.refl _ _, by
    have : wmS l p x 0 = [] := by unfold wmS; rw [if_neg (by omega)]; rfl
    rw [this]
    exact ⟨rfl, World.ownsRow_nil _ _ _ _⟩⟩
  case round =>
    obtain ⟨i, m, hi, hmi, rfl, hbel, HO⟩ := hrel
    have hws := HWS.out
    have hsz : W.heap.size ≤ wr.heap.size := by have := hbel.size; exact this
    obtain ⟨va, vc, hv⟩ := ownC_shape HO.out.2
    subst hv
    have HC : Hid (∀ wx, Below (w.heap.size + 1) W wx → ∀ k u, [Value.int .i64 nm, .int .i64 st, .bool true, .int .i64 0, .int .i64 0, .int .i64 0][k]? = some u → wx.cell? ⟨w.heap.size, k, none⟩ = some u) := fun wx hb k u hu => cellTo hb (HM.out k u hu) (by show w.heap.size < _; omega)
    by_cases hlt : i < n
    · have hlt' : i < l.length := by rw [← HN.out]; exact hlt
      have hL := HL.out wr (HB0.out.trans (hbel.mono (by omega)))
      have ha := hL.addr (by omega)
      subst ha
      have hgv := hL.lt (by omega)
      obtain ⟨y, hy⟩ : ∃ y, y = l.getD i default := ⟨_, rfl⟩
      have c0 := hL.name i hlt'
      have c1 := hL.str i hlt'
      have c2 := hL.new i hlt'
      have c3 := hL.p i hlt'
      have c4 := hL.s i hlt'
      have c5 := hL.t i hlt'
      rw [← hy] at c0 c1 c2 c3 c4 c5
      have HYC : Hid (memC [y] = [.int .i64 y.name, .int .i64 y.str, .bool (!y.old), .int .i64 y.p, .int .i64 y.s, .int .i64 y.t]) := rfl
      by_cases hip : i = p
      · have HST : Hid (wmS l p x (i + 1) = wmS l p x i ++ [x] ++ [y]) := by show _ = _; rw [hy, hip]; exact wmS_here x (by rw [← HN.out, ← hip]; exact hlt)
        have m0 := HC.out wr hbel 0 _ rfl
        have m1 := HC.out wr hbel 1 _ rfl
        have m2 := HC.out wr hbel 2 _ rfl
        have m3 := HC.out wr hbel 3 _ rfl
        have m4 := HC.out wr hbel 4 _ rfl
        have m5 := HC.out wr hbel 5 _ rfl
        subst hip
        clear hy hlt' hL
        go_wp2_with (first
          | (at_builtin; refine wpList_append_lies _ (by rfl) (.tmp 18) (.tmp 20) 119 (by rfl) (w.heap.size + 1) 145 i0 (.agg #[.int .i64 0, .int .i64 0, .bool false, .int .i64 0, .int .i64 0, .int .i64 0]) 6 48 Tryz.underlying119 hi0 hq0 hq1 hq2 rfl (by omega) _ m _ (by rfl) (HO.out.2.alloc _) ⟨wr.heap.size, 0, none⟩ 1 1 [.int .i64 nm, .int .i64 st, .bool true, .int .i64 0, .int .i64 0, .int .i64 0] (by rfl) (by rfl) ?b1 ?b2 (by omega) ?b3 ?b5 ?b4 (wr.heap.size + 1) (by simp) ?_))
        case b1 => exact hB6 _ rfl _ _ _ _ _ _ _
        case b2 => intro u hu; simp at hu; rcases hu with rfl | rfl | rfl | rfl <;> rfl
        case b3 => unfold maxLen; omega
        case b5 => omega
        case b4 => simp; omega
        · intro g2 cap2 w2 hown2 hgrow2 _ _
          have HB2 : Hid (Below (w.heap.size + 1) W w2) := ownC_grown_below (hbel.alloc (by omega) _) (by simp; omega) (HO.out.2.alloc _) (Nat.le_refl _) hgrow2
          have HO2 : Hid (w2.ownsRow (w.heap.size + 1) 145 6 (.slice (some ⟨g2, 0, none⟩) (m + 1) cap2) (m + 1) (memC (wmS l i x i ++ [x]))) := by
            show World.ownsRow _ _ _ _ _ _ _
            rw [memC_app, show memC [x] = x.cm ++ [] from rfl, HX.out]
            exact hown2
          have hz2 := HB2.out.size
          have hL2 := HL.out w2 (HB0.out.trans (HB2.out.mono (by omega)))
          have hlt' : i < l.length := by rw [← HN.out]; exact hlt
          have d0 := hL2.name i hlt'
          have d1 := hL2.str i hlt'
          have d2 := hL2.new i hlt'
          have d3 := hL2.p i hlt'
          have d4 := hL2.s i hlt'
          have d5 := hL2.t i hlt'
          have hy : y = l.getD i default := by
            have := HST.out
            rw [wmS_here x hlt'] at this
            have h2 := List.append_inj_right' this rfl
            injection h2 with h2 _
            exact h2.symm
          rw [← hy] at d0 d1 d2 d3 d4 d5
          clear hown2 hgrow2 c0 c1 c2 c3 c4 c5 m0 m1 m2 m3 m4 m5 hL2 hy hlt'
          go_wp2_with (first
            | (at_builtin; refine wpList_append_lies _ (by rfl) (.tmp 22) (.tmp 27) 119 (by rfl) (w.heap.size + 1) 145 i0 (.agg #[.int .i64 0, .int .i64 0, .bool false, .int .i64 0, .int .i64 0, .int .i64 0]) 6 48 Tryz.underlying119 hi0 hq0 hq1 hq2 rfl (by omega) _ (m + 1) _ (by rfl) (HO2.out.alloc _) ⟨w2.heap.size, 0, none⟩ 1 1 [.int .i64 y.name, .int .i64 y.str, .bool (!y.old), .int .i64 y.p, .int .i64 y.s, .int .i64 y.t] (by rfl) (by rfl) ?e1 ?e2 (by omega) ?e3 ?e5 ?e4 (w2.heap.size + 1) (by simp) ?_))
          case e1 => exact hB6 _ rfl _ _ _ _ _ _ _
          case e2 => intro u hu; simp at hu; rcases hu with rfl | rfl | rfl | rfl | rfl | rfl <;> rfl
          case e3 => unfold maxLen; omega
          case e5 => omega
          case e4 => simp; omega
          · intro g3 cap3 w3 hown3 hgrow3 _ _
            have HB3 : Hid (Below (w.heap.size + 1) W w3) := ownC_grown_below (HB2.out.alloc (by omega) _) (by simp; omega) (HO2.out.alloc _) (Nat.le_refl _) hgrow3
            have HO3 : Hid (m + 1 + 1 = (wmS l i x (i + 1)).length ∧ w3.ownsRow (w.heap.size + 1) 145 6 (.slice (some ⟨g3, 0, none⟩) (m + 1 + 1) cap3) (m + 1 + 1) (memC (wmS l i x (i + 1)))) := by
              refine ⟨?_, ?_⟩
              · rw [HST.out, List.length_append, List.length_append, ← HO.out.1]; rfl
              · rw [HST.out, memC_app, HYC.out]
                exact hown3
            have hm2 : m ≤ i := by
              have := HO.out.1
              have h2 : (wmS l i x i).length = i := by unfold wmS; rw [if_neg (by omega), List.length_take, ← HN.out]; omega
              omega
            clear hown3 hgrow3 d0 d1 d2 d3 d4 d5
            go_wp2
            go_roundw
            case rel => exact ⟨i + 1, m + 1 + 1, by omega, by omega, by go_num, HB3.out, HO3⟩
            case measure => simp [intOf]; omega
      · have HST : Hid (wmS l p x (i + 1) = wmS l p x i ++ [y]) := by show _ = _; rw [hy]; exact wmS_step x hlt' hip
        have hip' : ((i : Int) == (p : Int)) = false := by simp; omega
        have hip2 : ((i : Nat) == (p : Nat)) = false := by simp; omega
        clear hy hlt' hL hip
        go_wp2_with (first
          | (at_builtin; refine wpList_append_lies _ (by rfl) (.tmp 22) (.tmp 27) 119 (by rfl) (w.heap.size + 1) 145 i0 (.agg #[.int .i64 0, .int .i64 0, .bool false, .int .i64 0, .int .i64 0, .int .i64 0]) 6 48 Tryz.underlying119 hi0 hq0 hq1 hq2 rfl (by omega) _ m _ (by rfl) (HO.out.2.alloc _) ⟨wr.heap.size, 0, none⟩ 1 1 [.int .i64 y.name, .int .i64 y.str, .bool (!y.old), .int .i64 y.p, .int .i64 y.s, .int .i64 y.t] (by rfl) (by rfl) ?e1 ?e2 (by omega) ?e3 ?e5 ?e4 (wr.heap.size + 1) (by simp) ?_))
        case e1 => exact hB6 _ rfl _ _ _ _ _ _ _
        case e2 => intro u hu; simp at hu; rcases hu with rfl | rfl | rfl | rfl | rfl | rfl <;> rfl
        case e3 => unfold maxLen; omega
        case e5 => omega
        case e4 => simp; omega
        · intro g3 cap3 w3 hown3 hgrow3 _ _
          have HB3 : Hid (Below (w.heap.size + 1) W w3) := ownC_grown_below (hbel.alloc (by omega) _) (by simp; omega) (HO.out.2.alloc _) (Nat.le_refl _) hgrow3
          have HO3 : Hid (m + 1 = (wmS l p x (i + 1)).length ∧ w3.ownsRow (w.heap.size + 1) 145 6 (.slice (some ⟨g3, 0, none⟩) (m + 1) cap3) (m + 1) (memC (wmS l p x (i + 1)))) := by
            refine ⟨?_, ?_⟩
            · rw [HST.out, List.length_append, ← HO.out.1]; rfl
            · rw [HST.out, memC_app, HYC.out]
              exact hown3
          clear hown3 hgrow3 c0 c1 c2 c3 c4 c5
          go_wp2
          go_roundw
          case rel => exact ⟨i + 1, m + 1, by omega, by omega, by go_num, HB3.out, HO3⟩
          case measure => simp [intOf]; omega
    · have hie : i = n := by omega
      subst hie
      have HBW : Hid (Below w.heap.size w wr) := HB0.out.trans (hbel.mono (by omega))
      by_cases hpn : i ≤ p
      · have HEN : Hid (wmS l p x i ++ [x] = l.take p ++ [x] ++ l.drop p) := by have := HEND.out; rw [if_pos hpn] at this; exact this
        have m0 := HC.out wr hbel 0 _ rfl
        have m1 := HC.out wr hbel 1 _ rfl
        have m2 := HC.out wr hbel 2 _ rfl
        have m3 := HC.out wr hbel 3 _ rfl
        have m4 := HC.out wr hbel 4 _ rfl
        have m5 := HC.out wr hbel 5 _ rfl
        go_wp2_with (first
          | (at_builtin; refine wpList_append_lies _ (by rfl) (.tmp 33) (.tmp 35) 119 (by rfl) (w.heap.size + 1) 145 i0 (.agg #[.int .i64 0, .int .i64 0, .bool false, .int .i64 0, .int .i64 0, .int .i64 0]) 6 48 Tryz.underlying119 hi0 hq0 hq1 hq2 rfl (by omega) _ m _ (by rfl) (HO.out.2.alloc _) ⟨wr.heap.size, 0, none⟩ 1 1 [.int .i64 nm, .int .i64 st, .bool true, .int .i64 0, .int .i64 0, .int .i64 0] (by rfl) (by rfl) ?b1 ?b2 (by omega) ?b3 ?b5 ?b4 (wr.heap.size + 1) (by simp) ?_))
        case b1 => exact hB6 _ rfl _ _ _ _ _ _ _
        case b2 => intro u hu; simp at hu; rcases hu with rfl | rfl | rfl | rfl <;> rfl
        case b3 => unfold maxLen; omega
        case b5 => omega
        case b4 => simp; omega
        · intro g2 cap2 w2 hown2 hgrow2 _ _
          have HB2 : Hid (Below w.heap.size w w2) := ownC_grown_below (below_then HBW.out (below_one _)) (by simp; omega) (HO.out.2.alloc _) (by omega) hgrow2
          have HO2 : Hid (m + 1 = (l.take p ++ [x] ++ l.drop p).length ∧ w2.ownsRow w.heap.size 145 6 (.slice (some ⟨g2, 0, none⟩) (m + 1) cap2) (m + 1) (memC (l.take p ++ [x] ++ l.drop p))) := by
            rw [← HEN.out]
            refine ⟨?_, ownC_base (b' := w.heap.size) (base := w.heap.size + 1) ?_ (by omega)⟩
            · rw [List.length_append, ← HO.out.1]; rfl
            · rw [memC_app, show memC [x] = x.cm ++ [] from rfl, HX.out]
              exact hown2
          clear hown2 hgrow2 m0 m1 m2 m3 m4 m5
          go_wp2
          go_ret
          exact ⟨_, _, _, rfl, HO2, HB2.out⟩
      · have hpn' : p < i := by omega
        have HEN : Hid (wmS l p x i = l.take p ++ [x] ++ l.drop p) := by have := HEND.out; rw [if_neg hpn] at this; exact this
        have HO2 : Hid (m = (l.take p ++ [x] ++ l.drop p).length ∧ wr.ownsRow w.heap.size 145 6 (.slice va m vc) m (memC (l.take p ++ [x] ++ l.drop p))) := by
          rw [← HEN.out]
          exact ⟨HO.out.1, ownC_base HO.out.2 (by omega)⟩
        clear HEND
        go_wp2
        go_ret
        exact ⟨_, _, _, rfl, HO2, HBW.out⟩

end Go.Proofs.YtpclldccjpncdabGreat

namespace Go.Proofs.YtpclldccjpncdabGreat
open Go.RowKit

theorem memC_spB (L : Lay) (i : Nat) : memC [spB L i] = [.int .i64 (i : Nat), .int .i64 (stI (prv L.p i) (prv L.s i) (prv L.t i) (L.p i) (L.s i) (L.t i)), .bool false, .int .i64 (L.p i), .int .i64 (L.s i), .int .i64 (L.t i)] := rfl

set_option maxRecDepth 100000 in
set_option maxHeartbeats 2000000 in
theorem membersOf_any (L : Lay) (w : World) (h : NodesIn w.heap.size w L.na L.n L.nb L.no L.p L.s L.t) (hn : L.n ≤ 48) :
    Calls Tryz.prog 85 #[.slice L.na L.n L.nc] w fun e w' => ∃ (a : Option Addr) (c : Nat), e = .returned (.slice a L.n c) ∧ Hid (w'.ownsRow w.heap.size 145 6 (.slice a L.n c) L.n (memC (lsB L L.n))) ∧ Below w.heap.size w w' := by
  obtain ⟨i0, hi0, hq0, hq1, hq2⟩ := info_parts infoMemC
  have HIN : Hid (NodesIn w.heap.size w L.na L.n L.nb L.no L.p L.s L.t) := h
  clear h
  obtain ⟨W, hW⟩ : ∃ W, W = w.alloc (.cells #[.int .i64 0, .int .i64 0, .int .i64 0] 65) := ⟨_, rfl⟩
  have HR0 : Hid (W.rowIs w.heap.size 65 3 (ndF (prv L.p 0) (prv L.s 0) (prv L.t 0))) := by
    show World.rowIs _ _ _ _ _
    rw [hW]
    exact row_new _ _ _ 3 rfl
  have HB0 : Hid (Below w.heap.size w W) := by show Below _ _ _; rw [hW]; exact below_one _
  go_enter Tryz.func85, Tryz.ntmps85
  go_wp2
  rw [← hW]
  clear hW
  go_loopw [3, 5] (fun v iv wr => ∃ i : Nat, i ≤ L.n ∧ iv = .int .i64 (i : Nat) ∧ Below w.heap.size w wr ∧ Hid (wr.rowIs w.heap.size 65 3 (ndF (prv L.p i) (prv L.s i) (prv L.t i))) ∧ Hid (wr.ownsRow (w.heap.size + 1) 145 6 v i (memC (lsB L i)))) (fun _ iv _ => L.n - (intOf iv).toNat)
  case atStart => exact ⟨0, Nat.zero_le _, rfl, HB0.out, HR0, World.ownsRow_nil _ _ _ _⟩
  case round =>
    obtain ⟨i, hi, rfl, hbel, HNd, HO⟩ := hrel
    have hzn := HNd.out.lt
    obtain ⟨va, vc, hv⟩ := ownC_shape HO.out
    subst hv
    by_cases hlt : i < L.n
    · have hlt' : (i : Int) < (L.n : Int) := by omega
      have hna := HIN.out.addr (by omega)
      have hnb := HIN.out.lt (by omega)
      rw [hna]
      clear hna
      have n0 := cellTo hbel (HIN.out.p i hlt) hnb
      have n1 := cellTo hbel (HIN.out.s i hlt) hnb
      have n2 := cellTo hbel (HIN.out.t i hlt) hnb
      have HM0 := memC_spB L i
      have HPV : Hid (prv L.p (i + 1) = L.p i ∧ prv L.s (i + 1) = L.s i ∧ prv L.t (i + 1) = L.t i) := ⟨rfl, rfl, rfl⟩
      generalize prv L.p i = pp at HNd HM0
      generalize prv L.s i = ps at HNd HM0
      generalize prv L.t i = pt at HNd HM0
      generalize L.p i = xp at n0 HM0 HPV
      generalize L.s i = xs at n1 HM0 HPV
      generalize L.t i = xt at n2 HM0 HPV
      obtain ⟨sg, hsg⟩ : ∃ x, x = stI pp ps pt xp xs xt := ⟨_, rfl⟩
      rw [← hsg] at HM0
      have HM : Hid (memC [spB L i] = [.int .i64 (i : Nat), .int .i64 sg, .bool false, .int .i64 xp, .int .i64 xs, .int .i64 xt]) := HM0
      have HCS : Hid (∀ wz, Calls Tryz.prog 111 #[.agg #[.int .i64 xp, .int .i64 xs, .int .i64 xt], .agg #[.int .i64 pp, .int .i64 ps, .int .i64 pt]] wz fun e w' => e = .returned (.int .i64 sg) ∧ Below wz.heap.size wz w') := fun wz => by rw [hsg]; exact strengthP_any xp xs xt pp ps pt wz
      have k0 : wr.cell? ⟨w.heap.size, 0, none⟩ = some (.int .i64 pp) := HNd.out.cell (i := 0) (by omega)
      have k1 : wr.cell? ⟨w.heap.size, 1, none⟩ = some (.int .i64 ps) := HNd.out.cell (i := 1) (by omega)
      have k2 : wr.cell? ⟨w.heap.size, 2, none⟩ = some (.int .i64 pt) := HNd.out.cell (i := 2) (by omega)
      clear hsg HM0
      have b0 := Wb.cell (w := wr) (B := wr.heap.size) (by show w.heap.size < _; omega) k0
      have b1 := Wb.cell (w := wr) (B := wr.heap.size) (by show w.heap.size < _; omega) k1
      have b2 := Wb.cell (w := wr) (B := wr.heap.size) (by show w.heap.size < _; omega) k2
      have bn0 := Wb.cell (w := wr) (B := wr.heap.size) (by show L.nb < _; omega) n0
      have bn1 := Wb.cell (w := wr) (B := wr.heap.size) (by show L.nb < _; omega) n1
      have bn2 := Wb.cell (w := wr) (B := wr.heap.size) (by show L.nb < _; omega) n2
      go_wp2
      refine wp_region_below wr.heap.size (by kernel_rfl) (by kernel_rfl) ?_
      repeat (go_big_quiet_step ((go_at_call 111; exact Wb.ofCall _ (Nat.le_refl _) (HCS.out _))))
      refine wpQuiet_nil ?_
      rintro _ ⟨y, rfl⟩
      have hy := y.below
      generalize y.val = w1 at hy
      have hz1 := hy.size
      clear b0 b1 b2 bn0 bn1 bn2
      have HB1 : Hid (Below w.heap.size w w1) := hbel.trans (hy.mono (by omega))
      have HN1 : Hid (w1.rowIs w.heap.size 65 3 (ndF pp ps pt)) := HNd.out.of_block (hy.block _ hzn)
      have HO1 : Hid (w1.ownsRow (w.heap.size + 1) 145 6 (.slice va i vc) i (memC (lsB L i))) := ownC_below HO.out hy
      have s2 := cellTo hy n0 (by show L.nb < _; omega)
      have s3 := cellTo hy n1 (by show L.nb < _; omega)
      have s4 := cellTo hy n2 (by show L.nb < _; omega)
      clear n0 n1 n2 k0 k1 k2 hy
      go_wp2_with (first
        | (at_builtin; refine wpList_append_lies _ (by rfl) (.tmp 20) (.tmp 28) 119 (by rfl) (w.heap.size + 1) 145 i0 (.agg #[.int .i64 0, .int .i64 0, .bool false, .int .i64 0, .int .i64 0, .int .i64 0]) 6 48 Tryz.underlying119 hi0 hq0 hq1 hq2 rfl (by omega) _ i _ (by rfl) (HO1.out.alloc _) ⟨w1.heap.size, 0, none⟩ 1 1 [.int .i64 (i : Nat), .int .i64 sg, .bool false, .int .i64 xp, .int .i64 xs, .int .i64 xt] (by rfl) (by rfl) ?e1 ?e2 (by omega) ?e3 ?e5 ?e4 (w1.heap.size + 1) (by simp) ?_))
      case e1 => exact hB6 _ rfl _ _ _ _ _ _ _
      case e2 => intro u hu; simp at hu; rcases hu with rfl | rfl | rfl | rfl | rfl | rfl <;> rfl
      case e3 => unfold maxLen; omega
      case e5 => omega
      case e4 => simp; omega
      · intro g3 cap3 w3 hown3 hgrow3 _ _
        have HB3 : Hid (Below w.heap.size w w3) := ownC_grown_below (below_then HB1.out (below_one _)) (by simp; omega) (HO1.out.alloc _) (by omega) hgrow3
        have HO3 : Hid (w3.ownsRow (w.heap.size + 1) 145 6 (.slice (some ⟨g3, 0, none⟩) (i + 1) cap3) (i + 1) (memC (lsB L (i + 1)))) := by
          show World.ownsRow _ _ _ _ _ _ _
          rw [lsB_snoc, memC_app, HM.out]
          exact hown3
        have HN3 : Hid (w3.rowIs w.heap.size 65 3 (ndF pp ps pt)) := by
          have hne : some w.heap.size ≠ (Value.slice va i vc).ownBlock := fun e => by have := (ownC_lt HO1.out e.symm).2; omega
          exact (HN1.out.alloc _).of_block (hgrow3.block _ (by simp; omega) hne)
        have hz3 := HN3.out.lt
        have t0 : w3.cell? _ = _ := cellTo HB3.out (HIN.out.p i hlt) hnb
        have t1 : w3.cell? _ = _ := cellTo HB3.out (HIN.out.s i hlt) hnb
        have t2 : w3.cell? _ = _ := cellTo HB3.out (HIN.out.t i hlt) hnb
        rw [← HPV.out.1] at s2
        have q0 := HN3.out.frozen 0
        have q1 := HN3.out.frozen 1
        have q2 := HN3.out.frozen 2
        have r0 : w3.cell? ⟨w.heap.size, 0, none⟩ = some (.int .i64 pp) := HN3.out.cell (i := 0) (by omega)
        have r1 : w3.cell? ⟨w.heap.size, 1, none⟩ = some (.int .i64 ps) := HN3.out.cell (i := 1) (by omega)
        have r2 : w3.cell? ⟨w.heap.size, 2, none⟩ = some (.int .i64 pt) := HN3.out.cell (i := 2) (by omega)
        have e0 : prv L.p (i + 1) = L.p i := rfl
        have e1 : prv L.s (i + 1) = L.s i := rfl
        have e2 : prv L.t (i + 1) = L.t i := rfl
        rw [← e0, HPV.out.1] at t0
        rw [← e1, HPV.out.2.1] at t1
        rw [← e2, HPV.out.2.2] at t2
        clear e0 e1 e2 s2 s3 s4 hown3 hgrow3
        have HOn : Hid (OnlyRow w.heap.size w3 (((w3.setCell ⟨w.heap.size, 0, none⟩ (.int .i64 xp)).setCell ⟨w.heap.size, 1, none⟩ (.int .i64 xs)).setCell ⟨w.heap.size, 2, none⟩ (.int .i64 xt))) := ((OnlyRow.setCell _ _ _ _).trans (OnlyRow.setCell _ _ _ _)).trans (OnlyRow.setCell _ _ _ _)
        have HNX : Hid ((((w3.setCell ⟨w.heap.size, 0, none⟩ (.int .i64 xp)).setCell ⟨w.heap.size, 1, none⟩ (.int .i64 xs)).setCell ⟨w.heap.size, 2, none⟩ (.int .i64 xt)).rowIs w.heap.size 65 3 (ndF (prv L.p (i + 1)) (prv L.s (i + 1)) (prv L.t (i + 1)))) := by
          show World.rowIs _ _ _ _ _
          rw [HPV.out.1, HPV.out.2.1, HPV.out.2.2]
          exact (((HN3.out.set 0 _).set 1 _).set 2 _).congr fun j hj => by
            have : j = 0 ∨ j = 1 ∨ j = 2 := by omega
            rcases this with rfl | rfl | rfl <;> rfl
        go_wp2
        go_roundw
        case rel => exact ⟨i + 1, by omega, by go_num, HOn.out.below HB3.out (Nat.le_refl _), HNX, own_only HOn.out HO3.out (own_far HN3.out HO3.out (by decide))⟩
        case measure => simp [intOf]; omega
    · have hie : i = L.n := by omega
      obtain ⟨n, hnn⟩ : ∃ n, n = L.n := ⟨_, rfl⟩
      have HOF : Hid (wr.ownsRow w.heap.size 145 6 (.slice va L.n vc) L.n (memC (lsB L L.n))) := by
        have := HO.out
        rw [hie] at this
        exact ownC_base this (by omega)
      rw [hie]
      go_wp2
      go_ret
      exact ⟨_, _, rfl, HOF, hbel⟩

end Go.Proofs.YtpclldccjpncdabGreat
