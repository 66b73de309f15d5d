import Derived.Test.YtpclldccjpncdabGreatM27
namespace Go.Proofs.YtpclldccjpncdabGreat
open Go.RowKit

set_option maxHeartbeats 1000000 in
theorem strength_any (p s t p' s' t' : Int) (w : World) :
    Calls Tryz.prog 89 #[.agg #[.int .i64 p, .int .i64 s, .int .i64 t], .agg #[.int .i64 p', .int .i64 s', .int .i64 t']] w fun e w' => e = .returned (.int .i64 (stI p s t p' s' t')) ∧ Below w.heap.size w w' := by
  obtain ⟨r, hr⟩ : ∃ r, r = partsI p s t p' s' t' := ⟨_, rfl⟩
  obtain ⟨q, hq⟩ : ∃ q, q = stI p s t p' s' t' := ⟨_, rfl⟩
  have HC : Hid (∀ wz, Calls Tryz.prog 68 #[.agg #[.int .i64 p, .int .i64 s, .int .i64 t], .agg #[.int .i64 p', .int .i64 s', .int .i64 t']] wz fun e w' => e = .returned (.int .i64 r) ∧ Below wz.heap.size wz w') := fun wz => by rw [hr]; exact refParts_any p s t p' s' t' wz
  rw [← hq]
  by_cases h0 : r = 0
  · have HE : Hid (q = 3) := by
      show _ = _
      rw [hq]
      unfold stI
      unfold partsI at hr
      repeat' split at hr
      all_goals first | omega | (rw [if_neg (by assumption), if_neg (by assumption)])
    subst h0
    clear hr hq
    go_enter Tryz.func89, Tryz.ntmps89
    go_wp2_with fail
    refine (HC.out _).mono ?_
    rintro e w1 ⟨rfl, hb1⟩
    go_wp2
    go_ret
    exact ⟨by rw [HE.out]; rfl, below_then (below_then (below_one _) (below_one _)) hb1⟩
  · have HE : Hid (q = r) := by
      show _ = _
      rw [hq]
      unfold stI
      unfold partsI at hr
      repeat' split at hr
      all_goals first
        | (exact absurd hr h0)
        | (rw [if_pos (by assumption)]; exact hr.symm)
        | (rw [if_neg (by assumption), if_pos (by assumption)]; exact hr.symm)
        | (rw [if_neg (by assumption), if_neg (by assumption)]; exact hr.symm)
    have h0' : (r == 0) = false := beq_eq_false_iff_ne.2 h0
    clear hr hq h0
    go_enter Tryz.func89, Tryz.ntmps89
    go_wp2_with fail
    refine (HC.out _).mono ?_
    rintro e w1 ⟨rfl, hb1⟩
    go_wp2
    go_ret
    exact ⟨by rw [HE.out]; rfl, below_then (below_then (below_one _) (below_one _)) hb1⟩

set_option maxRecDepth 100000 in
set_option maxHeartbeats 1000000 in
theorem start_any (g : Nat) (la : Option Addr) (lc gv : Nat) (l : List Sp) (an lev : Int) (w : World) (hl : l.length ≤ 1000) (hg : w.cell? ⟨g, 0, none⟩ = some (.slice la l.length lc)) (hg3 : w.cell? ⟨g, 3, none⟩ = some (.int .i64 an)) (h : ListIn w la gv l) :
    Calls Tryz.prog 92 #[.pointer (some ⟨g, 0, none⟩), .int .i64 lev] w fun e w' => e = .returned (.int .i64 (startS l an lev)) ∧ w' = w := by
  obtain ⟨r, hr⟩ : ∃ r, r = startS l an lev := ⟨_, rfl⟩
  rw [← hr]
  have HL : Hid (ListIn w la gv l) := h
  have hp := plc_le l an
  obtain ⟨a, ha⟩ : ∃ a, a = plc l an := ⟨_, rfl⟩
  have HP : Hid (∀ wz, wz = w → Calls Tryz.prog 94 #[.pointer (some ⟨g, 0, none⟩), .int .i64 an] wz fun e w' => e = .returned (.int .i64 a) ∧ w' = wz) := fun wz hz => by rw [ha, hz]; exact place_any g la lc gv l an w hl hg h
  rw [← ha] at hp
  have HR : Hid (r = stt l lev (a + 1).toNat) := by show _ = _; rw [hr, startS, ha]
  clear h hr ha
  obtain ⟨n, hn⟩ : ∃ n, n = l.length := ⟨_, rfl⟩
  have HN : Hid (n = l.length) := hn
  rw [← hn] at hl hg hp
  clear hn
  obtain ⟨hp1, hp2⟩ := hp
  go_enter Tryz.func92, Tryz.ntmps92
  go_wp2_with fail
  refine (HP.out _ rfl).mono ?_
  rintro e w1 ⟨rfl, hw1⟩
  obtain rfl := hw1.symm
  clear hw1
  go_wp2
  go_loopw [5] (fun iv wr => ∃ i : Int, Hid (r = stt l lev (i + 1).toNat) ∧ -1 ≤ i ∧ i < n ∧ iv = .int .i64 i ∧ wr = w) (fun iv _ => (intOf iv + 1).toNat)
  case atStart => exact ⟨a, HR, hp1, hp2, rfl, rfl⟩
  case round =>
    obtain ⟨i, HI, hi1, hi2, rfl, hw⟩ := hrel
    obtain rfl := hw.symm
    clear hw
    by_cases hge : 0 ≤ i
    · obtain ⟨k, hk⟩ : ∃ k : Nat, i = (k : Int) := ⟨i.toNat, by omega⟩
      subst hk
      have hlt' : k < l.length := by rw [← HN.out]; omega
      have had := HL.out.addr (by omega)
      subst had
      have c1 := HL.out.str k hlt'
      obtain ⟨x, hx⟩ : ∃ x, x = (l.getD k default).str := ⟨_, rfl⟩
      rw [← hx] at c1
      have hst : stt l lev ((k : Int) + 1).toNat = if x ≤ lev then (if x = lev then ((k : Nat) : Int) else -1) else stt l lev k := by
        rw [show ((k : Int) + 1).toNat = k + 1 by omega, stt, ← hx]
      by_cases hxl : x ≤ lev
      · by_cases hxe : x = lev
        · have HE : Hid (r = (k : Nat)) := by show _ = _; rw [HI.out, hst, if_pos hxl, if_pos hxe]
          have hxe' : (x == lev) = true := by simp [hxe]
          clear hx hst hlt' hxe
          go_wp2
          go_ret
          exact ⟨by rw [HE.out]; rfl, rfl⟩
        · have HE : Hid (r = -1) := by show _ = _; rw [HI.out, hst, if_pos hxl, if_neg hxe]
          have hxe' : (x == lev) = false := beq_eq_false_iff_ne.2 hxe
          clear hx hst hlt' hxe
          go_wp2
          go_ret
          exact ⟨by rw [HE.out]; rfl, rfl⟩
      · have HE : Hid (r = stt l lev ((k : Int) - 1 + 1).toNat) := by show _ = _; rw [HI.out, hst, if_neg hxl, show ((k : Int) - 1 + 1).toNat = k by omega]
        clear hx hst hlt'
        go_wp2
        go_roundw
        case rel => exact ⟨(k : Int) - 1, HE, by omega, by omega, rfl, by trivial⟩
        case measure => first | (simp [intOf]; done) | (simp [intOf]; omega)
    · have hie : i = -1 := by omega
      have HE : Hid (r = -1) := by show _ = _; rw [HI.out, hie]; rfl
      subst hie
      go_wp2
      go_ret
      exact ⟨by rw [HE.out]; rfl, rfl⟩

set_option maxRecDepth 100000 in
set_option maxHeartbeats 1000000 in
theorem behind_any (g : Nat) (la : Option Addr) (lc gv : Nat) (l : List Sp) (an lev : Int) (w : World) (hl : l.length ≤ 1000) (hg : w.cell? ⟨g, 0, none⟩ = some (.slice la l.length lc)) (hg3 : w.cell? ⟨g, 3, none⟩ = some (.int .i64 an)) (h : ListIn w la gv l) :
    Calls Tryz.prog 91 #[.pointer (some ⟨g, 0, none⟩), .int .i64 lev] w fun e w' => e = .returned (.int .i64 (behindS l an lev : Nat)) ∧ w' = w := by
  obtain ⟨r, hr⟩ : ∃ r, r = behindS l an lev := ⟨_, rfl⟩
  rw [← hr]
  have HL : Hid (ListIn w la gv l) := h
  have hp := plc_le l an
  obtain ⟨a, ha⟩ : ∃ a, a = plc l an := ⟨_, rfl⟩
  have HP : Hid (∀ wz, wz = w → Calls Tryz.prog 94 #[.pointer (some ⟨g, 0, none⟩), .int .i64 an] wz fun e w' => e = .returned (.int .i64 a) ∧ w' = wz) := fun wz hz => by rw [ha, hz]; exact place_any g la lc gv l an w hl hg h
  rw [← ha] at hp
  have HR : Hid (r = beh l lev (a + 1).toNat) := by show _ = _; rw [hr, behindS, ha]
  clear h hr ha
  obtain ⟨n, hn⟩ : ∃ n, n = l.length := ⟨_, rfl⟩
  have HN : Hid (n = l.length) := hn
  rw [← hn] at hl hg hp
  clear hn
  obtain ⟨hp1, hp2⟩ := hp
  go_enter Tryz.func91, Tryz.ntmps91
  go_wp2_with fail
  refine (HP.out _ rfl).mono ?_
  rintro e w1 ⟨rfl, hw1⟩
  obtain rfl := hw1.symm
  clear hw1
  go_wp2
  go_loopw [5] (fun iv wr => ∃ i : Nat, Hid (r = beh l lev i) ∧ i ≤ n ∧ iv = .int .i64 (i : Nat) ∧ wr = w) (fun iv _ => n - (intOf iv).toNat)
  case atStart => exact ⟨(a + 1).toNat, HR, by omega, by rw [show (((a + 1).toNat : Nat) : Int) = a + 1 by omega], rfl⟩
  case round =>
    obtain ⟨i, HI, hi, rfl, hw⟩ := hrel
    obtain rfl := hw.symm
    clear hw
    by_cases hlt : i < n
    · have hlt' : i < l.length := by rw [← HN.out]; exact hlt
      have had := HL.out.addr (by omega)
      subst had
      have c1 := HL.out.str i hlt'
      obtain ⟨x, hx⟩ : ∃ x, x = (l.getD i default).str := ⟨_, rfl⟩
      rw [← hx] at c1
      by_cases hxl : lev < x
      · have HE : Hid (r = beh l lev (i + 1)) := by show _ = _; rw [HI.out, beh, if_pos ⟨hlt', by rw [← hx]; exact hxl⟩]
        clear hx hlt'
        go_wp2
        go_roundw
        case rel => exact ⟨i + 1, HE, by omega, by go_num, by trivial⟩
        case measure => simp [intOf]; omega
      · have HE : Hid (r = i) := by show _ = _; rw [HI.out, beh, if_neg (fun h => hxl (by rw [hx]; exact h.2))]
        clear hx hlt'
        go_wp2
        go_ret
        exact ⟨by rw [HE.out]; rfl, rfl⟩
    · have HE : Hid (r = i) := by show _ = _; rw [HI.out, beh, if_neg (fun h => hlt (by rw [HN.out]; exact h.1))]
      go_wp2
      go_ret
      exact ⟨by rw [HE.out]; rfl, rfl⟩

end Go.Proofs.YtpclldccjpncdabGreat

namespace Go.Proofs.YtpclldccjpncdabGreat
open Go.RowKit

theorem infoSpC : (Tryz.prog.info? 129).map (fun i => (i.zero, i.size, i.bytes)) = some (some (.agg #[.int .i64 0, .int .i64 0, .bool false, .int .i64 0, .int .i64 0, .int .i64 0]), 6, 48) := by kernel_rfl

set_option maxRecDepth 100000 in
set_option maxHeartbeats 1000000 in
theorem again_any (ao : Option Addr) (k cap b off : Nat) (z : Nat → Int) (w : World) (hk : k ≤ 1000) (h : IntsIn w.heap.size w ao k b off z) :
    Calls Tryz.prog 90 #[.slice ao k cap] w fun e w' => ∃ v, e = .returned v ∧ Hid (w'.ownsRow w.heap.size 3 1 v k ((List.range k).map fun q => Value.int .i64 (z q))) ∧ Below w.heap.size w w' := by
  obtain ⟨i0, hi0, hq0, hq1, hq2⟩ := info_parts infoIntC
  have HI : Hid (IntsIn w.heap.size w ao k b off z) := h
  clear h
  go_enter Tryz.func90, Tryz.ntmps90
  go_wp2
  go_loopw [3, 4] (fun v iv wr => ∃ i : Nat, i ≤ k ∧ iv = .int .i64 (i : Nat) ∧ Below w.heap.size w wr ∧ wr.ownsRow w.heap.size 3 1 v i ((List.range i).map fun q => Value.int .i64 (z q))) (fun _ iv _ => k - (intOf iv).toNat)
  case atStart => exact ⟨0, Nat.zero_le _, rfl, Below.refl _ _, World.ownsRow_nil _ _ _ _⟩
  case round =>
    obtain ⟨i, hi, rfl, hbel, hown⟩ := hrel
    have HOW : Hid (wr.ownsRow w.heap.size 3 1 _ i ((List.range i).map fun q => Value.int .i64 (z q))) := hown
    clear hown
    have hsz := hbel.size
    by_cases hlt : i < k
    · have hbb := HI.out.lt (by omega)
      have c0 := cellTo hbel (HI.out.cell i hlt) hbb
      have ha := HI.out.addr (by omega)
      subst ha
      obtain ⟨x, hx⟩ : ∃ x, x = z i := ⟨_, rfl⟩
      have HX : Hid (x = z i) := hx
      rw [← hx] at c0
      clear hx
      go_wp2_with (first
        | (at_builtin; refine wpList_append_lies _ (by rfl) (.tmp 11) (.tmp 16) 61 (by rfl) w.heap.size 3 i0 (.int .i64 0) 1 8 Tryz.underlying61 hi0 hq0 hq1 hq2 rfl (by omega) _ i _ (by rfl) (HOW.out.alloc _) ⟨wr.heap.size, 0, none⟩ 1 1 [.int .i64 x] (by rfl) (by rfl) ?d1 ?d2 (by omega) ?d3 ?d5 ?d4 (wr.heap.size + 1) (by simp) ?_))
      case d1 => exact cell_one_new _ _ _
      case d2 => intro u hu; simp at hu; subst hu; rfl
      case d3 => unfold maxLen; omega
      case d5 => omega
      case d4 => simp; omega
      · intro g3 cap3 w3 hown3 hgrow3 _ _
        have HB3 : Hid (Below w.heap.size w w3) := ownC_grown_below (hbel.alloc hsz _) (by simp; omega) (HOW.out.alloc _) (Nat.le_refl _) hgrow3
        have HO3 : Hid (w3.ownsRow w.heap.size 3 1 (.slice (some ⟨g3, 0, none⟩) (i + 1) cap3) (i + 1) ((List.range (i + 1)).map fun q => Value.int .i64 (z q))) := by
          show World.ownsRow _ _ _ _ _ _ _
          rw [List.range_succ, List.map_append]
          show World.ownsRow _ _ _ _ _ _ (_ ++ [Value.int .i64 (z i)])
          rw [← HX.out]
          exact hown3
        clear hown3 hgrow3
        go_wp2
        go_roundw
        case rel => exact ⟨i + 1, by omega, by go_num, HB3.out, HO3.out⟩
        case measure => simp [intOf]; omega
    · have hie : i = k := by omega
      subst hie
      go_wp2
      go_ret
      exact ⟨_, rfl, HOW, hbel⟩

end Go.Proofs.YtpclldccjpncdabGreat

namespace Go.Proofs.YtpclldccjpncdabGreat
open Go.RowKit

def wkF (la : Option Addr) (n lc : Nat) (ea : Option Addr) (m ec : Nat) (sa : Option Addr) (k sc : Nat) (an nm : Int) : Nat → Value := fun j => #[Value.slice la n lc, .slice ea m ec, .slice sa k sc, .int .i64 an, .int .i64 nm].getD j undef
def intsC (l : List Int) : List Value := l.map (Value.int .i64)
/-- the work as it lies in memory -/
structure WkA (B g : Nat) (K : Wk) (la ea sa : Option Addr) (lc ec sc : Nat) (vs : Nat → Option Addr) (cs : Nat → Nat) (w : World) : Prop where
  row : w.rowIs g 127 5 (wkF la K.ls.length lc ea K.es.length ec sa K.stem.length sc K.anchor K.names)
  base : B ≤ g
  list : w.ownsRow B 129 6 (.slice la K.ls.length lc) K.ls.length (spsC K.ls)
  ents : w.ownsRow B 63 2 (.slice ea K.es.length ec) K.es.length (entC (fun j => (K.es.getD j default).tx) (fun j => (K.es.getD j default).zs.length) vs cs K.es.length)
  ints : ∀ j, j < K.es.length → w.ownsRow B 3 1 (.slice (vs j) (K.es.getD j default).zs.length (cs j)) (K.es.getD j default).zs.length (intsC (K.es.getD j default).zs)
  stem : w.ownsRow B 3 1 (.slice sa K.stem.length sc) K.stem.length (intsC K.stem)
theorem own_far {w : World} {g n : Nat} {t : TypeId} {f : Nat → Value} (hr : w.rowIs g t n f) {base : Nat} {e : TypeId} {size : Nat} {v : Value} {m : Nat} {xs : List Value} (ho : w.ownsRow base e size v m xs) (ht : e ≠ t) : v.ownBlock ≠ some g := fun hb => by
  obtain ⟨_, h2⟩ := ho
  obtain ⟨c, hc, _⟩ := hr
  rcases h2 with ⟨rfl, _⟩ | ⟨g', cap, cur, rfl, _, hh, _⟩
  · simp [Value.ownBlock] at hb
  · simp only [Value.ownBlock, Option.some.injEq] at hb
    subst hb
    rw [hh] at hc
    cases hc
    exact ht rfl
theorem ownC_cap {w : World} {base : Nat} {e : TypeId} {size : Nat} {vo : Option Addr} {n vc : Nat} {xs : List Value} (ho : w.ownsRow base e size (.slice vo n vc) n xs) : n ≤ vc := by
  rcases ho.2 with ⟨hv, h0⟩ | ⟨g, cap, cur, hv, _, _, hnc, _⟩
  · omega
  · injection hv with _ _ h
    omega
theorem row5K {w : World} {g : Nat} {la : Option Addr} {n lc : Nat} {ea : Option Addr} {m ec : Nat} {sa : Option Addr} {k sc : Nat} {an nm : Int} (h : w.rowIs g 127 5 (wkF la n lc ea m ec sa k sc an nm)) : (w.cell? ⟨g, 0, none⟩ = some (.slice la n lc) ∧ w.cell? ⟨g, 1, none⟩ = some (.slice ea m ec) ∧ w.cell? ⟨g, 2, none⟩ = some (.slice sa k sc) ∧ w.cell? ⟨g, 3, none⟩ = some (.int .i64 an) ∧ w.cell? ⟨g, 4, none⟩ = some (.int .i64 nm)) ∧ (w.frozen? ⟨g, 0, none⟩ = false ∧ w.frozen? ⟨g, 1, none⟩ = false ∧ w.frozen? ⟨g, 2, none⟩ = false ∧ w.frozen? ⟨g, 3, none⟩ = false ∧ w.frozen? ⟨g, 4, none⟩ = false) := row5F h
theorem spsC_take (l : List Sp) (a : Nat) : spsC (l.take a) = (spsC l).take (a * 6) := by
  induction l generalizing a with
  | nil => simp [spsC]
  | cons x l ih =>
    cases a with
    | zero => simp [spsC]
    | succ a =>
      show x.cs ++ spsC (l.take a) = (x.cs ++ spsC l).take ((a + 1) * 6)
      rw [ih, List.take_append, List.take_of_length_le (l := x.cs) (by show 6 ≤ _; omega), show (a + 1) * 6 - x.cs.length = a * 6 by show _ - 6 = _; omega]
theorem spsC_drop (l : List Sp) (a : Nat) : spsC (l.drop a) = (spsC l).drop (a * 6) := by
  induction l generalizing a with
  | nil => simp [spsC]
  | cons x l ih =>
    cases a with
    | zero => simp [spsC]
    | succ a =>
      show spsC (l.drop a) = (x.cs ++ spsC l).drop ((a + 1) * 6)
      rw [ih, List.drop_append, List.drop_of_length_le (l := x.cs) (by show 6 ≤ _; omega), List.nil_append, show (a + 1) * 6 - x.cs.length = a * 6 by show _ - 6 = _; omega]
theorem hB6 (w : World) {B : Nat} (hB : w.heap.size = B) (a b c d e f : Value) (t : TypeId) : ∀ (j : Nat) (u : Value), [a, b, c, d, e, f][j]? = some u → (w.alloc (.cells #[a, b, c, d, e, f] t)).cell? ((⟨B, 0, none⟩ : Addr).add j) = some u :=
  hB ▸ World.news_of_block (cs := #[a, b, c, d, e, f]) (t := t) (fr := (0, 0)) (heap_alloc_new w _)
theorem spsC_one (l : List Sp) : ∀ u ∈ spsC l, u.oneCell' = true := fun u hu => by
  rw [spsC, List.mem_flatMap] at hu
  obtain ⟨x, _, hx⟩ := hu
  simp only [Sp.cs, List.mem_cons, List.not_mem_nil, or_false] at hx
  rcases hx with rfl | rfl | rfl | rfl | rfl | rfl <;> rfl

set_option maxRecDepth 100000 in
set_option maxHeartbeats 2000000 in
theorem put_any (B g : Nat) (K : Wk) (la ea sa : Option Addr) (lc ec sc : Nat) (vs : Nat → Option Addr) (cs : Nat → Nat) (w : World) (a : Nat) (lev : Int) (h : WkA B g K la ea sa lc ec sc vs cs w) (ha : a ≤ K.ls.length) (h0 : 0 < K.ls.length) (hn : K.ls.length ≤ 1000) (hnm : 0 ≤ K.names ∧ K.names ≤ 1000) :
    Calls Tryz.prog 93 #[.pointer (some ⟨g, 0, none⟩), .int .i64 (a : Nat), .int .i64 lev] w fun e w' => ∃ (v : Value) (la' : Option Addr) (lc' : Nat), e = .returned v ∧ Hid (WkA B g (putS K a lev) la' ea sa lc' ec sc vs cs w') ∧ Below B w w' := by
  obtain ⟨i0, hi0, hq0, hq1, hq2⟩ := info_parts infoSpC
  have HK : Hid (WkA B g K la ea sa lc ec sc vs cs w) := h
  obtain ⟨⟨c0, c1, c2, c3, c4⟩, f0, f1, f2, f3, f4⟩ := row5K h.row
  have hcap := ownC_cap h.list
  obtain ⟨vo, vc, gv, hv, hva, hvc⟩ := ownC_cells h.list
  have hvo := hva h0
  injection hv with hv1 _ hv3
  obtain ⟨hvo1, hvo2, hvo3⟩ := hvo
  rw [← hv1] at hvo1
  subst hvo1
  obtain ⟨n, hnn⟩ : ∃ n, n = K.ls.length := ⟨_, rfl⟩
  obtain ⟨nm, hnme⟩ : ∃ n, n = K.names := ⟨_, rfl⟩
  rw [← hnn] at c0 ha h0 hn hcap
  rw [← hnme] at c4 hnm
  have hgl : g < w.heap.size := h.row.lt
  have HN1 : Hid (∀ (j : Nat) (u : Value), (spsC (K.ls.take a))[j]? = some u → w.cell? ((⟨gv, 0, none⟩ : Addr).add j) = some u) := fun j u hu => by
    rw [spsC_take, List.getElem?_take] at hu
    split at hu
    · have hj : j < K.ls.length * 6 := by omega
      have := hvc j u hj hu
      by_cases hj0 : j = 0
      · subst hj0
        simpa [Addr.add] using this
      · simpa [Addr.add, hj0] using this
    · cases hu
  have HL1 : Hid ((spsC (K.ls.take a)).length = a * 6) := by show _ = _; rw [spsC_len, List.length_take, Nat.min_eq_left (by omega)]
  clear h hva hv1 hv3
  have HVC : Hid (∀ c u, c < K.ls.length * 6 → (spsC K.ls)[c]? = some u → w.cell? ⟨gv, c, none⟩ = some u) := hvc
  clear hvc
  have HNN : Hid (n = K.ls.length ∧ nm = K.names) := ⟨hnn, hnme⟩
  clear hnn hnme
  go_enter Tryz.func93, Tryz.ntmps93
  go_wp2_with (first
    | (at_builtin; refine wpList_append_all _ (by rfl) (.tmp 7) (.tmp 13) 125 (by rfl) w.heap.size 129 i0 (.agg #[.int .i64 0, .int .i64 0, .bool false, .int .i64 0, .int .i64 0, .int .i64 0]) 6 48 Tryz.underlying125 hi0 hq0 hq1 hq2 rfl (by omega) _ 0 [] (by rfl) (World.ownsRow_nil _ _ _ _) _ ⟨gv, 0, none⟩ a lc (spsC (K.ls.take a)) (by rfl) ?a0 HL1.out HN1.out ?a1 ?a2 ?a3 (Nat.le_refl _) ?_))
  case a1 => exact spsC_one _
  case a2 => unfold maxLen; omega
  case a3 => omega
  · intro v1 w1 hown1 hgrow1
    obtain ⟨l1, lc1, hl1⟩ := ownC_shape hown1
    subst hl1
    have HB1 : Hid (Below w.heap.size w w1) := (Below.refl w.heap.size w).grown hgrow1 (Nat.le_refl _) (fun _ hr => by simp [Value.ownBlock] at hr)
    have HO1 : Hid (w1.ownsRow w.heap.size 129 6 (.slice l1 a lc1) a (spsC (K.ls.take a))) := hown1
    have hz1 := HB1.out.size
    have e0 := cellTo HB1.out c0 hgl
    have e4 := cellTo HB1.out c4 hgl
    clear hown1 hgrow1
    go_wp2_with (first
      | (at_builtin; refine wpList_append_lies _ (by rfl) (.tmp 15) (.tmp 22) 125 (by rfl) w.heap.size 129 i0 (.agg #[.int .i64 0, .int .i64 0, .bool false, .int .i64 0, .int .i64 0, .int .i64 0]) 6 48 Tryz.underlying125 hi0 hq0 hq1 hq2 rfl (by omega) _ a _ (by rfl) (HO1.out.alloc _) ⟨w1.heap.size, 0, none⟩ 1 1 [.int .i64 nm, .int .i64 lev, .bool false, .int .i64 0, .int .i64 0, .int .i64 0] (by rfl) (by rfl) ?b1 ?b2 (by omega) ?b3 ?b5 ?b4 (w1.heap.size + 1) (by simp) ?_))
    case b1 => exact hB6 _ rfl _ _ _ _ _ _ _
    case b2 => intro u hu; simp at hu; rcases hu with rfl | rfl | rfl | rfl <;> rfl
    case b3 => unfold maxLen; omega
    case b5 => omega
    case b4 => simp; omega
    · intro g2 lc2 w2 hown2 hgrow2 _ _
      have HB2 : Hid (Below w.heap.size w w2) := ownC_grown_below (below_then HB1.out (below_one _)) (by simp; omega) (HO1.out.alloc _) (Nat.le_refl _) hgrow2
      have HO2 : Hid (w2.ownsRow w.heap.size 129 6 (.slice (some ⟨g2, 0, none⟩) (a + 1) lc2) (a + 1) (spsC (K.ls.take a ++ [Sp.mk nm lev false 0 0 0]))) := by
        show World.ownsRow _ _ _ _ _ _ _
        rw [spsC_app]
        exact hown2
      have hz2 := HB2.out.size
      have d0 := cellTo HB2.out c0 hgl
      clear hown2 hgrow2 e0 e4
      have HN2 : Hid (∀ (j : Nat) (u : Value), (spsC (K.ls.drop a))[j]? = some u → w2.cell? ((⟨gv, a * 6, none⟩ : Addr).add j) = some u) := fun j u hu => by
        rw [spsC_drop, List.getElem?_drop] at hu
        have hj : a * 6 + j < K.ls.length * 6 := by rw [← spsC_len]; exact (List.getElem?_eq_some_iff.1 hu).1
        have := cellTo HB2.out (HVC.out _ u hj hu) hvo2
        by_cases hj0 : j = 0
        · subst hj0
          simpa [Addr.add] using this
        · simpa [Addr.add, hj0] using this
      have HL2 : Hid ((spsC (K.ls.drop a)).length = (n - a) * 6) := by show _ = _; rw [spsC_len, List.length_drop, HNN.out.1]
      go_wp2_with (first
        | (at_builtin; refine wpList_append_all _ (by rfl) (.tmp 24) (.tmp 30) 125 (by rfl) w.heap.size 129 i0 (.agg #[.int .i64 0, .int .i64 0, .bool false, .int .i64 0, .int .i64 0, .int .i64 0]) 6 48 Tryz.underlying125 hi0 hq0 hq1 hq2 rfl (by omega) _ (a + 1) _ (by rfl) HO2.out _ ⟨gv, a * 6, none⟩ (n - a) _ (spsC (K.ls.drop a)) (by rfl) ?x0 HL2.out HN2.out ?x1 ?x2 ?x3 ?x4 ?_))
      any_goals first
        | (exact spsC_one _)
        | (unfold maxLen; omega)
        | omega
        | (intro _; rfl)
      all_goals
        intro v3 w3 hown3 hgrow3
        have hlen3 : a + 1 + (n - a) = (putS K a lev).ls.length := by
          show _ = (K.ls.take a ++ [Sp.mk K.names lev false 0 0 0] ++ K.ls.drop a).length
          rw [List.length_append, List.length_append, List.length_take, List.length_drop, ← HNN.out.1, Nat.min_eq_left ha]
          rfl
        have HO3 : Hid (w3.ownsRow w.heap.size 129 6 v3 (putS K a lev).ls.length (spsC (putS K a lev).ls)) := by
          show World.ownsRow _ _ _ _ _ _ _
          rw [← hlen3]
          show World.ownsRow _ _ _ _ _ _ (spsC (K.ls.take a ++ [Sp.mk K.names lev false 0 0 0] ++ K.ls.drop a))
          rw [spsC_app, ← HNN.out.2]
          exact hown3
        obtain ⟨n3, hn3⟩ : ∃ x, x = (putS K a lev).ls.length := ⟨_, rfl⟩
        rw [← hn3] at HO3
        have HN3 : Hid (n3 = (putS K a lev).ls.length) := hn3
        obtain ⟨l3, lc3, hl3⟩ := ownC_shape HO3.out
        subst hl3
        have HB3 : Hid (Below w.heap.size w w3) := ownC_grown_below HB2.out hz2 HO2.out (Nat.le_refl _) hgrow3
        have HRW : Hid (w3.rowIs g 127 5 (wkF (some ⟨gv, 0, none⟩) K.ls.length lc ea K.es.length ec sa K.stem.length sc K.anchor K.names)) := HK.out.row.of_block (HB3.out.block _ hgl)
        obtain ⟨⟨k0, k1, k2, k3, k4⟩, q0, q1, q2, q3, q4⟩ := row5K HRW.out
        rw [← HNN.out.2] at k4
        have r1 := HRW.out.set 0 (.slice l3 n3 lc3)
        have r2 := r1.set 3 (.int .i64 nm)
        have r3 := r2.set 4 (.int .i64 (nm + 1))
        have y4 : (w3.setCell ⟨g, 0, none⟩ (.slice l3 n3 lc3)).cell? ⟨g, 4, none⟩ = some (.int .i64 nm) := by have := r1.cell (i := 4) (by omega); rw [HNN.out.2]; exact this
        have y3 := r1.cell (i := 3) (by omega)
        have z3 := r1.frozen 3
        have y4b : ((w3.setCell ⟨g, 0, none⟩ (.slice l3 n3 lc3)).setCell ⟨g, 3, none⟩ (.int .i64 nm)).cell? ⟨g, 4, none⟩ = some (.int .i64 nm) := by have := r2.cell (i := 4) (by omega); rw [HNN.out.2]; rw [HNN.out.2] at this; exact this
        have z4 := r2.frozen 4
        have HR3 : Hid ((((w3.setCell ⟨g, 0, none⟩ (.slice l3 n3 lc3)).setCell ⟨g, 3, none⟩ (.int .i64 nm)).setCell ⟨g, 4, none⟩ (.int .i64 (nm + 1))).rowIs g 127 5 (wkF l3 n3 lc3 ea K.es.length ec sa K.stem.length sc nm (nm + 1))) := r3.congr fun j hj => by
          have : j = 0 ∨ j = 1 ∨ j = 2 ∨ j = 3 ∨ j = 4 := by omega
          rcases this with rfl | rfl | rfl | rfl | rfl <;> rfl
        have HOn : Hid (OnlyRow g w3 (((w3.setCell ⟨g, 0, none⟩ (.slice l3 n3 lc3)).setCell ⟨g, 3, none⟩ (.int .i64 nm)).setCell ⟨g, 4, none⟩ (.int .i64 (nm + 1)))) := ((OnlyRow.setCell _ _ _ _).trans (OnlyRow.setCell _ _ _ _)).trans (OnlyRow.setCell _ _ _ _)
        have HBB : Hid (Below B w3 (((w3.setCell ⟨g, 0, none⟩ (.slice l3 n3 lc3)).setCell ⟨g, 3, none⟩ (.int .i64 nm)).setCell ⟨g, 4, none⟩ (.int .i64 (nm + 1)))) := HOn.out.below (Below.refl _ _) HK.out.base
        simp only [wkF] at y3
        clear hown3 hgrow3 r1 r2 r3 hn3 hlen3 d0
        go_wp2
        have hBw : B ≤ w.heap.size := by have := HK.out.base; omega
        refine bodyPost_end (results_none rfl _ _ _) rfl ⟨_, l3, lc3, rfl, ?_, (HB3.out.mono hBw).trans HBB.out⟩
        have hrow := HR3.out
        rw [HN3.out, HNN.out.2] at hrow
        have hlist := own_only HOn.out HO3.out (own_far HRW.out HO3.out (by decide))
        rw [HN3.out, HNN.out.2] at hlist
        refine ⟨?_, HK.out.base, ?_, ?_, fun j hj => ?_, ?_⟩
        · rw [HN3.out, HNN.out.2]
          exact hrow
        · rw [HN3.out, HNN.out.2]
          exact ownC_base hlist hBw
        · have ho := ownC_below HK.out.ents HB3.out
          exact own_only HOn.out ho (own_far HRW.out ho (by decide))
        · have ho := ownC_below (HK.out.ints j hj) HB3.out
          exact own_only HOn.out ho (own_far HRW.out ho (by decide))
        · have ho := ownC_below HK.out.stem HB3.out
          exact own_only HOn.out ho (own_far HRW.out ho (by decide))

end Go.Proofs.YtpclldccjpncdabGreat
