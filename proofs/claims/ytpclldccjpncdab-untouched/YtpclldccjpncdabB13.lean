import Derived.Test.YtpclldccjpncdabB12
import Derived.BigQuiet
namespace Go.Proofs.Ytpclldccjpncdab
open Go.RowKit

theorem SlIn.news {B : Nat} {w : World} {v : Value} {zs : List Int} (h : SlIn B w v zs) : ∀ (j : Nat) (u : Value), (zs.map (Value.int .i64))[j]? = some u → w.cell? ((⟨aB (slA v), aO (slA v), none⟩ : Addr).add j) = some u := fun j u hu => by
  have hj : j < zs.length := by
    by_cases hx : j < zs.length
    · exact hx
    · rw [List.getElem?_eq_none (by simp; omega)] at hu; cases hu
  have := h.ints.cell j hj
  rw [List.getElem?_map, List.getElem?_eq_getElem hj] at hu
  rw [Addr.add_mid, this, List.getD_eq_getElem?_getD, List.getElem?_eq_getElem hj]
  exact hu
theorem ints_one (l : List Int) : ∀ u ∈ l.map (Value.int .i64), u.oneCell' = true := fun u hu => by
  rw [List.mem_map] at hu
  obtain ⟨_, _, rfl⟩ := hu
  rfl

set_option maxRecDepth 100000 in
set_option maxHeartbeats 1000000 in
theorem joined_any (v1 v2 : Value) (zs ms : List Int) (x : Int) (w : World) (h1 : SlIn w.heap.size w v1 zs) (h2 : SlIn w.heap.size w v2 ms) (hz : zs.length ≤ 100) (hm : ms.length ≤ 100) :
    Calls Try.prog 62 #[v1, .int .i64 x, v2] w fun e w' => ∃ (a : Option Addr) (c : Nat), e = .returned (.slice a (zs ++ [x] ++ ms).length c) ∧ Hid (w'.ownsRow w.heap.size 3 1 (.slice a (zs ++ [x] ++ ms).length c) (zs ++ [x] ++ ms).length ((zs ++ [x] ++ ms).map (Value.int .i64))) ∧ Below w.heap.size w w' := by
  obtain ⟨i0, hi0, hq0, hq1, hq2⟩ := info_parts infoIntC
  have N1 := h1.news
  have N2 := h2.news
  have A1 := h1.ints.addr
  have A2 := h2.ints.addr
  have L2 := h2.ints.lt
  have S1 := h1.shape
  have S2 := h2.shape
  generalize slA v1 = a1 at S1 A1 N1
  generalize slC v1 = c1 at S1
  generalize slA v2 = a2 at S2 A2 N2 L2
  generalize slC v2 = c2 at S2
  subst S1
  subst S2
  have HN1 : Hid (∀ (j : Nat) (u : Value), (zs.map (Value.int .i64))[j]? = some u → w.cell? ((⟨aB a1, aO a1, none⟩ : Addr).add j) = some u) := N1
  have HN2 : Hid (∀ (j : Nat) (u : Value), (ms.map (Value.int .i64))[j]? = some u → w.cell? ((⟨aB a2, aO a2, none⟩ : Addr).add j) = some u) := N2
  have HA1 : Hid (0 < zs.length → a1 = some ⟨aB a1, aO a1, none⟩) := A1
  have HA2 : Hid (0 < ms.length → a2 = some ⟨aB a2, aO a2, none⟩) := A2
  have HT2 : Hid (0 < ms.length → aB a2 < w.heap.size) := L2
  clear h1 h2 N1 N2 A1 A2 L2
  obtain ⟨n1, hn1⟩ : ∃ n, n = zs.length := ⟨_, rfl⟩
  obtain ⟨n2, hn2⟩ : ∃ n, n = ms.length := ⟨_, rfl⟩
  have HZ : Hid (n1 = zs.length ∧ n2 = ms.length) := ⟨hn1, hn2⟩
  obtain ⟨n3, hn3⟩ : ∃ n, n = (zs ++ [x] ++ ms).length := ⟨_, rfl⟩
  have HZ3 : Hid (n3 = (zs ++ [x] ++ ms).length ∧ n1 + 1 + n2 = n3) := ⟨hn3, by rw [hn3, hn1, hn2]; simp; omega⟩
  rw [← hn1] at hz
  rw [← hn2] at hm
  rw [← hn1] at HA1
  rw [← hn2] at HA2 HT2
  rw [← hn1, ← hn2, ← hn3]
  clear hn1 hn2 hn3
  go_enter Try.func62, Try.ntmps62
  go_wp2_with (first
    | (at_builtin; refine wpList_append_all _ (by rfl) (.tmp 8) (.tmp 9) 22 (by rfl) w.heap.size 3 i0 (.int .i64 0) 1 8 Try.underlying22 hi0 hq0 hq1 hq2 rfl (by omega) _ 0 [] (by rfl) (World.ownsRow_nil _ _ _ _) _ ⟨aB a1, aO a1, none⟩ n1 c1 (zs.map (Value.int .i64)) (by rfl) HA1.out ?a0 HN1.out (ints_one _) ?a2 ?a3 (Nat.le_refl _) ?_))
  case a0 => rw [List.length_map, ← HZ.out.1]; omega
  case a2 => unfold maxLen; omega
  case a3 => omega
  · intro v3 w1 hown1 hgrow1
    obtain ⟨l1, lc1, hl1⟩ := ownC_shape hown1
    subst hl1
    have HB1 : Hid (Below w.heap.size w w1) := (Below.refl w.heap.size w).grown hgrow1 (Nat.le_refl _) (fun _ hr => by simp [Value.ownBlock] at hr)
    have HO1 : Hid (w1.ownsRow w.heap.size 3 1 (.slice l1 (n1) lc1) (n1) (zs.map (Value.int .i64))) := hown1
    have hz1 := HB1.out.size
    clear hown1 hgrow1
    go_wp2_with (first
      | (at_builtin; refine wpList_append_lies _ (by rfl) (.tmp 11) (.tmp 13) 22 (by rfl) w.heap.size 3 i0 (.int .i64 0) 1 8 Try.underlying22 hi0 hq0 hq1 hq2 rfl (by omega) _ (n1) _ (by rfl) (HO1.out.alloc _) ⟨w1.heap.size, 0, none⟩ 1 1 [.int .i64 x] (by rfl) (by rfl) ?b1 ?b2 (by omega) ?b3 ?b5 ?b4 (w1.heap.size + 1) (by simp) ?_))
    case b1 => exact cell_one_new _ _ _
    case b2 => intro u hu; simp at hu; subst hu; rfl
    case b3 => unfold maxLen; omega
    case b5 => omega
    case b4 => simp; omega
    · intro g2 lc2 w2 hown2 hgrow2 _ _
      have HB2 : Hid (Below w.heap.size w w2) := ownC_grown_below (below_then HB1.out (below_one _)) (by simp; omega) (HO1.out.alloc _) (Nat.le_refl _) hgrow2
      have HO2 : Hid (w2.ownsRow w.heap.size 3 1 (.slice (some ⟨g2, 0, none⟩) (n1 + 1) lc2) (n1 + 1) (zs.map (Value.int .i64) ++ [.int .i64 x])) := hown2
      have hz2 := HB2.out.size
      have HN2' : Hid (∀ (j : Nat) (u : Value), (ms.map (Value.int .i64))[j]? = some u → w2.cell? ((⟨aB a2, aO a2, none⟩ : Addr).add j) = some u) := fun j u hu => by
        have hj : j < ms.length := by
          by_cases hx : j < ms.length
          · exact hx
          · rw [List.getElem?_eq_none (by simp; omega)] at hu; cases hu
        have h0 : 0 < n2 := by have := HZ.out.2; omega
        have := HN2.out j u hu
        rw [Addr.add_mid] at this ⊢
        exact cellTo HB2.out this (HT2.out h0)
      clear hown2 hgrow2
      go_wp2_with (first
        | (at_builtin; refine wpList_append_all _ (by rfl) (.tmp 15) (.tmp 16) 22 (by rfl) w.heap.size 3 i0 (.int .i64 0) 1 8 Try.underlying22 hi0 hq0 hq1 hq2 rfl (by omega) _ (n1 + 1) _ (by rfl) HO2.out _ ⟨aB a2, aO a2, none⟩ n2 c2 (ms.map (Value.int .i64)) (by rfl) HA2.out ?e0 HN2'.out (ints_one _) ?e2 ?e3 ?e4 ?_))
      case e0 => rw [List.length_map, ← HZ.out.2]; omega
      case e2 => unfold maxLen; omega
      case e3 => omega
      case e4 => omega
      · intro v4 w3 hown3 hgrow3
        have HB3 : Hid (Below w.heap.size w w3) := ownC_grown_below HB2.out hz2 HO2.out (Nat.le_refl _) hgrow3
        have ho : w3.ownsRow w.heap.size 3 1 v4 n3 ((zs ++ [x] ++ ms).map (Value.int .i64)) := by
          have := hown3
          rw [HZ3.out.2] at this
          rw [List.map_append, List.map_append, List.append_assoc]
          exact this
        obtain ⟨l4, lc4, hl4⟩ := ownC_shape ho
        subst hl4
        have HO3 : Hid (w3.ownsRow w.heap.size 3 1 (.slice l4 n3 lc4) n3 ((zs ++ [x] ++ ms).map (Value.int .i64))) := ho
        clear hown3 hgrow3 ho
        go_wp2
        go_ret
        exact ⟨_, _, rfl, HO3, HB3.out⟩

theorem infoMemC : (Try.prog.info? 97).map (fun i => (i.zero, i.size, i.bytes)) = some (some (.agg #[.int .i64 0, .int .i64 0, .bool false, .int .i64 0, .int .i64 0, .int .i64 0]), 6, 48) := by kernel_rfl
/-- the list with one more, as far as place i of the old one -/
def wmS (l : List Sp) (p : Nat) (x : Sp) (i : Nat) : List Sp := if p < i then l.take p ++ [x] ++ (l.drop p).take (i - p) else l.take i
theorem take_snocS (l : List Sp) (i : Nat) (h : i < l.length) : l.take (i + 1) = l.take i ++ [l.getD i default] := by
  rw [List.take_succ_eq_append_getElem h, getD_at h]
theorem wmS_step {l : List Sp} {p i : Nat} (x : Sp) (h : i < l.length) (hn : i ≠ p) : wmS l p x (i + 1) = wmS l p x i ++ [l.getD i default] := by
  unfold wmS
  by_cases hp : p < i
  · rw [if_pos (by omega), if_pos hp]
    have hd : i - p < (l.drop p).length := by rw [List.length_drop]; omega
    have hy : (l.drop p).getD (i - p) default = l.getD i default := by
      rw [getD_at hd, getD_at h, List.getElem_drop]
      congr 1
      omega
    rw [show i + 1 - p = (i - p) + 1 by omega, take_snocS _ _ hd, hy, ← List.append_assoc]
  · rw [if_neg (by omega), if_neg hp]
    exact take_snocS l i h
theorem wmS_here {l : List Sp} {p : Nat} (x : Sp) (h : p < l.length) : wmS l p x (p + 1) = wmS l p x p ++ [x] ++ [l.getD p default] := by
  unfold wmS
  rw [if_pos (by omega), if_neg (by omega)]
  have hd : 0 < (l.drop p).length := by rw [List.length_drop]; omega
  have hy : (l.drop p).getD 0 default = l.getD p default := by
    rw [getD_at hd, getD_at h, List.getElem_drop]
    congr 1
  rw [show p + 1 - p = 0 + 1 by omega, take_snocS _ _ hd, List.take_zero, List.nil_append, hy]
theorem wmS_len {l : List Sp} {p i : Nat} (x : Sp) (h : i ≤ l.length) : (wmS l p x i).length ≤ i + 1 := by
  unfold wmS
  split
  · simp; omega
  · simp; omega
theorem wmS_end {l : List Sp} {p : Nat} (x : Sp) (hp : p ≤ l.length) : (if l.length ≤ p then wmS l p x l.length ++ [x] else wmS l p x l.length) = l.take p ++ [x] ++ l.drop p := by
  unfold wmS
  split
  · next h =>
    have e : p = l.length := by omega
    rw [if_neg (by omega), e]
    simp
  · next h =>
    rw [if_pos (by omega), List.take_of_length_le (l := l.drop p) (by rw [List.length_drop]; omega)]
theorem mem_one (x : Sp) : ∀ u ∈ x.cm, u.oneCell' = true := fun u hu => by
  simp only [Sp.cm, List.mem_cons, List.not_mem_nil, or_false] at hu
  rcases hu with rfl | rfl | rfl | rfl | rfl | rfl <;> rfl

set_option maxRecDepth 100000 in
set_option maxHeartbeats 2000000 in
theorem withMember_any (la : Option Addr) (lc gv : Nat) (l : List Sp) (p : Nat) (nm st : Int) (w : World) (hl : l.length ≤ 1000) (hp : p ≤ l.length) (h : MemIn w.heap.size w la gv l) :
    Calls Try.prog 61 #[.slice la l.length lc, .int .i64 (p : Nat), .agg #[.int .i64 nm, .int .i64 st, .bool true, .int .i64 0, .int .i64 0, .int .i64 0]] w fun e w' => ∃ (a : Option Addr) (c n : Nat), e = .returned (.slice a n c) ∧ Hid (n = (l.take p ++ [Sp.mk nm st false 0 0 0] ++ l.drop p).length ∧ w'.ownsRow w.heap.size 97 6 (.slice a n c) n (memC (l.take p ++ [Sp.mk nm st false 0 0 0] ++ l.drop p))) ∧ Below w.heap.size w w' := by
  obtain ⟨i0, hi0, hq0, hq1, hq2⟩ := info_parts infoMemC
  obtain ⟨x, hx⟩ : ∃ x : Sp, x = Sp.mk nm st false 0 0 0 := ⟨_, rfl⟩
  have HX : Hid (x.cm = [.int .i64 nm, .int .i64 st, .bool true, .int .i64 0, .int .i64 0, .int .i64 0]) := by show _ = _; rw [hx]; rfl
  rw [← hx]
  have HEND : Hid ((if l.length ≤ p then wmS l p x l.length ++ [x] else wmS l p x l.length) = l.take p ++ [x] ++ l.drop p) := wmS_end x hp
  clear hx
  have HL : Hid (∀ wr, Below w.heap.size w wr → MemIn w.heap.size wr la gv l) := fun wr hb => h.below hb
  clear h
  obtain ⟨n, hn⟩ : ∃ n, n = l.length := ⟨_, rfl⟩
  have HN : Hid (n = l.length) := hn
  rw [← hn] at hl hp HEND ⊢
  clear hn
  obtain ⟨W, hW⟩ : ∃ W, W = w.alloc (.cells #[.int .i64 nm, .int .i64 st, .bool true, .int .i64 0, .int .i64 0, .int .i64 0] 97) := ⟨_, rfl⟩
  have HWS : Hid (W.heap.size = w.heap.size + 1) := by show _ = _; rw [hW]; simp
  have HM : Hid (∀ k u, [Value.int .i64 nm, .int .i64 st, .bool true, .int .i64 0, .int .i64 0, .int .i64 0][k]? = some u → W.cell? ⟨w.heap.size, k, none⟩ = some u) := fun k u hu => by
    rw [hW]
    have := hB6 w rfl (.int .i64 nm) (.int .i64 st) (.bool true) (.int .i64 0) (.int .i64 0) (.int .i64 0) 97 k u hu
    rw [Addr.add_mid] at this
    simpa using this
  have HB0 : Hid (Below w.heap.size w W) := by show Below _ _ _; rw [hW]; exact below_one _
  go_enter Try.func61, Try.ntmps61
  go_wp2
  rw [← hW]
  clear hW
  go_loopw [7, 8] (fun v iv wr => ∃ (i m : Nat), i ≤ n ∧ m ≤ i + 1 ∧ iv = .int .i64 (i : Nat) ∧ Below (w.heap.size + 1) W wr ∧ Hid (m = (wmS l p x i).length ∧ wr.ownsRow (w.heap.size + 1) 97 6 v m (memC (wmS l p x i)))) (fun _ iv _ => n - (intOf iv).toNat)
  case atStart => exact ⟨0, 0, Nat.zero_le _, by omega, rfl, Below.refl _ _, by
    have : wmS l p x 0 = [] := by unfold wmS; rw [if_neg (by omega)]; rfl
    rw [this]
    exact ⟨rfl, World.ownsRow_nil _ _ _ _⟩⟩
  case round =>
    obtain ⟨i, m, hi, hmi, rfl, hbel, HO⟩ := hrel
    have hws := HWS.out
    have hsz : W.heap.size ≤ wr.heap.size := by have := hbel.size; exact this
    obtain ⟨va, vc, hv⟩ := ownC_shape HO.out.2
    subst hv
    have HC : Hid (∀ wx, Below (w.heap.size + 1) W wx → ∀ k u, [Value.int .i64 nm, .int .i64 st, .bool true, .int .i64 0, .int .i64 0, .int .i64 0][k]? = some u → wx.cell? ⟨w.heap.size, k, none⟩ = some u) := fun wx hb k u hu => cellTo hb (HM.out k u hu) (by show w.heap.size < _; omega)
    by_cases hlt : i < n
    · have hlt' : i < l.length := by rw [← HN.out]; exact hlt
      have hL := HL.out wr (HB0.out.trans (hbel.mono (by omega)))
      have ha := hL.addr (by omega)
      subst ha
      have hgv := hL.lt (by omega)
      obtain ⟨y, hy⟩ : ∃ y, y = l.getD i default := ⟨_, rfl⟩
      have c0 := hL.name i hlt'
      have c1 := hL.str i hlt'
      have c2 := hL.new i hlt'
      have c3 := hL.p i hlt'
      have c4 := hL.s i hlt'
      have c5 := hL.t i hlt'
      rw [← hy] at c0 c1 c2 c3 c4 c5
      have HYC : Hid (memC [y] = [.int .i64 y.name, .int .i64 y.str, .bool (!y.old), .int .i64 y.p, .int .i64 y.s, .int .i64 y.t]) := rfl
      by_cases hip : i = p
      · have HST : Hid (wmS l p x (i + 1) = wmS l p x i ++ [x] ++ [y]) := by show _ = _; rw [hy, hip]; exact wmS_here x (by rw [← HN.out, ← hip]; exact hlt)
        have m0 := HC.out wr hbel 0 _ rfl
        have m1 := HC.out wr hbel 1 _ rfl
        have m2 := HC.out wr hbel 2 _ rfl
        have m3 := HC.out wr hbel 3 _ rfl
        have m4 := HC.out wr hbel 4 _ rfl
        have m5 := HC.out wr hbel 5 _ rfl
        subst hip
        clear hy hlt' hL
        go_wp2_with (first
          | (at_builtin; refine wpList_append_lies _ (by rfl) (.tmp 18) (.tmp 20) 73 (by rfl) (w.heap.size + 1) 97 i0 (.agg #[.int .i64 0, .int .i64 0, .bool false, .int .i64 0, .int .i64 0, .int .i64 0]) 6 48 Try.underlying73 hi0 hq0 hq1 hq2 rfl (by omega) _ m _ (by rfl) (HO.out.2.alloc _) ⟨wr.heap.size, 0, none⟩ 1 1 [.int .i64 nm, .int .i64 st, .bool true, .int .i64 0, .int .i64 0, .int .i64 0] (by rfl) (by rfl) ?b1 ?b2 (by omega) ?b3 ?b5 ?b4 (wr.heap.size + 1) (by simp) ?_))
        case b1 => exact hB6 _ rfl _ _ _ _ _ _ _
        case b2 => intro u hu; simp at hu; rcases hu with rfl | rfl | rfl | rfl <;> rfl
        case b3 => unfold maxLen; omega
        case b5 => omega
        case b4 => simp; omega
        · intro g2 cap2 w2 hown2 hgrow2 _ _
          have HB2 : Hid (Below (w.heap.size + 1) W w2) := ownC_grown_below (hbel.alloc (by omega) _) (by simp; omega) (HO.out.2.alloc _) (Nat.le_refl _) hgrow2
          have HO2 : Hid (w2.ownsRow (w.heap.size + 1) 97 6 (.slice (some ⟨g2, 0, none⟩) (m + 1) cap2) (m + 1) (memC (wmS l i x i ++ [x]))) := by
            show World.ownsRow _ _ _ _ _ _ _
            rw [memC_app, show memC [x] = x.cm ++ [] from rfl, HX.out]
            exact hown2
          have hz2 := HB2.out.size
          have hL2 := HL.out w2 (HB0.out.trans (HB2.out.mono (by omega)))
          have hlt' : i < l.length := by rw [← HN.out]; exact hlt
          have d0 := hL2.name i hlt'
          have d1 := hL2.str i hlt'
          have d2 := hL2.new i hlt'
          have d3 := hL2.p i hlt'
          have d4 := hL2.s i hlt'
          have d5 := hL2.t i hlt'
          have hy : y = l.getD i default := by
            have := HST.out
            rw [wmS_here x hlt'] at this
            have h2 := List.append_inj_right' this rfl
            injection h2 with h2 _
            exact h2.symm
          rw [← hy] at d0 d1 d2 d3 d4 d5
          clear hown2 hgrow2 c0 c1 c2 c3 c4 c5 m0 m1 m2 m3 m4 m5 hL2 hy hlt'
          go_wp2_with (first
            | (at_builtin; refine wpList_append_lies _ (by rfl) (.tmp 22) (.tmp 27) 73 (by rfl) (w.heap.size + 1) 97 i0 (.agg #[.int .i64 0, .int .i64 0, .bool false, .int .i64 0, .int .i64 0, .int .i64 0]) 6 48 Try.underlying73 hi0 hq0 hq1 hq2 rfl (by omega) _ (m + 1) _ (by rfl) (HO2.out.alloc _) ⟨w2.heap.size, 0, none⟩ 1 1 [.int .i64 y.name, .int .i64 y.str, .bool (!y.old), .int .i64 y.p, .int .i64 y.s, .int .i64 y.t] (by rfl) (by rfl) ?e1 ?e2 (by omega) ?e3 ?e5 ?e4 (w2.heap.size + 1) (by simp) ?_))
          case e1 => exact hB6 _ rfl _ _ _ _ _ _ _
          case e2 => intro u hu; simp at hu; rcases hu with rfl | rfl | rfl | rfl | rfl | rfl <;> rfl
          case e3 => unfold maxLen; omega
          case e5 => omega
          case e4 => simp; omega
          · intro g3 cap3 w3 hown3 hgrow3 _ _
            have HB3 : Hid (Below (w.heap.size + 1) W w3) := ownC_grown_below (HB2.out.alloc (by omega) _) (by simp; omega) (HO2.out.alloc _) (Nat.le_refl _) hgrow3
            have HO3 : Hid (m + 1 + 1 = (wmS l i x (i + 1)).length ∧ w3.ownsRow (w.heap.size + 1) 97 6 (.slice (some ⟨g3, 0, none⟩) (m + 1 + 1) cap3) (m + 1 + 1) (memC (wmS l i x (i + 1)))) := by
              refine ⟨?_, ?_⟩
              · rw [HST.out, List.length_append, List.length_append, ← HO.out.1]; rfl
              · rw [HST.out, memC_app, HYC.out]
                exact hown3
            have hm2 : m ≤ i := by
              have := HO.out.1
              have h2 : (wmS l i x i).length = i := by unfold wmS; rw [if_neg (by omega), List.length_take, ← HN.out]; omega
              omega
            clear hown3 hgrow3 d0 d1 d2 d3 d4 d5
            go_wp2
            go_roundw
            case rel => exact ⟨i + 1, m + 1 + 1, by omega, by omega, by go_num, HB3.out, HO3⟩
            case measure => simp [intOf]; omega
      · have HST : Hid (wmS l p x (i + 1) = wmS l p x i ++ [y]) := by show _ = _; rw [hy]; exact wmS_step x hlt' hip
        have hip' : ((i : Int) == (p : Int)) = false := by simp; omega
        have hip2 : ((i : Nat) == (p : Nat)) = false := by simp; omega
        clear hy hlt' hL hip
        go_wp2_with (first
          | (at_builtin; refine wpList_append_lies _ (by rfl) (.tmp 22) (.tmp 27) 73 (by rfl) (w.heap.size + 1) 97 i0 (.agg #[.int .i64 0, .int .i64 0, .bool false, .int .i64 0, .int .i64 0, .int .i64 0]) 6 48 Try.underlying73 hi0 hq0 hq1 hq2 rfl (by omega) _ m _ (by rfl) (HO.out.2.alloc _) ⟨wr.heap.size, 0, none⟩ 1 1 [.int .i64 y.name, .int .i64 y.str, .bool (!y.old), .int .i64 y.p, .int .i64 y.s, .int .i64 y.t] (by rfl) (by rfl) ?e1 ?e2 (by omega) ?e3 ?e5 ?e4 (wr.heap.size + 1) (by simp) ?_))
        case e1 => exact hB6 _ rfl _ _ _ _ _ _ _
        case e2 => intro u hu; simp at hu; rcases hu with rfl | rfl | rfl | rfl | rfl | rfl <;> rfl
        case e3 => unfold maxLen; omega
        case e5 => omega
        case e4 => simp; omega
        · intro g3 cap3 w3 hown3 hgrow3 _ _
          have HB3 : Hid (Below (w.heap.size + 1) W w3) := ownC_grown_below (hbel.alloc (by omega) _) (by simp; omega) (HO.out.2.alloc _) (Nat.le_refl _) hgrow3
          have HO3 : Hid (m + 1 = (wmS l p x (i + 1)).length ∧ w3.ownsRow (w.heap.size + 1) 97 6 (.slice (some ⟨g3, 0, none⟩) (m + 1) cap3) (m + 1) (memC (wmS l p x (i + 1)))) := by
            refine ⟨?_, ?_⟩
            · rw [HST.out, List.length_append, ← HO.out.1]; rfl
            · rw [HST.out, memC_app, HYC.out]
              exact hown3
          clear hown3 hgrow3 c0 c1 c2 c3 c4 c5
          go_wp2
          go_roundw
          case rel => exact ⟨i + 1, m + 1, by omega, by omega, by go_num, HB3.out, HO3⟩
          case measure => simp [intOf]; omega
    · have hie : i = n := by omega
      subst hie
      have HBW : Hid (Below w.heap.size w wr) := HB0.out.trans (hbel.mono (by omega))
      by_cases hpn : i ≤ p
      · have HEN : Hid (wmS l p x i ++ [x] = l.take p ++ [x] ++ l.drop p) := by have := HEND.out; rw [if_pos hpn] at this; exact this
        have m0 := HC.out wr hbel 0 _ rfl
        have m1 := HC.out wr hbel 1 _ rfl
        have m2 := HC.out wr hbel 2 _ rfl
        have m3 := HC.out wr hbel 3 _ rfl
        have m4 := HC.out wr hbel 4 _ rfl
        have m5 := HC.out wr hbel 5 _ rfl
        go_wp2_with (first
          | (at_builtin; refine wpList_append_lies _ (by rfl) (.tmp 33) (.tmp 35) 73 (by rfl) (w.heap.size + 1) 97 i0 (.agg #[.int .i64 0, .int .i64 0, .bool false, .int .i64 0, .int .i64 0, .int .i64 0]) 6 48 Try.underlying73 hi0 hq0 hq1 hq2 rfl (by omega) _ m _ (by rfl) (HO.out.2.alloc _) ⟨wr.heap.size, 0, none⟩ 1 1 [.int .i64 nm, .int .i64 st, .bool true, .int .i64 0, .int .i64 0, .int .i64 0] (by rfl) (by rfl) ?b1 ?b2 (by omega) ?b3 ?b5 ?b4 (wr.heap.size + 1) (by simp) ?_))
        case b1 => exact hB6 _ rfl _ _ _ _ _ _ _
        case b2 => intro u hu; simp at hu; rcases hu with rfl | rfl | rfl | rfl <;> rfl
        case b3 => unfold maxLen; omega
        case b5 => omega
        case b4 => simp; omega
        · intro g2 cap2 w2 hown2 hgrow2 _ _
          have HB2 : Hid (Below w.heap.size w w2) := ownC_grown_below (below_then HBW.out (below_one _)) (by simp; omega) (HO.out.2.alloc _) (by omega) hgrow2
          have HO2 : Hid (m + 1 = (l.take p ++ [x] ++ l.drop p).length ∧ w2.ownsRow w.heap.size 97 6 (.slice (some ⟨g2, 0, none⟩) (m + 1) cap2) (m + 1) (memC (l.take p ++ [x] ++ l.drop p))) := by
            rw [← HEN.out]
            refine ⟨?_, ownC_base (b' := w.heap.size) (base := w.heap.size + 1) ?_ (by omega)⟩
            · rw [List.length_append, ← HO.out.1]; rfl
            · rw [memC_app, show memC [x] = x.cm ++ [] from rfl, HX.out]
              exact hown2
          clear hown2 hgrow2 m0 m1 m2 m3 m4 m5
          go_wp2
          go_ret
          exact ⟨_, _, _, rfl, HO2, HB2.out⟩
      · have hpn' : p < i := by omega
        have HEN : Hid (wmS l p x i = l.take p ++ [x] ++ l.drop p) := by have := HEND.out; rw [if_neg hpn] at this; exact this
        have HO2 : Hid (m = (l.take p ++ [x] ++ l.drop p).length ∧ wr.ownsRow w.heap.size 97 6 (.slice va m vc) m (memC (l.take p ++ [x] ++ l.drop p))) := by
          rw [← HEN.out]
          exact ⟨HO.out.1, ownC_base HO.out.2 (by omega)⟩
        clear HEND
        go_wp2
        go_ret
        exact ⟨_, _, _, rfl, HO2, HBW.out⟩

end Go.Proofs.Ytpclldccjpncdab

namespace Go.Proofs.Ytpclldccjpncdab
open Go.RowKit

theorem memC_spB (L : Lay) (i : Nat) : memC [spB L i] = [.int .i64 (i : Nat), .int .i64 (stI (prv L.p i) (prv L.s i) (prv L.t i) (L.p i) (L.s i) (L.t i)), .bool false, .int .i64 (L.p i), .int .i64 (L.s i), .int .i64 (L.t i)] := rfl

set_option maxRecDepth 100000 in
set_option maxHeartbeats 2000000 in
theorem membersOf_any (L : Lay) (w : World) (h : NodesIn w.heap.size w L.na L.n L.nb L.no L.p L.s L.t) (hn : L.n ≤ 48) :
    Calls Try.prog 40 #[.slice L.na L.n L.nc] w fun e w' => ∃ (a : Option Addr) (c : Nat), e = .returned (.slice a L.n c) ∧ Hid (w'.ownsRow w.heap.size 97 6 (.slice a L.n c) L.n (memC (lsB L L.n))) ∧ Below w.heap.size w w' := by
  obtain ⟨i0, hi0, hq0, hq1, hq2⟩ := info_parts infoMemC
  have HIN : Hid (NodesIn w.heap.size w L.na L.n L.nb L.no L.p L.s L.t) := h
  clear h
  obtain ⟨W, hW⟩ : ∃ W, W = w.alloc (.cells #[.int .i64 0, .int .i64 0, .int .i64 0] 60) := ⟨_, rfl⟩
  have HR0 : Hid (W.rowIs w.heap.size 60 3 (ndF (prv L.p 0) (prv L.s 0) (prv L.t 0))) := by
    show World.rowIs _ _ _ _ _
    rw [hW]
    exact row_new _ _ _ 3 rfl
  have HB0 : Hid (Below w.heap.size w W) := by show Below _ _ _; rw [hW]; exact below_one _
  go_enter Try.func40, Try.ntmps40
  go_wp2
  rw [← hW]
  clear hW
  go_loopw [3, 5] (fun v iv wr => ∃ i : Nat, i ≤ L.n ∧ iv = .int .i64 (i : Nat) ∧ Below w.heap.size w wr ∧ Hid (wr.rowIs w.heap.size 60 3 (ndF (prv L.p i) (prv L.s i) (prv L.t i))) ∧ Hid (wr.ownsRow (w.heap.size + 1) 97 6 v i (memC (lsB L i)))) (fun _ iv _ => L.n - (intOf iv).toNat)
  case atStart => exact ⟨0, Nat.zero_le _, rfl, HB0.out, HR0, World.ownsRow_nil _ _ _ _⟩
  case round =>
    obtain ⟨i, hi, rfl, hbel, HNd, HO⟩ := hrel
    have hzn := HNd.out.lt
    obtain ⟨va, vc, hv⟩ := ownC_shape HO.out
    subst hv
    by_cases hlt : i < L.n
    · have hlt' : (i : Int) < (L.n : Int) := by omega
      have hna := HIN.out.addr (by omega)
      have hnb := HIN.out.lt (by omega)
      rw [hna]
      clear hna
      have n0 := cellTo hbel (HIN.out.p i hlt) hnb
      have n1 := cellTo hbel (HIN.out.s i hlt) hnb
      have n2 := cellTo hbel (HIN.out.t i hlt) hnb
      have HM0 := memC_spB L i
      have HPV : Hid (prv L.p (i + 1) = L.p i ∧ prv L.s (i + 1) = L.s i ∧ prv L.t (i + 1) = L.t i) := ⟨rfl, rfl, rfl⟩
      generalize prv L.p i = pp at HNd HM0
      generalize prv L.s i = ps at HNd HM0
      generalize prv L.t i = pt at HNd HM0
      generalize L.p i = xp at n0 HM0 HPV
      generalize L.s i = xs at n1 HM0 HPV
      generalize L.t i = xt at n2 HM0 HPV
      obtain ⟨sg, hsg⟩ : ∃ x, x = stI pp ps pt xp xs xt := ⟨_, rfl⟩
      rw [← hsg] at HM0
      have HM : Hid (memC [spB L i] = [.int .i64 (i : Nat), .int .i64 sg, .bool false, .int .i64 xp, .int .i64 xs, .int .i64 xt]) := HM0
      have HCS : Hid (∀ wz, Calls Try.prog 57 #[.agg #[.int .i64 xp, .int .i64 xs, .int .i64 xt], .agg #[.int .i64 pp, .int .i64 ps, .int .i64 pt]] wz fun e w' => e = .returned (.int .i64 sg) ∧ Below wz.heap.size wz w') := fun wz => by rw [hsg]; exact strengthP_any xp xs xt pp ps pt wz
      have k0 : wr.cell? ⟨w.heap.size, 0, none⟩ = some (.int .i64 pp) := HNd.out.cell (i := 0) (by omega)
      have k1 : wr.cell? ⟨w.heap.size, 1, none⟩ = some (.int .i64 ps) := HNd.out.cell (i := 1) (by omega)
      have k2 : wr.cell? ⟨w.heap.size, 2, none⟩ = some (.int .i64 pt) := HNd.out.cell (i := 2) (by omega)
      clear hsg HM0
      have b0 := Wb.cell (w := wr) (B := wr.heap.size) (by show w.heap.size < _; omega) k0
      have b1 := Wb.cell (w := wr) (B := wr.heap.size) (by show w.heap.size < _; omega) k1
      have b2 := Wb.cell (w := wr) (B := wr.heap.size) (by show w.heap.size < _; omega) k2
      have bn0 := Wb.cell (w := wr) (B := wr.heap.size) (by show L.nb < _; omega) n0
      have bn1 := Wb.cell (w := wr) (B := wr.heap.size) (by show L.nb < _; omega) n1
      have bn2 := Wb.cell (w := wr) (B := wr.heap.size) (by show L.nb < _; omega) n2
      go_wp2
      refine wp_region_below wr.heap.size (by kernel_rfl) (by kernel_rfl) ?_
      repeat (go_big_quiet_step ((go_at_call 57; exact Wb.ofCall _ (Nat.le_refl _) (HCS.out _))))
      refine wpQuiet_nil ?_
      rintro _ ⟨y, rfl⟩
      have hy := y.below
      generalize y.val = w1 at hy
      have hz1 := hy.size
      clear b0 b1 b2 bn0 bn1 bn2
      have HB1 : Hid (Below w.heap.size w w1) := hbel.trans (hy.mono (by omega))
      have HN1 : Hid (w1.rowIs w.heap.size 60 3 (ndF pp ps pt)) := HNd.out.of_block (hy.block _ hzn)
      have HO1 : Hid (w1.ownsRow (w.heap.size + 1) 97 6 (.slice va i vc) i (memC (lsB L i))) := ownC_below HO.out hy
      have s2 := cellTo hy n0 (by show L.nb < _; omega)
      have s3 := cellTo hy n1 (by show L.nb < _; omega)
      have s4 := cellTo hy n2 (by show L.nb < _; omega)
      clear n0 n1 n2 k0 k1 k2 hy
      go_wp2_with (first
        | (at_builtin; refine wpList_append_lies _ (by rfl) (.tmp 20) (.tmp 28) 73 (by rfl) (w.heap.size + 1) 97 i0 (.agg #[.int .i64 0, .int .i64 0, .bool false, .int .i64 0, .int .i64 0, .int .i64 0]) 6 48 Try.underlying73 hi0 hq0 hq1 hq2 rfl (by omega) _ i _ (by rfl) (HO1.out.alloc _) ⟨w1.heap.size, 0, none⟩ 1 1 [.int .i64 (i : Nat), .int .i64 sg, .bool false, .int .i64 xp, .int .i64 xs, .int .i64 xt] (by rfl) (by rfl) ?e1 ?e2 (by omega) ?e3 ?e5 ?e4 (w1.heap.size + 1) (by simp) ?_))
      case e1 => exact hB6 _ rfl _ _ _ _ _ _ _
      case e2 => intro u hu; simp at hu; rcases hu with rfl | rfl | rfl | rfl | rfl | rfl <;> rfl
      case e3 => unfold maxLen; omega
      case e5 => omega
      case e4 => simp; omega
      · intro g3 cap3 w3 hown3 hgrow3 _ _
        have HB3 : Hid (Below w.heap.size w w3) := ownC_grown_below (below_then HB1.out (below_one _)) (by simp; omega) (HO1.out.alloc _) (by omega) hgrow3
        have HO3 : Hid (w3.ownsRow (w.heap.size + 1) 97 6 (.slice (some ⟨g3, 0, none⟩) (i + 1) cap3) (i + 1) (memC (lsB L (i + 1)))) := by
          show World.ownsRow _ _ _ _ _ _ _
          rw [lsB_snoc, memC_app, HM.out]
          exact hown3
        have HN3 : Hid (w3.rowIs w.heap.size 60 3 (ndF pp ps pt)) := by
          have hne : some w.heap.size ≠ (Value.slice va i vc).ownBlock := fun e => by have := (ownC_lt HO1.out e.symm).2; omega
          exact (HN1.out.alloc _).of_block (hgrow3.block _ (by simp; omega) hne)
        have hz3 := HN3.out.lt
        have t0 : w3.cell? _ = _ := cellTo HB3.out (HIN.out.p i hlt) hnb
        have t1 : w3.cell? _ = _ := cellTo HB3.out (HIN.out.s i hlt) hnb
        have t2 : w3.cell? _ = _ := cellTo HB3.out (HIN.out.t i hlt) hnb
        rw [← HPV.out.1] at s2
        have q0 := HN3.out.frozen 0
        have q1 := HN3.out.frozen 1
        have q2 := HN3.out.frozen 2
        have r0 : w3.cell? ⟨w.heap.size, 0, none⟩ = some (.int .i64 pp) := HN3.out.cell (i := 0) (by omega)
        have r1 : w3.cell? ⟨w.heap.size, 1, none⟩ = some (.int .i64 ps) := HN3.out.cell (i := 1) (by omega)
        have r2 : w3.cell? ⟨w.heap.size, 2, none⟩ = some (.int .i64 pt) := HN3.out.cell (i := 2) (by omega)
        have e0 : prv L.p (i + 1) = L.p i := rfl
        have e1 : prv L.s (i + 1) = L.s i := rfl
        have e2 : prv L.t (i + 1) = L.t i := rfl
        rw [← e0, HPV.out.1] at t0
        rw [← e1, HPV.out.2.1] at t1
        rw [← e2, HPV.out.2.2] at t2
        clear e0 e1 e2 s2 s3 s4 hown3 hgrow3
        have HOn : Hid (OnlyRow w.heap.size w3 (((w3.setCell ⟨w.heap.size, 0, none⟩ (.int .i64 xp)).setCell ⟨w.heap.size, 1, none⟩ (.int .i64 xs)).setCell ⟨w.heap.size, 2, none⟩ (.int .i64 xt))) := ((OnlyRow.setCell _ _ _ _).trans (OnlyRow.setCell _ _ _ _)).trans (OnlyRow.setCell _ _ _ _)
        have HNX : Hid ((((w3.setCell ⟨w.heap.size, 0, none⟩ (.int .i64 xp)).setCell ⟨w.heap.size, 1, none⟩ (.int .i64 xs)).setCell ⟨w.heap.size, 2, none⟩ (.int .i64 xt)).rowIs w.heap.size 60 3 (ndF (prv L.p (i + 1)) (prv L.s (i + 1)) (prv L.t (i + 1)))) := by
          show World.rowIs _ _ _ _ _
          rw [HPV.out.1, HPV.out.2.1, HPV.out.2.2]
          exact (((HN3.out.set 0 _).set 1 _).set 2 _).congr fun j hj => by
            have : j = 0 ∨ j = 1 ∨ j = 2 := by omega
            rcases this with rfl | rfl | rfl <;> rfl
        go_wp2
        go_roundw
        case rel => exact ⟨i + 1, by omega, by go_num, HOn.out.below HB3.out (Nat.le_refl _), HNX, own_only HOn.out HO3.out (own_far HN3.out HO3.out (by decide))⟩
        case measure => simp [intOf]; omega
    · have hie : i = L.n := by omega
      obtain ⟨n, hnn⟩ : ∃ n, n = L.n := ⟨_, rfl⟩
      have HOF : Hid (wr.ownsRow w.heap.size 97 6 (.slice va L.n vc) L.n (memC (lsB L L.n))) := by
        have := HO.out
        rw [hie] at this
        exact ownC_base this (by omega)
      rw [hie]
      go_wp2
      go_ret
      exact ⟨_, _, rfl, HOF, hbel⟩

end Go.Proofs.Ytpclldccjpncdab

namespace Go.Proofs.Ytpclldccjpncdab
open Go.RowKit

def emC (em : List Em) : List Value := em.flatMap fun x => [.string x.1.tx, x.2]
theorem emC_app (a b : List Em) : emC (a ++ b) = emC a ++ emC b := by simp [emC]
theorem emC_len : ∀ l : List Em, (emC l).length = l.length * 2
  | [] => rfl
  | x :: l => by
    have := emC_len l
    show ([Value.string x.1.tx, x.2] ++ emC l).length = _
    rw [List.length_append, this, List.length_cons]
    show 2 + _ = (_ + 1) * 2
    omega
theorem emC_at : ∀ (l : List Em) (i : Nat), i < l.length → (emC l)[i * 2]? = some (.string (l.getD i default).1.tx) ∧ (emC l)[i * 2 + 1]? = some (l.getD i default).2
  | [], i, h => by simp at h
  | x :: l, 0, _ => ⟨rfl, rfl⟩
  | x :: l, i + 1, h => by
    have h' : i < l.length := by simpa using h
    have := emC_at l i h'
    constructor
    · show ([Value.string x.1.tx, x.2] ++ emC l)[(i + 1) * 2]? = _
      rw [List.getElem?_append_right (by show 2 ≤ _; omega), show (i + 1) * 2 - [Value.string x.1.tx, x.2].length = i * 2 by show _ - 2 = _; omega]
      exact this.1
    · show ([Value.string x.1.tx, x.2] ++ emC l)[(i + 1) * 2 + 1]? = _
      rw [List.getElem?_append_right (by show 2 ≤ _; omega), show (i + 1) * 2 + 1 - [Value.string x.1.tx, x.2].length = i * 2 + 1 by show _ - 2 = _; omega]
      exact this.2
/-- a row of entries of one's own, to read -/
theorem em_in {w : World} {base : Nat} {ea : Option Addr} {n ec : Nat} {em : List Em} (hn : n = em.length) (ho : w.ownsRow base 41 2 (.slice ea n ec) n (emC em)) (hi : ∀ x ∈ em, SlIn w.heap.size w x.2 x.1.zs) : ∃ eb, EmIn w.heap.size w ea eb 0 em := by
  subst hn
  obtain ⟨vo, vc, gv, hv, ha, hc⟩ := ownC_cells ho
  injection hv with hv1 _ _
  refine ⟨gv, fun h => by rw [hv1]; exact (ha h).1, fun h => (ha h).2.1, fun i hi => ?_, fun i hi => ?_, hi⟩
  · rw [Nat.zero_add]; exact hc _ _ (by omega) (emC_at em i hi).1
  · rw [Nat.zero_add]; exact hc _ _ (by omega) (emC_at em i hi).2
theorem insE_at {es : List En} {e : En} {i : Nat} (hi : i ≤ es.length) (h1 : ∀ j, j < i → lessB (es.getD j default).tx e.tx = true) (h2 : i < es.length → lessB (es.getD i default).tx e.tx = false) : insE es e = es.take i ++ e :: (if i < es.length ∧ (es.getD i default).tx = e.tx then es.drop (i + 1) else es.drop i) := by
  have ht : ∀ (l : List En) (i : Nat), i ≤ l.length → (∀ j, j < i → lessB (l.getD j default).tx e.tx = true) → (i < l.length → lessB (l.getD i default).tx e.tx = false) → l.takeWhile (fun x => lessB x.tx e.tx) = l.take i ∧ l.dropWhile (fun x => lessB x.tx e.tx) = l.drop i := by
    intro l
    induction l with
    | nil => intro i hi _ _; simp
    | cons a l ih =>
      intro i hi h1 h2
      cases i with
      | zero =>
        have := h2 (by simp)
        have ha : lessB a.tx e.tx = false := this
        simp [List.takeWhile, List.dropWhile, ha]
      | succ i =>
        have ha : lessB a.tx e.tx = true := h1 0 (by omega)
        obtain ⟨k1, k2⟩ := ih i (by simpa using hi) (fun j hj => h1 (j + 1) (by omega)) (fun hl => h2 (by simpa using hl))
        simp [List.takeWhile, List.dropWhile, ha, k1, k2]
  obtain ⟨k1, k2⟩ := ht es i hi h1 h2
  unfold insE
  rw [k1, k2]
  congr 2
  by_cases hlt : i < es.length
  · rw [List.drop_eq_getElem_cons hlt, getD_at hlt]
    simp only
    by_cases he : es[i].tx = e.tx
    · rw [if_pos he, if_pos ⟨hlt, he⟩]
    · rw [if_neg he, if_neg (fun hh => he hh.2)]
  · rw [List.drop_of_length_le (by omega), if_neg (fun hh => hlt hh.1)]
/-- an entry more, each with its slice -/
def insM (em : List Em) (x : Em) (i i' : Nat) : List Em := em.take i ++ [x] ++ em.drop i'
theorem esM_ins {em : List Em} {x : Em} {i i' : Nat} (hi : i ≤ em.length) (h1 : ∀ j, j < i → lessB (em.getD j default).1.tx x.1.tx = true) (h2 : i < em.length → lessB (em.getD i default).1.tx x.1.tx = false) (h3 : i' = if i < em.length ∧ (em.getD i default).1.tx = x.1.tx then i + 1 else i) : esM (insM em x i i') = insE (esM em) x.1 := by
  have hl : (esM em).length = em.length := List.length_map _
  rw [insE_at (i := i) (by rw [hl]; exact hi) (fun j hj => by rw [esM_at (by omega)]; exact h1 j hj) (fun hlt => by rw [hl] at hlt; rw [esM_at hlt]; exact h2 hlt)]
  unfold insM
  rw [h3, hl]
  by_cases hc : i < em.length ∧ (em.getD i default).1.tx = x.1.tx
  · rw [if_pos hc, if_pos ⟨hc.1, by rw [esM_at hc.1]; exact hc.2⟩]
    simp [esM, List.map_take, List.map_drop]
  · rw [if_neg hc, if_neg (fun hh => hc ⟨hh.1, by rw [← esM_at hh.1]; exact hh.2⟩)]
    simp [esM, List.map_take, List.map_drop]
theorem insM_mem {em : List Em} {x y : Em} {i i' : Nat} (h : y ∈ insM em x i i') : y = x ∨ y ∈ em := by
  unfold insM at h
  simp only [List.mem_append, List.mem_singleton] at h
  rcases h with (h | h) | h
  · exact .inr (List.mem_of_mem_take h)
  · exact .inl h
  · exact .inr (List.mem_of_mem_drop h)
theorem take_snocE (l : List Em) (i : Nat) (h : i < l.length) : l.take (i + 1) = l.take i ++ [l.getD i default] := by
  rw [List.take_succ_eq_append_getElem h, getD_at h]
theorem drop_take_snoc (l : List Em) (a i : Nat) (ha : a ≤ i) (h : i < l.length) : (l.drop a).take (i + 1 - a) = (l.drop a).take (i - a) ++ [l.getD i default] := by
  have hd : i - a < (l.drop a).length := by rw [List.length_drop]; omega
  rw [show i + 1 - a = (i - a) + 1 by omega, take_snocE _ _ hd, getD_at hd, getD_at h, List.getElem_drop]
  congr 3
  omega

set_option maxRecDepth 100000 in
set_option maxHeartbeats 4000000 in
theorem withEntry_any (ea : Option Addr) (ec eb eo : Nat) (em : List Em) (x : Em) (xa : Option Addr) (xn xc : Nat) (w : World) (hl : em.length ≤ 1000) (hx : x.2 = .slice xa xn xc) (h : EmIn w.heap.size w ea eb eo em) (hsl : ∀ y ∈ em, ∃ a n c, y.2 = .slice a n c) :
    Calls Try.prog 63 #[.slice ea em.length ec, .agg #[.string x.1.tx, .slice xa xn xc]] w fun e w' => ∃ (a : Option Addr) (c n : Nat) (em' : List Em), e = .returned (.slice a n c) ∧ Hid (n = em'.length ∧ esM em' = insE (esM em) x.1 ∧ (∀ y ∈ em', y = x ∨ y ∈ em) ∧ w'.ownsRow w.heap.size 41 2 (.slice a n c) n (emC em')) ∧ Below w.heap.size w w' := by
  obtain ⟨i0, hi0, hq0, hq1, hq2⟩ := info_parts infoEntC
  obtain ⟨xt, hxt⟩ : ∃ t, t = x.1.tx := ⟨_, rfl⟩
  have HXC : Hid (emC [x] = [.string xt, .slice xa xn xc]) := by show _ = _; rw [← hx, hxt]; rfl
  have HXT : Hid (xt = x.1.tx) := hxt
  rw [← hxt]
  clear hxt hx
  have HL : Hid (∀ wr, Below w.heap.size w wr → EmIn w.heap.size wr ea eb eo em) := fun wr hb => h.below hb
  have HSL : Hid (∀ y ∈ em, ∃ a n c, y.2 = .slice a n c) := hsl
  clear h hsl
  obtain ⟨n, hn⟩ : ∃ n, n = em.length := ⟨_, rfl⟩
  have HN : Hid (n = em.length) := hn
  rw [← hn] at hl ⊢
  clear hn
  obtain ⟨W, hW⟩ : ∃ W, W = w.alloc (.cells #[.string xt, .slice xa xn xc] 41) := ⟨_, rfl⟩
  have HWS : Hid (W.heap.size = w.heap.size + 1) := by show _ = _; rw [hW]; simp
  have HM : Hid (∀ wx, Below (w.heap.size + 1) W wx → wx.cell? ⟨w.heap.size, 0, none⟩ = some (.string xt) ∧ wx.cell? ⟨w.heap.size, 1, none⟩ = some (.slice xa xn xc)) := fun wx hb => by
    have c := newC2 w rfl (.string xt) (.slice xa xn xc) 41
    have c0 := c 0 _ rfl
    have c1 := c 1 _ rfl
    rw [Addr.add_mid] at c0 c1
    rw [← hW] at c0 c1
    exact ⟨cellTo hb (by simpa using c0) (by show w.heap.size < _; omega), cellTo hb (by simpa using c1) (by show w.heap.size < _; omega)⟩
  have HB0 : Hid (Below w.heap.size w W) := by show Below _ _ _; rw [hW]; exact below_one _
  go_enter Try.func63, Try.ntmps63
  go_wp2
  rw [← hW]
  clear hW
  go_loopw [5, 6] (fun v iv wr => ∃ i : Nat, i ≤ n ∧ iv = .int .i64 (i : Nat) ∧ Below (w.heap.size + 1) W wr ∧ Hid (∀ j, j < i → lessB (em.getD j default).1.tx xt = true) ∧ Hid (wr.ownsRow (w.heap.size + 1) 41 2 v i (emC (em.take i)))) (fun _ iv _ => n - (intOf iv).toNat)
  case atStart => exact ⟨0, Nat.zero_le _, rfl, Below.refl _ _, fun j hj => by omega, World.ownsRow_nil _ _ _ _⟩
  case round =>
    obtain ⟨i, hi, rfl, hbel, HLE, HO⟩ := hrel
    have hws := HWS.out
    have hsz : w.heap.size + 1 ≤ wr.heap.size := by have := hbel.size; omega
    obtain ⟨va, vc, hv⟩ := ownC_shape HO.out
    subst hv
    obtain ⟨m0, m1⟩ := HM.out wr hbel
    have HBW : Hid (Below w.heap.size w wr) := HB0.out.trans (hbel.mono (by omega))
    have HTEST : i < n → ∃ (yt : ByteArray) (ya : Option Addr) (yn yc : Nat), (∀ wx, Below w.heap.size w wx → ea = some ⟨eb, eo, none⟩ ∧ eb < w.heap.size ∧ wx.cell? ⟨eb, eo + i * 2, none⟩ = some (.string yt) ∧ wx.cell? ⟨eb, eo + i * 2 + 1, none⟩ = some (.slice ya yn yc)) ∧ emC [em.getD i default] = [.string yt, .slice ya yn yc] ∧ yt = (em.getD i default).1.tx := fun hlt => by
      have hlt' : i < em.length := by rw [← HN.out]; exact hlt
      obtain ⟨a, k, c, hs⟩ := HSL.out (em.getD i default) (by rw [getD_at hlt']; exact List.getElem_mem hlt')
      refine ⟨(em.getD i default).1.tx, a, k, c, fun wx hb => ?_, by rw [← hs]; rfl, rfl⟩
      have hL := HL.out wx hb
      exact ⟨hL.addr (by omega), hL.lt (by omega), hL.text i hlt', by rw [← hs]; exact hL.list i hlt'⟩
    have HTE : Hid (i < n → ∃ (yt : ByteArray) (ya : Option Addr) (yn yc : Nat), (∀ wx, Below w.heap.size w wx → ea = some ⟨eb, eo, none⟩ ∧ eb < w.heap.size ∧ wx.cell? ⟨eb, eo + i * 2, none⟩ = some (.string yt) ∧ wx.cell? ⟨eb, eo + i * 2 + 1, none⟩ = some (.slice ya yn yc)) ∧ emC [em.getD i default] = [.string yt, .slice ya yn yc] ∧ yt = (em.getD i default).1.tx) := HTEST
    clear HTEST
    by_cases hgo : i < n ∧ lessB (em.getD i default).1.tx xt = true
    · obtain ⟨hlt, hless⟩ := hgo
      obtain ⟨yt, ya, yn, yc, hyc, hye, hyt⟩ := HTE.out hlt
      obtain ⟨ha, heb, t0, t1⟩ := hyc wr HBW.out
      subst ha
      rw [← hyt] at hless
      have hless' : Op.bytesLess yt.toList xt.toList = true := hless
      have HLE' : Hid (∀ j, j < i + 1 → lessB (em.getD j default).1.tx xt = true) := fun j hj => by
        by_cases e : j = i
        · rw [e, ← hyt]; exact hless
        · exact HLE.out j (by omega)
      have HYE : Hid (emC [em.getD i default] = [.string yt, .slice ya yn yc]) := hye
      clear hyc hye hyt hless
      go_wp2
      go_quiet (fail)
      have hy : Below wr.heap.size wr (wr.drewN nq) := below_drewN (Below.refl _ _) nq
      generalize wr.drewN nq = w1 at hy ⊢
      have HB1 : Hid (Below (w.heap.size + 1) W w1) := hbel.trans (hy.mono hsz)
      have HO1 : Hid (w1.ownsRow (w.heap.size + 1) 41 2 (.slice va i vc) i (emC (em.take i))) := ownC_below HO.out hy
      have hz1 := hy.size
      have d0 := cellTo hy t0 (by show eb < _; omega)
      have d1 := cellTo hy t1 (by show eb < _; omega)
      have HTK : Hid (emC (em.take (i + 1)) = emC (em.take i) ++ [.string yt, .slice ya yn yc]) := by show _ = _; rw [take_snocE em i (by rw [← HN.out]; exact hlt), emC_app, HYE.out]
      clear t0 t1 m0 m1 hy
      go_wp2_with (first
        | (at_builtin; refine wpList_append_lies _ (by rfl) (.tmp 21) (.tmp 26) 25 (by rfl) (w.heap.size + 1) 41 i0 (.agg #[.string ByteArray.empty, .slice none 0 0]) 2 40 Try.underlying25 hi0 hq0 hq1 hq2 rfl (by omega) _ i _ (by rfl) (HO1.out.alloc _) ⟨w1.heap.size, 0, none⟩ 1 1 [.string yt, .slice ya yn yc] (by rfl) (by rfl) ?e1 ?e2 (by omega) ?e3 ?e5 ?e4 (w1.heap.size + 1) (by simp) ?_))
      case e1 => exact newC2 _ rfl _ _ _
      case e2 => intro u hu; simp at hu; rcases hu with rfl | rfl <;> rfl
      case e3 => unfold maxLen; omega
      case e5 => omega
      case e4 => simp; omega
      · intro g3 cap3 w3 hown3 hgrow3 _ _
        have HB3 : Hid (Below (w.heap.size + 1) W w3) := ownC_grown_below (HB1.out.alloc (by omega) _) (by simp; omega) (HO1.out.alloc _) (Nat.le_refl _) hgrow3
        have HO3 : Hid (w3.ownsRow (w.heap.size + 1) 41 2 (.slice (some ⟨g3, 0, none⟩) (i + 1) cap3) (i + 1) (emC (em.take (i + 1)))) := by
          show World.ownsRow _ _ _ _ _ _ _
          rw [HTK.out]
          exact hown3
        clear hown3 hgrow3 d0 d1
        go_wp2
        go_roundw
        case rel => exact ⟨i + 1, by omega, by go_num, HB3.out, HLE', HO3⟩
        case measure => simp [intOf]; omega
    · have HGO : Hid (¬ (i < n ∧ lessB (em.getD i default).1.tx xt = true)) := hgo
      clear hgo
      go_upto_region 3 with (fail)
      go_cut [20] from 7 to 29 (fun b wc => b = .bool false ∧ Hid (Below wr.heap.size wr wc))
      case first =>
        by_cases hlt : i < n
        · obtain ⟨yt, ya, yn, yc, hyc, hye, hyt⟩ := HTE.out hlt
          obtain ⟨ha, heb, t0, t1⟩ := hyc wr HBW.out
          subst ha
          have hless' : Op.bytesLess yt.toList xt.toList = false := by
            have h2 : ¬ (lessB (em.getD i default).1.tx xt = true) := fun h => HGO.out ⟨hlt, h⟩
            rw [← hyt] at h2
            have h3 : lessB yt xt = false := by simpa using h2
            exact h3
          clear hyc hye hyt
          go_wp2
          go_quiet (fail)
          go_wp2
          go_meet
          exact ⟨rfl, below_drewN (Below.refl _ _) _⟩
        · have hd1 : decide ((i : Int) < (n : Int)) = false := by simp; omega
          have hd2 : decide (i < n) = false := by simp; omega
          go_wp2
          go_quiet (fail)
          go_wp2
          go_meet
          exact ⟨rfl, below_drewN (Below.refl _ _) _⟩
      case rest =>
        rename World => w1
        obtain ⟨rfl, HY⟩ := hcut
        have hz1 := HY.out.size
        have HB1 : Hid (Below (w.heap.size + 1) W w1) := hbel.trans (HY.out.mono hsz)
        have HO1 : Hid (w1.ownsRow (w.heap.size + 1) 41 2 (.slice va i vc) i (emC (em.take i))) := ownC_below HO.out HY.out
        have HBW1 : Hid (Below w.heap.size w w1) := HB0.out.trans (HB1.out.mono (by omega))
        obtain ⟨x0, x1⟩ := HM.out w1 HB1.out
        clear m0 m1
        go_upto_region 7 with (first
          | (at_builtin; refine wpList_append_lies _ (by rfl) (.tmp 30) (.tmp 32) 25 (by rfl) (w.heap.size + 1) 41 i0 (.agg #[.string ByteArray.empty, .slice none 0 0]) 2 40 Try.underlying25 hi0 hq0 hq1 hq2 rfl (by omega) _ i _ (by rfl) (HO1.out.alloc _) ⟨w1.heap.size, 0, none⟩ 1 1 [.string xt, .slice xa xn xc] (by rfl) (by rfl) ?e1 ?e2 (by omega) ?e3 ?e5 ?e4 (w1.heap.size + 1) (by simp) ?_))
        case e1 => exact newC2 _ rfl _ _ _
        case e2 => intro u hu; simp at hu; rcases hu with rfl | rfl <;> rfl
        case e3 => unfold maxLen; omega
        case e5 => omega
        case e4 => simp; omega
        · intro g3 cap3 w3 hown3 hgrow3 _ _
          have HB3 : Hid (Below (w.heap.size + 1) W w3) := ownC_grown_below (HB1.out.alloc (by omega) _) (by simp; omega) (HO1.out.alloc _) (Nat.le_refl _) hgrow3
          have HO3 : Hid (w3.ownsRow (w.heap.size + 1) 41 2 (.slice (some ⟨g3, 0, none⟩) (i + 1) cap3) (i + 1) (emC (em.take i ++ [x]))) := by
            show World.ownsRow _ _ _ _ _ _ _
            rw [emC_app, HXC.out]
            exact hown3
          have hz3 := HB3.out.size
          obtain ⟨y0, y1⟩ := HM.out w3 HB3.out
          have HBW3 : Hid (Below w.heap.size w w3) := HB0.out.trans (HB3.out.mono (by omega))
          clear hown3 hgrow3 x0 x1
          go_upto_region 7 with (fail)
          go_cut [47] from 34 (fun b wc => ∃ bb : Bool, b = .bool bb ∧ Hid (bb = true ↔ (i < n ∧ (em.getD i default).1.tx = xt)) ∧ Hid (Below w3.heap.size w3 wc))
          case first =>
            by_cases hlt : i < n
            · obtain ⟨yt, ya, yn, yc, hyc, hye, hyt⟩ := HTE.out hlt
              obtain ⟨ha, heb, t0, t1⟩ := hyc w3 HBW3.out
              subst ha
              by_cases hxy : yt = xt
              · have hbq : (yt.toList == xt.toList) = true := by rw [hxy]; simp
                have HYT : Hid ((em.getD i default).1.tx = xt) := by show _ = _; rw [← hyt]; exact hxy
                subst hxy
                clear hyc hye hyt
                go_wp2
                go_quiet (fail)
                go_wp2
                go_meet
                refine ⟨true, by simp, ⟨fun _ => ⟨hlt, HYT.out⟩, fun _ => rfl⟩, below_drewN (Below.refl _ _) _⟩
              · have hbq : (yt.toList == xt.toList) = false := by
                  rw [beq_eq_false_iff_ne]
                  exact fun e => hxy (bytes_eq.1 e)
                have HYT : Hid (¬ (em.getD i default).1.tx = xt) := by show ¬ _; rw [← hyt]; exact hxy
                clear hyc hye hyt
                go_wp2
                go_quiet (fail)
                go_wp2
                go_meet
                refine ⟨false, by first | rfl | simp [hbq], ⟨fun h => (by cases h), fun h => absurd h.2 HYT.out⟩, below_drewN (Below.refl _ _) _⟩
            · have hd1 : decide ((i : Int) < (n : Int)) = false := by simp; omega
              have hd2 : decide (i < n) = false := by simp; omega
              go_wp2
              go_quiet (fail)
              go_wp2
              go_meet
              refine ⟨false, rfl, ⟨fun h => (by cases h), fun h => absurd h.1 hlt⟩, below_drewN (Below.refl _ _) _⟩
          case rest =>
            rename World => w4
            obtain ⟨bb, rfl, HT, HY4⟩ := hcut
            have HB4 : Hid (Below (w.heap.size + 1) W w4) := HB3.out.trans (HY4.out.mono (by omega))
            have HO4 : Hid (w4.ownsRow (w.heap.size + 1) 41 2 (.slice (some ⟨g3, 0, none⟩) (i + 1) cap3) (i + 1) (emC (em.take i ++ [x]))) := ownC_below HO3.out HY4.out
            clear y0 y1
            go_upto_if 47 with (fail)
            go_cut [6] from 34 (fun iv wc => ∃ i' : Nat, iv = .int .i64 (i' : Nat) ∧ i ≤ i' ∧ i' ≤ n ∧ i' ≤ i + 1 ∧ Hid (i' = if i < n ∧ (em.getD i default).1.tx = xt then i + 1 else i) ∧ wc = w4)
            case first =>
              cases bb
              · have HIF : Hid (i = if i < n ∧ (em.getD i default).1.tx = xt then i + 1 else i) := by
                  show _ = _
                  rw [if_neg (fun h => by have := HT.out.2 h; cases this)]
                clear HT
                go_wp2
                go_meet
                exact ⟨i, rfl, Nat.le_refl _, hi, by omega, HIF, rfl⟩
              · have ht := HT.out.1 rfl
                have HIF : Hid (i + 1 = if i < n ∧ (em.getD i default).1.tx = xt then i + 1 else i) := by
                  show _ = _
                  rw [if_pos ht]
                obtain ⟨ht1, _⟩ := ht
                clear HT
                go_wp2
                go_meet
                exact ⟨i + 1, by go_num, by omega, by omega, Nat.le_refl _, HIF, rfl⟩
            case rest =>
              rename World => w5
              obtain ⟨i', rfl, hii, hin, hi1, HI', hw5⟩ := hcut
              subst hw5
              clear HT
              have HEM : Hid (esM (insM em x i i') = insE (esM em) x.1) := by
                refine esM_ins (by rw [← HN.out]; exact hi) (fun j hj => by rw [← HXT.out]; exact HLE.out j hj) (fun hlt => ?_) (by rw [← HN.out, ← HXT.out]; exact HI'.out)
                rw [← HN.out] at hlt
                rw [← HXT.out]
                have h2 : ¬ (lessB (em.getD i default).1.tx xt = true) := fun h => HGO.out ⟨hlt, h⟩
                simpa using h2
              obtain ⟨pre, hpre⟩ : ∃ l, l = em.take i ++ [x] := ⟨_, rfl⟩
              have HPRE : Hid (pre = em.take i ++ [x]) := hpre
              rw [← hpre] at HO4
              clear hpre
              go_wp2
              go_loopw [5, 6] (fun v iv wr => ∃ k : Nat, i' ≤ k ∧ k ≤ n ∧ iv = .int .i64 (k : Nat) ∧ Below (w.heap.size + 1) W wr ∧ Hid (wr.ownsRow (w.heap.size + 1) 41 2 v (i + 1 + (k - i')) (emC (pre ++ (em.drop i').take (k - i'))))) (fun _ iv _ => n - (intOf iv).toNat)
              case atStart => exact ⟨i', Nat.le_refl _, hin, rfl, HB4.out, by
                show World.ownsRow _ _ _ _ _ _ _
                rw [Nat.sub_self, List.take_zero, List.append_nil]
                exact HO4.out⟩
              case round =>
                rename World => ws
                obtain ⟨k, hk1, hk2, rfl, hbs, HOS⟩ := hrel
                have hzs : w.heap.size + 1 ≤ ws.heap.size := by have := hbs.size; omega
                obtain ⟨sa, sc, hv⟩ := ownC_shape HOS.out
                subst hv
                by_cases hlt : k < n
                · have hlt' : k < em.length := by rw [← HN.out]; exact hlt
                  have HBS : Hid (Below w.heap.size w ws) := HB0.out.trans (hbs.mono (by omega))
                  have hL := HL.out ws HBS.out
                  have ha := hL.addr (by omega)
                  subst ha
                  have heb := hL.lt (by omega)
                  have t0 := hL.text k hlt'
                  have t1 := hL.list k hlt'
                  obtain ⟨ya, yn, yc, hs⟩ := HSL.out (em.getD k default) (by rw [getD_at hlt']; exact List.getElem_mem hlt')
                  have HYE : Hid (emC [em.getD k default] = [.string (em.getD k default).1.tx, .slice ya yn yc]) := by show _ = _; rw [← hs]; rfl
                  rw [hs] at t1
                  have HDT : Hid ((em.drop i').take (k + 1 - i') = (em.drop i').take (k - i') ++ [em.getD k default]) := drop_take_snoc em i' k hk1 hlt'
                  generalize (em.getD k default).1.tx = yt at t0 HYE
                  clear hs hlt' hL
                  go_wp2_with (first
                    | (at_builtin; refine wpList_append_lies _ (by rfl) (.tmp 54) (.tmp 59) 25 (by rfl) (w.heap.size + 1) 41 i0 (.agg #[.string ByteArray.empty, .slice none 0 0]) 2 40 Try.underlying25 hi0 hq0 hq1 hq2 rfl (by omega) _ (i + 1 + (k - i')) _ (by rfl) (HOS.out.alloc _) ⟨ws.heap.size, 0, none⟩ 1 1 [.string yt, .slice ya yn yc] (by rfl) (by rfl) ?d1 ?d2 (by omega) ?d3 ?d5 ?d4 (ws.heap.size + 1) (by simp) ?_))
                  any_goals first
                    | exact newC2 _ rfl _ _ _
                    | exact ⟨rfl, rfl⟩
                    | (intro u hu; simp at hu; rcases hu with rfl | rfl <;> rfl)
                    | (unfold maxLen; omega)
                    | omega
                    | (simp; omega)
                  · intro g6 cap6 w6 hown6 hgrow6 _ _
                    have HB6 : Hid (Below (w.heap.size + 1) W w6) := ownC_grown_below (hbs.alloc (by omega) _) (by simp; omega) (HOS.out.alloc _) (Nat.le_refl _) hgrow6
                    have hnum : i + 1 + (k - i') + 1 = i + 1 + (k + 1 - i') := by omega
                    have HO6 : Hid (w6.ownsRow (w.heap.size + 1) 41 2 (.slice (some ⟨g6, 0, none⟩) (i + 1 + (k - i') + 1) cap6) (i + 1 + (k + 1 - i')) (emC (pre ++ (em.drop i').take (k + 1 - i')))) := by
                      show World.ownsRow _ _ _ _ _ _ _
                      rw [HDT.out, ← List.append_assoc, emC_app _ [em.getD k default], HYE.out, ← hnum]
                      exact hown6
                    clear hown6 hgrow6 t0 t1 hnum
                    go_wp2
                    go_roundw
                    case rel => exact ⟨k + 1, by omega, by omega, by go_num, HB6.out, HO6⟩
                    case measure => simp [intOf]; omega
                · have hke : k = n := by omega
                  have HFIN : Hid (i + 1 + (k - i') = (insM em x i i').length ∧ esM (insM em x i i') = insE (esM em) x.1 ∧ (∀ y ∈ insM em x i i', y = x ∨ y ∈ em) ∧ ws.ownsRow w.heap.size 41 2 (.slice sa (i + 1 + (k - i')) sc) (i + 1 + (k - i')) (emC (insM em x i i'))) := by
                    have hnl := HN.out
                    refine ⟨?_, HEM.out, fun y hy => insM_mem hy, ?_⟩
                    · unfold insM
                      simp
                      omega
                    · have ho := HOS.out
                      have hall : (em.drop i').take (k - i') = em.drop i' := List.take_of_length_le (by rw [List.length_drop]; omega)
                      have hins : insM em x i i' = pre ++ em.drop i' := by rw [HPRE.out]; rfl
                      rw [hins, ← hall]
                      exact ownC_base ho (by omega)
                  have HBF : Hid (Below w.heap.size w ws) := HB0.out.trans (hbs.mono (by omega))
                  go_wp2
                  go_ret
                  exact ⟨_, _, _, _, rfl, HFIN, HBF.out⟩

end Go.Proofs.Ytpclldccjpncdab

namespace Go.Proofs.Ytpclldccjpncdab
open Go.RowKit

/-- the nodes of a text, by entries in whatever order -/
noncomputable def numsW (L : Lay) (s : ByteArray) (q : Nat) : List Int := (List.range q).flatMap fun j => (List.range (L.k (pidx L.m L.tx s j))).map fun i => L.z (pidx L.m L.tx s j) i
theorem numsW_succ (L : Lay) (s : ByteArray) (q : Nat) : numsW L s (q + 1) = numsW L s q ++ (List.range (L.k (pidx L.m L.tx s q))).map fun i => L.z (pidx L.m L.tx s q) i := by simp [numsW, List.range_succ]
theorem numsW_len {L : Lay} {s : ByteArray} (hk : ∀ i, i < L.m → 1 ≤ L.k i ∧ L.k i ≤ 4) : ∀ q, (∀ j, j < q → 0 < lenAt L.m L.tx s (pos L.m L.tx s j)) → (numsW L s q).length ≤ 4 * q
  | 0, _ => by simp [numsW]
  | q + 1, h => by
    have h1 := numsW_len hk q fun j hj => h j (by omega)
    have h2 := hk _ (pidx_spec h (Nat.lt_succ_self q)).1
    rw [numsW_succ, List.length_append, List.length_map, List.length_range]
    omega


theorem numsW_nums {L : Lay} (hok : L.Ok) {s : ByteArray} : ∀ q, (∀ j, j < q → 0 < lenAt L.m L.tx s (pos L.m L.tx s j)) → numsW L s q = (nums L s q).map (fun c => ((c : Nat) : Int))
  | 0, _ => by simp [numsW, nums]
  | q + 1, h => by
    have h1 := numsW_nums hok q fun j hj => h j (by omega)
    have h2 := (pidx_spec h (Nat.lt_succ_self q)).1
    rw [numsW_succ, nums_succ, h1, List.map_append]
    congr 1
    unfold entNums
    rw [List.map_map]
    refine List.map_congr_left fun i hi => ?_
    rw [List.mem_range] at hi
    have := hok.z _ h2 i hi
    show _ = (((L.z _ i).toNat : Nat) : Int)
    omega

set_option maxRecDepth 100000 in
set_option maxHeartbeats 2000000 in
theorem numbers_any (L : Lay) (s : ByteArray) (eao : Option Addr) (cap : Nat) (w : World) (h : EntriesIn w.heap.size w eao L.m L.eb L.eo L.tx L.la L.k L.lc L.lb L.lo L.z) (hm : L.m ≤ 48) (htx : ∀ i, i < L.m → 1 ≤ (L.tx i).size ∧ (L.tx i).size ≤ 3) (hok : ∀ i, i < L.m → 1 ≤ L.k i ∧ L.k i ≤ 4) (hs : s.size ≤ 24) :
    Calls Try.prog 58 #[.slice eao L.m cap, .string s] w fun e w' => ∃ q, Cut L.m L.tx s q ∧ Below w.heap.size w w' ∧
      ((pos L.m L.tx s q = s.size ∧ ∃ ao c, e = .returned (.tuple #[.slice ao (numsW L s q).length c, .bool true]) ∧ Hid (w'.ownsRow w.heap.size 3 1 (.slice ao (numsW L s q).length c) (numsW L s q).length ((numsW L s q).map (Value.int .i64)))) ∨
       (pos L.m L.tx s q ≠ s.size ∧ e = .returned (.tuple #[.slice none 0 0, .bool false]))) := by
  have HIN : Hid (EntriesIn w.heap.size w eao L.m L.eb L.eo L.tx L.la L.k L.lc L.lb L.lo L.z) := h
  have HOK : Hid (∀ i, i < L.m → 1 ≤ L.k i ∧ L.k i ≤ 4) := hok
  have HTX : Hid (∀ i, i < L.m → 1 ≤ (L.tx i).size ∧ (L.tx i).size ≤ 3) := htx
  clear h hok htx
  obtain ⟨i0, hi0, hq0, hq1, hq2⟩ := info_parts infoInt
  go_enter Try.func58, Try.ntmps58
  go_wp2_with fail
  refine (cut_in L.m _ _ _ _ L.tx L.la L.k L.lc L.lb L.lo L.z s _ hm (by omega) HTX.out HIN.out).mono ?_
  rintro e w2 ⟨q, hq, hb2, hor⟩
  have hq1' := pos_ge q hq.go
  have hq2' := pos_le L.m L.tx s q
  have HQ : Hid (Cut L.m L.tx s q) := hq
  have hqs : q ≤ 24 := by omega
  clear hq hq1' hq2'
  rcases hor with ⟨hp, vo, vc, gv, rfl, hein⟩ | ⟨hp, rfl⟩
  · have HFI : Hid (EntriesIn w2.heap.size w2 vo q gv 0 (fun j => L.tx (pidx L.m L.tx s j)) (fun j => L.la (pidx L.m L.tx s j)) (fun j => L.k (pidx L.m L.tx s j)) (fun j => L.lc (pidx L.m L.tx s j)) (fun j => L.lb (pidx L.m L.tx s j)) (fun j => L.lo (pidx L.m L.tx s j)) (fun j => L.z (pidx L.m L.tx s j))) := hein
    have HP : Hid (pos L.m L.tx s q = s.size) := hp
    clear hein hp
    go_wp2
    go_loopw [8, 9] (fun v iv wr => ∃ i : Nat, i ≤ q ∧ iv = .int .i64 i ∧ Below w2.heap.size w2 wr ∧ wr.ownsRow w2.heap.size 3 1 v (numsW L s i).length ((numsW L s i).map (Value.int .i64))) (fun _ iv _ => q - (intOf iv).toNat)
    case atStart => exact ⟨0, Nat.zero_le _, rfl, Below.refl _ _, World.ownsRow_nil _ _ _ _⟩
    case round =>
      obtain ⟨i, hi, rfl, hbel, hown⟩ := hrel
      have HOWN : Hid (wr.ownsRow w2.heap.size 3 1 _ (numsW L s i).length ((numsW L s i).map (Value.int .i64))) := hown
      clear hown
      have hsz := hbel.size
      by_cases hlt : i < q
      · have ha := HFI.out.addr (by omega)
        subst ha
        have cl := cellTo hbel (HFI.out.list i hlt) (HFI.out.lt (by omega))
        simp only [Nat.zero_add] at cl
        obtain ⟨e, he⟩ : ∃ e, e = pidx L.m L.tx s i := ⟨_, rfl⟩
        have hem : e < L.m := by rw [he]; exact (pidx_spec HQ.out.go hlt).1
        have HSUC : Hid (numsW L s (i + 1) = numsW L s i ++ (List.range (L.k e)).map fun j => L.z e j) := by
          show _ = _
          rw [he]
          exact numsW_succ L s i
        have hke := HOK.out e hem
        have hnz : (numsW L s i).length ≤ 4 * i := numsW_len HOK.out i (fun j hj => HQ.out.go j (by omega))
        rw [← he] at cl
        clear he
        have hbw := below_then hb2 hbel
        have HI : Hid (IntsIn w.heap.size w (L.la e) (L.k e) (L.lb e) (L.lo e) (L.z e)) := HIN.out.ints e hem
        rw [HI.out.addr (by omega)] at cl
        have HNW : Hid (∀ (j : Nat) (u : Value), ((List.range (L.k e)).map fun j => Value.int .i64 (L.z e j))[j]? = some u → wr.cell? ((⟨L.lb e, L.lo e, none⟩ : Addr).add j) = some u) := fun j u hj => by
          have hjk : j < L.k e := by
            by_cases hx : j < L.k e
            · exact hx
            · rw [List.getElem?_eq_none (by simp; omega)] at hj; cases hj
          rw [List.getElem?_map, List.getElem?_range hjk] at hj
          simp at hj
          subst hj
          rw [Addr.add_mid]
          exact cellTo hbw (HI.out.cell j hjk) (HI.out.lt (by omega))
        go_wp2_with (first
          | (at_builtin; refine wpList_append_lies _ (by rfl) (.tmp 24) (.tmp 29) 22 (by rfl) w2.heap.size 3 i0 (.int .i64 0) 1 8 Try.underlying22 hi0 hq0 hq1 hq2 rfl (by omega) _ _ _ (by rfl) HOWN.out ⟨L.lb e, L.lo e, none⟩ (L.k e) (L.lc e) ((List.range (L.k e)).map fun j => Value.int .i64 (L.z e j)) (by rfl) ?c0 HNW.out ?c2 (by omega) ?c3 ?c5 (by omega) wr.heap.size rfl ?_))
        case c0 => simp
        case c2 => intro u hu; simp at hu; obtain ⟨_, _, rfl⟩ := hu; rfl
        case c3 => unfold maxLen; omega
        case c5 => omega
        · intro gv2 cap2 w3 hown2 hgrow _ _
          have HBN : Hid (Below w2.heap.size w2 w3) := grown_below hbel hsz HOWN.out (Nat.le_refl _) hgrow
          have ho : w3.ownsRow w2.heap.size 3 1 (.slice (some ⟨gv2, 0, none⟩) ((numsW L s i).length + L.k e) cap2) (numsW L s (i + 1)).length ((numsW L s (i + 1)).map (Value.int .i64)) := by
            rw [HSUC.out, List.length_append, List.map_append, List.map_map, List.length_map, List.length_range]
            exact hown2
          have HO2 : Hid _ := ho
          clear hown2 hgrow ho
          go_wp2
          go_roundw
          case rel => exact ⟨i + 1, by omega, by go_num, HBN.out, HO2.out⟩
          case measure => simp [intOf]; omega
      · have hie : i = q := by omega
        subst hie
        obtain ⟨ao', cap', _, hv, _⟩ := own_cells HOWN.out
        subst hv
        have HNN : Hid (wr.ownsRow w.heap.size 3 1 (.slice ao' (numsW L s i).length cap') (numsW L s i).length ((numsW L s i).map (Value.int .i64))) := by
          obtain ⟨h1, h2⟩ := HOWN.out
          rcases h2 with h2 | ⟨g, cap, cur, hv, hg, r⟩
          · exact ⟨h1, .inl h2⟩
          · exact ⟨h1, .inr ⟨g, cap, cur, hv, by have := hb2.size; omega, r⟩⟩
        go_wp2
        go_ret2
        exact ⟨i, HQ.out, below_then hb2 hbel, .inl ⟨HP.out, _, _, rfl, HNN⟩⟩
  · go_wp2
    go_ret2
    exact ⟨q, HQ.out, hb2, .inr ⟨hp, rfl⟩⟩

set_option maxRecDepth 100000 in
set_option maxHeartbeats 2000000 in
theorem nodesOf_any (L : Lay) (s : ByteArray) (w : World) (h : L.In w.heap.size w) (hok : L.Ok) (hs : s.size ≤ 24) :
    Calls Try.prog 48 #[.agg #[.slice L.na L.n L.nc, .slice L.ea L.m L.ec], .string s] w fun e w' => ∃ q, Cut L.m L.tx s q ∧ Below w.heap.size w w' ∧
      ((pos L.m L.tx s q = s.size ∧ ∃ ao cap b, e = .returned (.tuple #[.slice ao (nums L s q).length cap, .bool true]) ∧ NodesIn w'.heap.size w' ao (nums L s q).length b 0 (fun i => L.p ((nums L s q).getD i 0)) (fun i => L.s ((nums L s q).getD i 0)) (fun i => L.t ((nums L s q).getD i 0))) ∨
       (pos L.m L.tx s q ≠ s.size ∧ e = .returned (.tuple #[.slice none 0 0, .bool false]))) := by
  have HL : Hid (∀ w', Below w.heap.size w w' → L.In w'.heap.size w') := fun w' hb => h.later hb
  have HIN : Hid (L.In w.heap.size w) := h
  have hm := hok.m
  have hn48 := hok.n
  have HOK : Hid (L.Ok) := hok
  clear h hok
  obtain ⟨i0, hi0, hq0, hq1, hq2⟩ := info_parts infoNode
  go_enter Try.func48, Try.ntmps48
  go_wp2_with fail
  refine (numbers_any L s _ _ _ (HL.out _ (below_one _)).entries hm HOK.out.tx HOK.out.k hs).mono ?_
  rintro e w2 ⟨q, hq, hb2, hor⟩
  have hq1' := pos_ge q hq.go
  have hq2' := pos_le L.m L.tx s q
  have HQ : Hid (Cut L.m L.tx s q) := hq
  have hqs : q ≤ 24 := by omega
  have HBW : Hid (Below w.heap.size w w2) := below_then (below_one _) hb2
  obtain ⟨hc2, hf2⟩ := bcell hb2
  have c0 := hc2 w.heap.size 0 (by simp)
  have c0' : w2.cell? ⟨w.heap.size, 0, none⟩ = some (.slice L.na L.n L.nc) := by rw [c0]; go_simp
  have hz2 : w.heap.size < w2.heap.size := by have := hb2.size; simp at this; omega
  have HNE : Hid (numsW L s q = (nums L s q).map (fun c => ((c : Nat) : Int))) := numsW_nums HOK.out q hq.go
  have HLT : Hid (∀ c ∈ nums L s q, c < L.n) := nums_lt HOK.out q hq.go
  have hnl : (nums L s q).length ≤ 96 := by have := nums_len HOK.out q hq.go; omega
  clear hq hq1' hq2' hc2 hf2 hb2 c0
  rcases hor with ⟨hp, vo, vc, rfl, hown⟩ | ⟨hp, rfl⟩
  · have hwl : (numsW L s q).length = (nums L s q).length := by rw [HNE.out, List.length_map]
    have hown' := hown.out
    rw [hwl] at hown' ⊢
    obtain ⟨N, hN⟩ : ∃ N, N = nums L s q := ⟨_, rfl⟩
    rw [HNE.out, ← hN] at hown'
    rw [← hN] at hnl HLT ⊢
    obtain ⟨_, _, gv, hv, ha0, hc0⟩ := own_cells hown'
    injection hv with hv1 _ hv3
    subst hv1
    subst hv3
    have HNN : Hid (N = nums L s q) := hN
    have HP : Hid (pos L.m L.tx s q = s.size) := hp
    have HC0 : Hid (w2.cell? ⟨w.heap.size, 0, none⟩ = some (.slice L.na L.n L.nc)) := c0'
    have HNA : Hid (0 < N.length → vo = some ⟨gv, 0, none⟩ ∧ gv < w2.heap.size) := fun h0 => ⟨(ha0 h0).1, (ha0 h0).2.1⟩
    have HNC : Hid (∀ i, i < N.length → w2.cell? ⟨gv, i, none⟩ = some (.int .i64 ((N.getD i 0 : Nat) : Int))) := fun i hi => by
      have := hc0 i (.int .i64 ((N.getD i 0 : Nat) : Int)) (by omega) (by simp [List.getD, List.getElem?_eq_getElem hi])
      simpa using this
    clear hp c0' hown hown' ha0 hc0 hwl HNE hN
    obtain ⟨n, hn⟩ : ∃ n, n = N.length := ⟨_, rfl⟩
    have HN : Hid (n = N.length) := hn
    rw [← hn] at hnl HNA HNC ⊢
    clear hn
    go_wp2
    go_loopw [8, 9] (fun v iv wr => ∃ i : Nat, i ≤ n ∧ iv = .int .i64 i ∧ Below w2.heap.size w2 wr ∧ wr.ownsRow w2.heap.size 60 3 v i (nodesC L (N.take i))) (fun _ iv _ => n - (intOf iv).toNat)
    case atStart => exact ⟨0, Nat.zero_le _, rfl, Below.refl _ _, World.ownsRow_nil _ _ _ _⟩
    case round =>
      rename World => wi
      obtain ⟨i, hi, rfl, hbi, hown⟩ := hrel
      have HOWI : Hid (wi.ownsRow w2.heap.size 60 3 _ i (nodesC L (N.take i))) := hown
      clear hown
      have hsi := hbi.size
      by_cases hjk : i < n
      · have hjl : i < N.length := by have := HN.out; omega
        obtain ⟨c, hc⟩ : ∃ c : Nat, c = N.getD i 0 := ⟨_, rfl⟩
        have hcm : c ∈ N := by rw [hc, List.getD_eq_getElem?_getD, List.getElem?_eq_getElem hjl]; exact List.getElem_mem hjl
        have hcn : c < L.n := HLT.out c hcm
        have HTK : Hid (N.take (i + 1) = N.take i ++ [c]) := by
          show _ = _
          rw [take_snoc_n N i hjl, hc]
        have z0 := cellTo hbi (HNC.out i hjk) (HNA.out (by omega)).2
        rw [← hc] at z0
        have hva := (HNA.out (by omega)).1
        subst hva
        have hbw := below_then HBW.out hbi
        have hnb := HIN.out.nodes.lt (by omega)
        have n0 := cellTo hbw (HIN.out.nodes.p c hcn) hnb
        have n1 := cellTo hbw (HIN.out.nodes.s c hcn) hnb
        have n2 := cellTo hbw (HIN.out.nodes.t c hcn) hnb
        have b0 := cellTo hbi HC0.out (by show w.heap.size < _; omega)
        rw [HIN.out.nodes.addr (by omega)] at b0
        have r1 : (c : Int) < (L.n : Int) := by omega
        have r2 : (0 : Int) ≤ (c : Int) := by omega
        clear hc hcm hjl
        go_wp2
        go_region_law ((refine step_append_lies _ (by rfl) (.tmp 25) (.tmp 34) 24 (by rfl) w2.heap.size 60 i0 (.agg #[.int .i64 0, .int .i64 0, .int .i64 0]) 3 24 Try.underlying24 hi0 hq0 hq1 hq2 rfl (by omega) _ i _ (by rfl) (HOWI.out.alloc _).drew ⟨wi.heap.size, 0, none⟩ 1 1 [.int .i64 (L.p c), .int .i64 (L.s c), .int .i64 (L.t c)] (by rfl) (by rfl) (new_three _ _ _ _ _) (by intro u hu; simp at hu; rcases hu with rfl | rfl | rfl <;> rfl) (by omega) (by unfold maxLen; omega) (by omega) (by simp; omega) (wi.heap.size + 1) (by simp) ?_; intro gv2 cap2 w3 hown2 hgrow hat2 hgv2))
        all_goals
          have HBN : Hid (Below w2.heap.size w2 w3) := grown_below (hbi.alloc hsi _).drew (by simp; omega) (HOWI.out.alloc _).drew (Nat.le_refl _) hgrow
          have ho := hown2
          rw [← nodesC_snoc, ← HTK.out] at ho
          have HO2 : Hid (w3.ownsRow w2.heap.size 60 3 (.slice (some ⟨gv2, 0, none⟩) (i + 1) cap2) (i + 1) (nodesC L (N.take (i + 1)))) := ho
          clear hown2 hgrow ho hat2 hgv2 z0 n0 n1 n2 b0
          go_wp2
          go_roundw
          case rel => exact ⟨i + 1, by omega, by go_num, HBN.out, HO2.out⟩
          case measure => simp [intOf]; omega
      · have hie : i = n := by omega
        subst hie
        have ho := HOWI.out
        rw [List.take_of_length_le (by have := HN.out; omega), HN.out] at ho
        obtain ⟨ao', cap', b', hv, hnn⟩ := nodes_of_own (by have := HN.out; omega) ho
        have HNN' : Hid (NodesIn wi.heap.size wi ao' N.length b' 0 (fun j => L.p (N.getD j 0)) (fun j => L.s (N.getD j 0)) (fun j => L.t (N.getD j 0))) := hnn
        clear hnn ho
        rw [← HN.out] at hv HNN'
        subst hv
        go_wp2
        go_ret2
        exact ⟨q, HQ.out, below_then HBW.out hbi, .inl ⟨HP.out, _, _, _, by rw [← HNN.out, ← HN.out]; rfl, by rw [← HNN.out, ← HN.out]; exact HNN'.out⟩⟩
  · go_wp2
    go_ret2
    exact ⟨q, HQ.out, HBW.out, .inr ⟨hp, rfl⟩⟩

end Go.Proofs.Ytpclldccjpncdab
