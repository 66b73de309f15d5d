import Derived.Test.YtpclldccjpncdaaKoW
import Derived.Test.YtpclldccjpncdaaSampW
import Derived.Test.YtpclldccjpncdaaKeep3
namespace Go.Proofs.Ytpclldccjpncdaa
open Go.RowKit

/-! ### keys are in the order of the comparison -/
theorem cmpL_zero : ∀ (x y r s : List Int), (∀ u ∈ x, 1 ≤ u) → (∀ u ∈ y, 1 ≤ u) → cmpL (x ++ 0 :: r) (y ++ 0 :: s) = if cmpL x y ≠ 0 then cmpL x y else cmpL r s
  | [], [], r, s, _, _ => by simp [cmpL]
  | [], b :: y, r, s, _, hy => by
    have := hy b (by simp)
    have h1 : (0 : Int) < b := by omega
    simp [cmpL, h1]
  | a :: x, [], r, s, hx, _ => by
    have := hx a (by simp)
    have h1 : (0 : Int) < a := by omega
    have h2 : ¬ a < 0 := by omega
    simp [cmpL, h1, h2]
  | a :: x, b :: y, r, s, hx, hy => by
    have ih := cmpL_zero x y r s (fun u hu => hx u (by simp [hu])) (fun u hu => hy u (by simp [hu]))
    simp only [List.cons_append, cmpL]
    by_cases h1 : a < b
    · simp [h1]
    · by_cases h2 : b < a
      · simp [h1, h2]
      · simp only [h1, h2, if_false]
        exact ih
theorem keyL_1 (L : Lay) (s : ByteArray) : keyL L s 1 = wl L s 1 := by simp [keyL]
theorem keyL_2 (L : Lay) (s : ByteArray) : keyL L s 2 = wl L s 1 ++ 0 :: wl L s 2 := by simp [keyL]
theorem keyL_3 (L : Lay) (s : ByteArray) : keyL L s 3 = wl L s 1 ++ 0 :: (wl L s 2 ++ 0 :: wl L s 3) := by simp [keyL]
theorem if_self (c : Int) : (if c ≠ 0 then c else 0) = c := by
  by_cases e : c = 0 <;> simp [e]
theorem cmpF_1 (L : Lay) (a b : ByteArray) (lv : Nat) : cmpFrom L a b 1 lv = cmpL (wl L a lv) (wl L b lv) := by
  show (if cmpL (wl L a lv) (wl L b lv) ≠ 0 then cmpL (wl L a lv) (wl L b lv) else 0) = _
  exact if_self _
theorem cmpF_s (L : Lay) (a b : ByteArray) (f lv : Nat) : cmpFrom L a b (f + 1) lv = if cmpL (wl L a lv) (wl L b lv) ≠ 0 then cmpL (wl L a lv) (wl L b lv) else cmpFrom L a b f (lv + 1) := rfl
theorem keyL_cmp {L : Lay} {a b : ByteArray} (ha : ∀ lv, ∀ u ∈ wl L a lv, 1 ≤ u) (hb : ∀ lv, ∀ u ∈ wl L b lv, 1 ≤ u) (n : Nat) (h1 : 1 ≤ n) (h3 : n ≤ 3) : cmpL (keyL L a n) (keyL L b n) = cmpFrom L a b n 1 := by
  have : n = 1 ∨ n = 2 ∨ n = 3 := by omega
  rcases this with rfl | rfl | rfl
  · rw [keyL_1, keyL_1, cmpF_1]
  · rw [keyL_2, keyL_2, cmpL_zero _ _ _ _ (ha 1) (hb 1), cmpF_s, cmpF_1]
  · rw [keyL_3, keyL_3, cmpL_zero _ _ _ _ (ha 1) (hb 1), cmpL_zero _ _ _ _ (ha 2) (hb 2), cmpF_s, cmpF_s, cmpF_1]
theorem zeros_app (a b : List Int) : zeros (a ++ b) = zeros a + zeros b := List.countP_append
theorem zeros_none {a : List Int} (h : ∀ u ∈ a, 1 ≤ u) : zeros a = 0 := by
  unfold zeros
  refine List.countP_eq_zero.2 fun u hu => ?_
  have := h u hu
  simp; omega
theorem keyL_zeros {L : Lay} {a : ByteArray} (ha : ∀ lv, ∀ u ∈ wl L a lv, 1 ≤ u) : ∀ n, zeros (keyL L a n) = n - 1
  | 0 => rfl
  | n + 1 => by
    rw [keyL, zeros_app, zeros_app, keyL_zeros ha n, zeros_none (ha (n + 1))]
    by_cases e : 1 ≤ n
    · rw [if_pos e]; show n - 1 + 1 + 0 = n + 1 - 1; omega
    · rw [if_neg e]; show n - 1 + 0 + 0 = n + 1 - 1; omega
theorem keyL_range {L : Lay} {a : ByteArray} (ha : ∀ lv, ∀ u ∈ wl L a lv, 1 ≤ u ∧ u ≤ 250) : ∀ n, ∀ u ∈ keyL L a n, 0 ≤ u ∧ u ≤ 255
  | 0, u, hu => by simp [keyL] at hu
  | n + 1, u, hu => by
    rw [keyL] at hu
    simp only [List.mem_append] at hu
    rcases hu with (hu | hu) | hu
    · exact keyL_range ha n u hu
    · split at hu
      · simp at hu; omega
      · simp at hu
    · have := ha (n + 1) u hu; omega
theorem spelt_wl {L : Lay} {a : ByteArray} (he : L.err = 0) (hs : a.size ≤ 24) : (∀ lv, (wl L a lv).length ≤ 96) ∧ ∀ lv, ∀ u ∈ wl L a lv, 1 ≤ u ∧ u ≤ 250 := by
  have hok := err_zero he
  obtain ⟨q, hq⟩ := cut_exists L.m L.tx a
  have hn := cutN_eq hq
  have hq1 := pos_ge q hq.go
  have hq2 := pos_le L.m L.tx a q
  have h1 : (nodesN L a).length ≤ 96 := by unfold nodesN; rw [hn]; have := nums_len hok q hq.go; omega
  have h2 : ∀ c ∈ nodesN L a, c < L.n := by unfold nodesN; rw [hn]; exact nums_lt hok q hq.go
  exact ⟨fun lv => (wl_bd hok h1 h2 lv).1, fun lv => (wl_bd hok h1 h2 lv).2⟩
/-- what the law wants of two texts and a level -/
theorem spelt_keys {L : Lay} {a b : ByteArray} (he : L.err = 0) (ha : Spelt L a) (hb : Spelt L b) (sa : a.size ≤ 24) (sb : b.size ≤ 24) {n : Nat} (h1 : 1 ≤ n) (h3 : n ≤ 3) :
    ∃ ka kb : ByteArray, ka.size ≤ 1000 ∧ kb.size ≤ 1000 ∧ keyE L a (n : Int) = 0 ∧ keyE L b (n : Int) = 0 ∧ keyV L a (n : Int) = ka ∧ keyV L b (n : Int) = kb ∧ cmpE L a b (n : Int) = 0 ∧ cmpV L a b (n : Int) = cmpL (bl ka) (bl kb) ∧ zeros (bl ka) = n - 1 ∧ zeros (bl kb) = n - 1 := by
  obtain ⟨wa1, wa2⟩ := spelt_wl he sa
  obtain ⟨wb1, wb2⟩ := spelt_wl he sb
  have eA : keyE L a (n : Int) = 0 := keyE_ok he sa (by omega) (by omega) (spelt_has ha)
  have eB : keyE L b (n : Int) = 0 := keyE_ok he sb (by omega) (by omega) (spelt_has hb)
  have lA := keyL_len wa1 n
  have lB := keyL_len wb1 n
  have bA := bl_nums (keyL L a n) (keyL_range wa2 n)
  have bB := bl_nums (keyL L b n) (keyL_range wb2 n)
  obtain ⟨c1, c2⟩ := spelt_cmpE he ha hb sa sb h1 h3
  refine ⟨strOfNums (keyL L a n), strOfNums (keyL L b n), by rw [strOfNums_size]; omega, by rw [strOfNums_size]; omega, eA, eB, keyV_ok eA, keyV_ok eB, c1, ?_, ?_, ?_⟩
  · rw [c2, bA, bB, keyL_cmp (fun lv u hu => (wa2 lv u hu).1) (fun lv u hu => (wb2 lv u hu).1) n h1 h3]
  · rw [bA]; exact keyL_zeros (fun lv u hu => (wa2 lv u hu).1) n
  · rw [bB]; exact keyL_zeros (fun lv u hu => (wb2 lv u hu).1) n

theorem spelled_10 (L : Lay) (rk rc rb ro : Nat) (ra : Option Addr) (rz : Nat → Int) (k : Nat) (w : World) (h : L.In w.heap.size w) (hm : L.m ≤ 48) (hk : 1 ≤ k ∧ k ≤ 12) (ho : ones L L.m = k) (hl : ∀ j, j < k → isText L.m L.tx (ltr j))
    (hr : RawIn w.heap.size w ra rk rb ro rz) :
    Calls Try.prog 9 #[.agg #[.slice L.na L.n L.nc, .slice L.ea L.m L.ec], .slice ra rk rc, .int .i64 10] w fun e w' => (∃ s, e = .returned (.string s) ∧ 1 ≤ s.size ∧ s.size ≤ 10 ∧ Spelt L s) ∧ Below w.heap.size w w' :=
  spelled_any L rk rc rb ro ra rz 10 k w h hm hk ho hl hr.ints hr.range (by omega)

set_option maxRecDepth 100000 in
set_option maxHeartbeats 4000000 in
theorem keyOrder_any (nk nc nb no : Nat) (na : Option Addr) (nz : Nat → Int) (ek ec eb eo : Nat) (ea : Option Addr) (ez : Nat → Int) (xk xc xb xo : Nat) (xa : Option Addr) (xz : Nat → Int) (yk yc yb yo : Nat) (ya : Option Addr) (yz : Nat → Int) (w : World)
    (hn : RawIn w.heap.size w na nk nb no nz) (he : RawIn w.heap.size w ea ek eb eo ez) (hx : RawIn w.heap.size w xa xk xb xo xz) (hy : RawIn w.heap.size w ya yk yb yo yz) :
    Calls Try.prog 4 #[.slice na nk nc, .slice ea ek ec, .slice xa xk xc, .slice ya yk yc] w fun e w' => e = .returned (.bool true) ∧ Below w.heap.size w w' := by
  have HN : Hid (∀ w', Below w.heap.size w w' → RawIn w'.heap.size w' na nk nb no nz) := fun _ hb => hn.later hb
  have HE : Hid (∀ w', Below w.heap.size w w' → RawIn w'.heap.size w' ea ek eb eo ez) := fun _ hb => he.later hb
  have HX : Hid (∀ w', Below w.heap.size w w' → RawIn w'.heap.size w' xa xk xb xo xz) := fun _ hb => hx.later hb
  have HY : Hid (∀ w', Below w.heap.size w w' → RawIn w'.heap.size w' ya yk yb yo yz) := fun _ hb => hy.later hb
  clear hn he hx hy
  go_enter Try.func4, Try.ntmps4
  go_upto_region 2 with (go_at_call 12; refine (orders_any _).mono ?_; rintro e w0 ⟨rfl, hb0⟩)
  have HB0 : Hid (Below w.heap.size w w0) := hb0
  clear hb0
  go_upto_region 3 with (go_at_call 8; refine (made_raw _ _ _ _ _ _ _ _ _ _ _ _ _ (HN.out _ HB0.out) (HE.out _ HB0.out)).mono ?_; rintro e w1 ⟨L, k, rfl, hin, herr, hk1, hk12, hl, ho, hb1⟩)
  have HB1 : Hid (Below w.heap.size w (w1.alloc (.cells #[.slice L.na L.n L.nc, .slice L.ea L.m L.ec] 26))) := below_then (below_then HB0.out hb1) (below_one _)
  have HIN : Hid (∀ w', Below (w1.alloc (.cells #[.slice L.na L.n L.nc, .slice L.ea L.m L.ec] 26)).heap.size (w1.alloc (.cells #[.slice L.na L.n L.nc, .slice L.ea L.m L.ec] 26)) w' → L.In w'.heap.size w') := fun _ hb => (hin.later (below_one _)).later hb
  have HER : Hid (L.err = 0) := herr
  have hm : L.m ≤ 48 := (err_zero herr).m
  have HT : Hid (∀ j, j < k → isText L.m L.tx (ltr j)) := hl
  have HO : Hid (ones L L.m = k) := ho
  have HTB : Hid (∀ w', Below (w1.alloc (.cells #[.slice L.na L.n L.nc, .slice L.ea L.m L.ec] 26)).heap.size (w1.alloc (.cells #[.slice L.na L.n L.nc, .slice L.ea L.m L.ec] 26)) w' → w'.cell? ⟨w1.heap.size, 0, none⟩ = some (.slice L.na L.n L.nc) ∧ w'.cell? ⟨w1.heap.size, 1, none⟩ = some (.slice L.ea L.m L.ec)) := fun w' hb =>
    have hr := row_new w1 #[.slice L.na L.n L.nc, .slice L.ea L.m L.ec] 26 2 rfl
    ⟨cellTo hb (hr.cell (i := 0) (by omega)) hr.lt, cellTo hb (hr.cell (i := 1) (by omega)) hr.lt⟩
  clear hb1 hin herr hl ho
  obtain ⟨W, hW⟩ : ∃ W, W = w1.alloc (.cells #[.slice L.na L.n L.nc, .slice L.ea L.m L.ec] 26) := ⟨_, rfl⟩
  rw [← hW] at HB1 HIN HTB ⊢
  have HWB : Hid (∀ w', Below W.heap.size W w' → Below w.heap.size w w') := fun w' hb => below_then HB1.out hb
  clear hW
  have t0 := (HTB.out W (Below.refl _ _)).1
  have t1 := (HTB.out W (Below.refl _ _)).2
  go_upto_region 4 with (go_at_call 9; refine (spelled_10 L _ _ _ _ _ _ k _ (HIN.out _ (Below.refl _ _)) hm ⟨hk1, hk12⟩ HO.out HT.out (HX.out _ HB1.out)).mono ?_; rintro e w2 ⟨⟨a, rfl, ha1, ha6, hasp⟩, hb2⟩)
  have HSA : Hid (Spelt L a) := hasp
  clear hasp t0 t1
  have t0 := (HTB.out w2 hb2).1
  have t1 := (HTB.out w2 hb2).2
  go_upto_region 5 with (go_at_call 9; refine (spelled_10 L _ _ _ _ _ _ k _ (HIN.out _ hb2) hm ⟨hk1, hk12⟩ HO.out HT.out (HY.out _ (HWB.out _ hb2))).mono ?_; rintro e w3 ⟨⟨b, rfl, hb1, hb6, hbsp⟩, hb3'⟩)
  have HSB : Hid (Spelt L b) := hbsp
  have HB3 : Hid (Below W.heap.size W w3) := below_then hb2 hb3'
  clear hbsp t0 t1 hb2 hb3'
  go_wp2
  go_loopw [13] (fun nv wr => ∃ n : Nat, nv = .int .i64 (n : Nat) ∧ 1 ≤ n ∧ n ≤ 4 ∧ Below W.heap.size W wr) (fun nv _ => 4 - (intOf nv).toNat)
  case atStart => exact ⟨1, rfl, by omega, by omega, HB3.out⟩
  case round =>
    clear HB3
    rename World => ws
    obtain ⟨n, rfl, hn1, hn4, hbs⟩ := hrel
    by_cases hlt : n ≤ 3
    · obtain ⟨ka, kb, hka, hkb, eA, eB, vA, vB, cE, cV, zA, zB⟩ := spelt_keys HER.out HSA.out HSB.out (by omega) (by omega) hn1 hlt
      have HVAL : Hid (keyE L a (n : Int) = 0 ∧ keyE L b (n : Int) = 0 ∧ keyV L a (n : Int) = ka ∧ keyV L b (n : Int) = kb ∧ cmpE L a b (n : Int) = 0) := ⟨eA, eB, vA, vB, cE⟩
      obtain ⟨r, hr⟩ : ∃ r, r = cmpL (bl ka) (bl kb) := ⟨_, rfl⟩
      have HR : Hid (r = cmpL (bl ka) (bl kb)) := hr
      have HCV : Hid (cmpV L a b (n : Int) = r) := cV.trans hr.symm
      obtain ⟨z, hz⟩ : ∃ z : Nat, z = n - 1 := ⟨_, rfl⟩
      have HZA : Hid (zeros (bl ka) = z) := zA.trans hz.symm
      have HZB : Hid (zeros (bl kb) = z) := zB.trans hz.symm
      have hzn : (z : Int) = (n : Int) - 1 := by omega
      have HZN : Hid ((z : Int) = (n : Int) - 1) := hzn
      clear eA eB vA vB cE cV zA zB hr hz hzn
      have t0 := (HTB.out ws hbs).1
      have t1 := (HTB.out ws hbs).2
      go_upto_region 9 with (go_at_call 13; refine (compare_any L _ _ _ _ (HIN.out _ hbs)).mono ?_; rintro e w5 ⟨rfl, hb5'⟩; rw [HVAL.out.2.2.2.2, HCV.out])
      have hb5 := below_then hbs hb5'
      clear hb5' t0 t1
      have t0 := (HTB.out w5 hb5).1
      have t1 := (HTB.out w5 hb5).2
      go_upto_region 10 with (go_at_call 14; refine (key_any L _ _ _ (HIN.out _ hb5)).mono ?_; rintro e w6 ⟨rfl, hb6'⟩; rw [HVAL.out.1, HVAL.out.2.2.1])
      have hbz6 := below_then hb5 hb6'
      clear hb6' t0 t1 hb5
      have t0 := (HTB.out w6 hbz6).1
      have t1 := (HTB.out w6 hbz6).2
      go_upto_region 11 with (go_at_call 14; refine (key_any L _ _ _ (HIN.out _ hbz6)).mono ?_; rintro e w7 ⟨rfl, hb7'⟩; rw [HVAL.out.2.1, HVAL.out.2.2.2.1])
      have hb7 := below_then hbz6 hb7'
      clear hb7' t0 t1 hbz6
      go_upto_region 13 with (go_at_call 15; refine (bytewise_any ka kb _ hka hkb).mono ?_; rintro e w8 ⟨rfl, hb8'⟩; rw [← HR.out])
      have HB8 : Hid (Below W.heap.size W w8) := below_then hb7 hb8'
      clear hb7 hb8'
      go_wp2_with (first
        | (go_at_call_of 16 (Value.string ka); refine (noughts_any ka _ hka).mono ?_; rintro e w9 ⟨rfl, hw⟩; obtain rfl := hw.symm; rw [HZA.out, HZN.out])
        | (go_at_call_of 16 (Value.string kb); refine (noughts_any kb _ hkb).mono ?_; rintro e w9 ⟨rfl, hw⟩; obtain rfl := hw.symm; rw [HZB.out, HZN.out]))
      go_roundw
      case rel => exact ⟨n + 1, by go_num, by omega, by omega, HB8.out⟩
      case measure => simp [intOf]; omega
    · have hn3 : n = 4 := by omega
      subst hn3
      go_wp2
      go_ret
      exact ⟨rfl, HWB.out _ hbs⟩

end Go.Proofs.Ytpclldccjpncdaa
