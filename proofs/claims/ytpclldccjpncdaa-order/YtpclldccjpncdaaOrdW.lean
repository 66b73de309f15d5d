import Derived.Test.YtpclldccjpncdaaOrdP
import Derived.Test.YtpclldccjpncdaaSampW
import Derived.Test.YtpclldccjpncdaaKeep3
namespace Go.Proofs.Ytpclldccjpncdaa
open Go.RowKit

set_option maxHeartbeats 1000000 in
theorem kcompare_any (L : Lay) (a b : ByteArray) (n : Nat) (w : World) (h : L.In w.heap.size w) (he : cmpE L a b (n : Int) = 0 ∧ cmpV L a b (n : Int) = cmpFrom L a b n 1) :
    Calls Try.prog 17 #[.agg #[.slice L.na L.n L.nc, .slice L.ea L.m L.ec], .string a, .string b, .int .i64 (n : Nat)] w fun e w' => (∃ r, e = .returned (.int .i64 r) ∧ Hid (r = cmpFrom L a b n 1)) ∧ Below w.heap.size w w' := by
  have HL : Hid (∀ w', Below w.heap.size w w' → L.In w'.heap.size w') := fun w' hb => h.later hb
  have HE : Hid (cmpE L a b (n : Int) = 0 ∧ cmpV L a b (n : Int) = cmpFrom L a b n 1) := he
  obtain ⟨r, hr⟩ : ∃ r, r = cmpFrom L a b n 1 := ⟨_, rfl⟩
  have hv := cmpF_vals L a b n 1
  rw [← hr] at hv
  have HR : Hid (r = cmpFrom L a b n 1) := hr
  have h1 : -1 ≤ r := by omega
  have h2 : r ≤ 1 := by omega
  clear h he hr hv
  go_enter Try.func17, Try.ntmps17
  go_wp2_with (go_at_call 13; refine (compare_any L _ _ _ _ (HL.out _ (below_one _))).mono ?_; rintro e w1 ⟨rfl, hb1⟩; rw [HE.out.1, HE.out.2, ← HR.out])
  go_ret
  exact ⟨⟨_, rfl, HR⟩, below_then (below_one _) hb1⟩

theorem spelled_6 (L : Lay) (rk rc rb ro : Nat) (ra : Option Addr) (rz : Nat → Int) (k : Nat) (w : World) (h : L.In w.heap.size w) (hm : L.m ≤ 48) (hk : 1 ≤ k ∧ k ≤ 12) (ho : ones L L.m = k) (hl : ∀ j, j < k → isText L.m L.tx (ltr j))
    (hr : RawIn w.heap.size w ra rk rb ro rz) :
    Calls Try.prog 9 #[.agg #[.slice L.na L.n L.nc, .slice L.ea L.m L.ec], .slice ra rk rc, .int .i64 6] w fun e w' => (∃ s, e = .returned (.string s) ∧ 1 ≤ s.size ∧ s.size ≤ 6 ∧ Spelt L s) ∧ Below w.heap.size w w' :=
  spelled_any L rk rc rb ro ra rz 6 k w h hm hk ho hl hr.ints hr.range (by omega)

set_option maxRecDepth 100000 in
set_option maxHeartbeats 4000000 in
theorem order_any (nk nc nb no : Nat) (na : Option Addr) (nz : Nat → Int) (ek ec eb eo : Nat) (ea : Option Addr) (ez : Nat → Int) (xk xc xb xo : Nat) (xa : Option Addr) (xz : Nat → Int) (yk yc yb yo : Nat) (ya : Option Addr) (yz : Nat → Int) (zk zc zb zo : Nat) (za : Option Addr) (zz : Nat → Int) (w : World)
    (hn : RawIn w.heap.size w na nk nb no nz) (he : RawIn w.heap.size w ea ek eb eo ez) (hx : RawIn w.heap.size w xa xk xb xo xz) (hy : RawIn w.heap.size w ya yk yb yo yz) (hz : RawIn w.heap.size w za zk zb zo zz) :
    Calls Try.prog 5 #[.slice na nk nc, .slice ea ek ec, .slice xa xk xc, .slice ya yk yc, .slice za zk zc] w fun e w' => e = .returned (.bool true) ∧ Below w.heap.size w w' := by
  have HN : Hid (∀ w', Below w.heap.size w w' → RawIn w'.heap.size w' na nk nb no nz) := fun _ hb => hn.later hb
  have HE : Hid (∀ w', Below w.heap.size w w' → RawIn w'.heap.size w' ea ek eb eo ez) := fun _ hb => he.later hb
  have HX : Hid (∀ w', Below w.heap.size w w' → RawIn w'.heap.size w' xa xk xb xo xz) := fun _ hb => hx.later hb
  have HY : Hid (∀ w', Below w.heap.size w w' → RawIn w'.heap.size w' ya yk yb yo yz) := fun _ hb => hy.later hb
  have HZ : Hid (∀ w', Below w.heap.size w w' → RawIn w'.heap.size w' za zk zb zo zz) := fun _ hb => hz.later hb
  clear hn he hx hy hz
  go_enter Try.func5, Try.ntmps5
  go_upto_region 2 with (go_at_call 12; refine (orders_any _).mono ?_; rintro e w0 ⟨rfl, hb0⟩)
  have HB0 : Hid (Below w.heap.size w w0) := hb0
  clear hb0
  go_upto_region 3 with (go_at_call 8; refine (made_raw _ _ _ _ _ _ _ _ _ _ _ _ _ (HN.out _ HB0.out) (HE.out _ HB0.out)).mono ?_; rintro e w1 ⟨L, k, rfl, hin, herr, hk1, hk12, hl, ho, hb1⟩)
  have HB1 : Hid (Below w.heap.size w (w1.alloc (.cells #[.slice L.na L.n L.nc, .slice L.ea L.m L.ec] 26))) := below_then (below_then HB0.out hb1) (below_one _)
  have HIN : Hid (∀ w', Below (w1.alloc (.cells #[.slice L.na L.n L.nc, .slice L.ea L.m L.ec] 26)).heap.size (w1.alloc (.cells #[.slice L.na L.n L.nc, .slice L.ea L.m L.ec] 26)) w' → L.In w'.heap.size w') := fun _ hb => (hin.later (below_one _)).later hb
  have HER : Hid (L.err = 0) := herr
  have hm : L.m ≤ 48 := (err_zero herr).m
  have HT : Hid (∀ j, j < k → isText L.m L.tx (ltr j)) := hl
  have HO : Hid (ones L L.m = k) := ho
  have HTB : Hid (∀ w', Below (w1.alloc (.cells #[.slice L.na L.n L.nc, .slice L.ea L.m L.ec] 26)).heap.size (w1.alloc (.cells #[.slice L.na L.n L.nc, .slice L.ea L.m L.ec] 26)) w' → w'.cell? ⟨w1.heap.size, 0, none⟩ = some (.slice L.na L.n L.nc) ∧ w'.cell? ⟨w1.heap.size, 1, none⟩ = some (.slice L.ea L.m L.ec)) := fun w' hb =>
    have hr := row_new w1 #[.slice L.na L.n L.nc, .slice L.ea L.m L.ec] 26 2 rfl
    ⟨cellTo hb (hr.cell (i := 0) (by omega)) hr.lt, cellTo hb (hr.cell (i := 1) (by omega)) hr.lt⟩
  clear hb1 hin herr hl ho
  obtain ⟨W, hW⟩ : ∃ W, W = w1.alloc (.cells #[.slice L.na L.n L.nc, .slice L.ea L.m L.ec] 26) := ⟨_, rfl⟩
  rw [← hW] at HB1 HIN HTB ⊢
  have HWB : Hid (∀ w', Below W.heap.size W w' → Below w.heap.size w w') := fun w' hb => below_then HB1.out hb
  clear hW
  have t0 := (HTB.out W (Below.refl _ _)).1
  have t1 := (HTB.out W (Below.refl _ _)).2
  go_upto_region 4 with (go_at_call 9; refine (spelled_6 L _ _ _ _ _ _ k _ (HIN.out _ (Below.refl _ _)) hm ⟨hk1, hk12⟩ HO.out HT.out (HX.out _ HB1.out)).mono ?_; rintro e w2 ⟨⟨a, rfl, ha1, ha6, hasp⟩, hb2⟩)
  have HSA : Hid (Spelt L a) := hasp
  clear hasp t0 t1
  have t0 := (HTB.out w2 hb2).1
  have t1 := (HTB.out w2 hb2).2
  go_upto_region 5 with (go_at_call 9; refine (spelled_6 L _ _ _ _ _ _ k _ (HIN.out _ hb2) hm ⟨hk1, hk12⟩ HO.out HT.out (HY.out _ (HWB.out _ hb2))).mono ?_; rintro e w3 ⟨⟨b, rfl, hb1, hb6, hbsp⟩, hb3'⟩)
  have HSB : Hid (Spelt L b) := hbsp
  have hb3 := below_then hb2 hb3'
  clear hbsp t0 t1 hb2 hb3'
  have t0 := (HTB.out w3 hb3).1
  have t1 := (HTB.out w3 hb3).2
  go_upto_region 6 with (go_at_call 9; refine (spelled_6 L _ _ _ _ _ _ k _ (HIN.out _ hb3) hm ⟨hk1, hk12⟩ HO.out HT.out (HZ.out _ (HWB.out _ hb3))).mono ?_; rintro e w4 ⟨⟨c, rfl, hc1, hc6, hcsp⟩, hb4'⟩)
  have HSC : Hid (Spelt L c) := hcsp
  have HB4 : Hid (Below W.heap.size W w4) := below_then hb3 hb4'
  clear hcsp t0 t1 hb3 hb4'
  go_wp2
  go_loopw [16, 17] (fun lv nv wr => ∃ (n : Nat) (l : Int), nv = .int .i64 ((n + 1 : Nat)) ∧ n ≤ 3 ∧ lv = .int .i64 l ∧ l = cmpFrom L a b n 1 ∧ Below W.heap.size W wr) (fun _ nv _ => 4 - (intOf nv).toNat)
  case atStart => exact ⟨0, 0, rfl, by omega, rfl, rfl, HB4.out⟩
  case round =>
    clear HB4
    rename World => ws
    obtain ⟨n, l, rfl, hn, rfl, hl, hbs⟩ := hrel
    have HL : Hid (l = cmpFrom L a b n 1) := hl
    clear hl
    by_cases hlt : n < 3
    · have HCE : Hid (∀ u v, Spelt L u → Spelt L v → u.size ≤ 6 → v.size ≤ 6 → cmpE L u v ((n + 1 : Nat) : Int) = 0 ∧ cmpV L u v ((n + 1 : Nat) : Int) = cmpFrom L u v (n + 1) 1) := fun u v hu hv s1 s2 => spelt_cmpE HER.out hu hv (by omega) (by omega) (by omega) (by omega)
      obtain ⟨m, hm1⟩ : ∃ m, m = n + 1 := ⟨_, rfl⟩
      rw [← hm1] at HCE ⊢
      have HM1 : Hid (m = n + 1) := hm1
      have hm3 : m ≤ 3 := by omega
      have hm0 : 1 ≤ m := by omega
      clear hm1
      have t0 := (HTB.out ws hbs).1
      have t1 := (HTB.out ws hbs).2
      go_upto_region 11 with (go_at_call 17; refine (kcompare_any L a b m _ (HIN.out _ hbs) (HCE.out a b HSA.out HSB.out ha6 hb6)).mono ?_; rintro e w5 ⟨⟨ab, rfl, hab⟩, hb5'⟩)
      have HAB : Hid (ab = cmpFrom L a b m 1) := hab
      have hb5 := below_then hbs hb5'
      clear hab hb5' t0 t1
      have t0 := (HTB.out w5 hb5).1
      have t1 := (HTB.out w5 hb5).2
      go_upto_region 12 with (go_at_call 17; refine (kcompare_any L b a m _ (HIN.out _ hb5) (HCE.out b a HSB.out HSA.out hb6 ha6)).mono ?_; rintro e w6 ⟨⟨ba, rfl, hba⟩, hb6'⟩)
      have HBA : Hid (ba = cmpFrom L b a m 1) := hba
      have hbz6 := below_then hb5 hb6'
      clear hba hb6' t0 t1 hb5
      have t0 := (HTB.out w6 hbz6).1
      have t1 := (HTB.out w6 hbz6).2
      go_upto_region 13 with (go_at_call 17; refine (kcompare_any L b c m _ (HIN.out _ hbz6) (HCE.out b c HSB.out HSC.out hb6 hc6)).mono ?_; rintro e w7 ⟨⟨bc, rfl, hbc⟩, hb7'⟩)
      have HBC : Hid (bc = cmpFrom L b c m 1) := hbc
      have hb7 := below_then hbz6 hb7'
      clear hbc hb7' t0 t1 hbz6
      have t0 := (HTB.out w7 hb7).1
      have t1 := (HTB.out w7 hb7).2
      go_upto_region 14 with (go_at_call 17; refine (kcompare_any L a c m _ (HIN.out _ hb7) (HCE.out a c HSA.out HSC.out ha6 hc6)).mono ?_; rintro e w8 ⟨⟨ac, rfl, hac⟩, hb8'⟩)
      have HAC : Hid (ac = cmpFrom L a c m 1) := hac
      have hb8 := below_then hb7 hb8'
      clear hac hb8' t0 t1 hb7
      have t0 := (HTB.out w8 hb8).1
      have t1 := (HTB.out w8 hb8).2
      go_upto_region 15 with (go_at_call 17; refine (kcompare_any L a a m _ (HIN.out _ hb8) (HCE.out a a HSA.out HSA.out ha6 ha6)).mono ?_; rintro e w9 ⟨⟨aa, rfl, haa⟩, hb9'⟩)
      have HB9 : Hid (Below W.heap.size W w9) := below_then hb8 hb9'
      have haa0 : aa = 0 := by rw [haa.out]; exact cmpF_self L a m 1
      have hba0 : ba = -ab := by rw [HBA.out, HAB.out]; exact cmpF_turn L a b m 1
      have hva : ab = -1 ∨ ab = 0 ∨ ab = 1 := by rw [HAB.out]; exact cmpF_vals L a b m 1
      have hvb : bc = -1 ∨ bc = 0 ∨ bc = 1 := by rw [HBC.out]; exact cmpF_vals L b c m 1
      have hvc : ac = -1 ∨ ac = 0 ∨ ac = 1 := by rw [HAC.out]; exact cmpF_vals L a c m 1
      have htr : Trans3 ab bc ac := by rw [HAB.out, HBC.out, HAC.out]; exact cmpF_trans L a b c m 1
      have htr2 : Trans3 (-bc) (-ab) (-ac) := by
        rw [HAB.out, HBC.out, HAC.out, ← cmpF_turn, ← cmpF_turn, ← cmpF_turn]; exact cmpF_trans L c b a m 1
      have hll : l = 0 ∨ l = ab := by
        by_cases e : l = 0
        · exact .inl e
        · right
          rw [HAB.out, HM1.out, HL.out]
          exact (cmpF_more L a b n 1 (by rw [← HL.out]; exact e)).symm
      unfold Trans3 at htr htr2
      clear haa hb8 hb9' t0 t1
      subst haa0 hba0
      have HALL : Hid (ab = cmpFrom L a b m 1 ∧ m = n + 1) := ⟨HAB.out, HM1.out⟩
      clear HBA HBC HAC HAB HL HM1 HCE
      have e1 : 0 < ab ∨ 0 < bc ∨ ac = -1 ∨ (ac = 0 ∧ ab = 0 ∧ bc = 0) := by
        by_cases q1 : ab ≤ 0
        · by_cases q2 : bc ≤ 0
          · have := htr q1 q2; omega
          · omega
        · omega
      have e2 : ab < 0 ∨ bc < 0 ∨ ac = 1 ∨ (ac = 0 ∧ ab = 0 ∧ bc = 0) := by
        by_cases q1 : 0 ≤ ab
        · by_cases q2 : 0 ≤ bc
          · have := htr2 (by omega) (by omega); omega
          · omega
        · omega
      clear htr htr2
      have hM : m = n + 1 := HALL.out.2
      have hb' := HB9.out
      have HRE : Hid (∀ v, v = Value.int .i64 ab → ∃ (n : Nat) (l : Int), Value.int .i64 ((m : Int) + 1) = .int .i64 ((n + 1 : Nat)) ∧ n ≤ 3 ∧ v = .int .i64 l ∧ l = cmpFrom L a b n 1 ∧ Below W.heap.size W w9) := fun v hv => ⟨m, ab, by go_num, by omega, hv, HALL.out.1, hb'⟩
      clear HALL hM hb'
      rcases hva with rfl | rfl | rfl <;> rcases hvb with rfl | rfl | rfl <;> rcases hvc with rfl | rfl | rfl <;> first | (exfalso; omega) | skip
      all_goals
        clear e1 e2
        rcases hll with rfl | rfl
        all_goals
          go_wp2
          go_roundw
          case rel => exact HRE.out _ rfl
          case measure => simp [intOf]; omega
    · have hn3 : n = 3 := by omega
      subst hn3
      go_wp2
      go_ret
      exact ⟨rfl, HWB.out _ hbs⟩

end Go.Proofs.Ytpclldccjpncdaa
