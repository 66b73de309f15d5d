import Derived.Test.YtpclldccjpncdabB28
import Derived.ShutString
import Derived.ChangeOld
import Derived.Carry
namespace Go.Proofs.Ytpclldccjpncdab
open Go.RowKit

def rulV (x : Rl) : List Value := [.string x.reset, .int .i64 x.before, .int .i64 x.level, .string x.text, .string x.more]
/-- a list of rules that was just built -/
theorem rules3_new {f : Nat → Rl} (w : World) (h : ∀ i, i < 3 → (f i).reset.size ≤ 100 ∧ (f i).text.size ≤ 100 ∧ (f i).more.size ≤ 100) :
    RulesIn (w.heap.size + 1) (w.alloc (.cells #[.string (f 0).reset, .int .i64 (f 0).before, .int .i64 (f 0).level, .string (f 0).text, .string (f 0).more, .string (f 1).reset, .int .i64 (f 1).before, .int .i64 (f 1).level, .string (f 1).text, .string (f 1).more, .string (f 2).reset, .int .i64 (f 2).before, .int .i64 (f 2).level, .string (f 2).text, .string (f 2).more] 48)) (some ⟨w.heap.size, 0, none⟩) 3 w.heap.size 0 f := by
  have r := row_new w #[.string (f 0).reset, .int .i64 (f 0).before, .int .i64 (f 0).level, .string (f 0).text, .string (f 0).more, .string (f 1).reset, .int .i64 (f 1).before, .int .i64 (f 1).level, .string (f 1).text, .string (f 1).more, .string (f 2).reset, .int .i64 (f 2).before, .int .i64 (f 2).level, .string (f 2).text, .string (f 2).more] 48 15 rfl
  have lt3 : ∀ i : Nat, i < 3 → i = 0 ∨ i = 1 ∨ i = 2 := by omega
  refine ⟨fun _ => rfl, fun _ => Nat.lt_succ_self _, fun i hi => ?_, fun i hi => ?_, fun i hi => ?_, fun i hi => ?_, fun i hi => ?_, by omega, fun i hi => by have := h i hi; omega⟩
  · rcases lt3 i hi with rfl | rfl | rfl
    · exact r.cell (i := 0) (by omega)
    · exact r.cell (i := 5) (by omega)
    · exact r.cell (i := 10) (by omega)
  · rcases lt3 i hi with rfl | rfl | rfl
    · exact r.cell (i := 1) (by omega)
    · exact r.cell (i := 6) (by omega)
    · exact r.cell (i := 11) (by omega)
  · rcases lt3 i hi with rfl | rfl | rfl
    · exact r.cell (i := 2) (by omega)
    · exact r.cell (i := 7) (by omega)
    · exact r.cell (i := 12) (by omega)
  · rcases lt3 i hi with rfl | rfl | rfl
    · exact r.cell (i := 3) (by omega)
    · exact r.cell (i := 8) (by omega)
    · exact r.cell (i := 13) (by omega)
  · rcases lt3 i hi with rfl | rfl | rfl
    · exact r.cell (i := 4) (by omega)
    · exact r.cell (i := 9) (by omega)
    · exact r.cell (i := 14) (by omega)
theorem rules2_new {f : Nat → Rl} (w : World) (h : ∀ i, i < 2 → (f i).reset.size ≤ 100 ∧ (f i).text.size ≤ 100 ∧ (f i).more.size ≤ 100) :
    RulesIn (w.heap.size + 1) (w.alloc (.cells #[.string (f 0).reset, .int .i64 (f 0).before, .int .i64 (f 0).level, .string (f 0).text, .string (f 0).more, .string (f 1).reset, .int .i64 (f 1).before, .int .i64 (f 1).level, .string (f 1).text, .string (f 1).more] 48)) (some ⟨w.heap.size, 0, none⟩) 2 w.heap.size 0 f := by
  have r := row_new w #[.string (f 0).reset, .int .i64 (f 0).before, .int .i64 (f 0).level, .string (f 0).text, .string (f 0).more, .string (f 1).reset, .int .i64 (f 1).before, .int .i64 (f 1).level, .string (f 1).text, .string (f 1).more] 48 10 rfl
  have lt2 : ∀ i : Nat, i < 2 → i = 0 ∨ i = 1 := by omega
  refine ⟨fun _ => rfl, fun _ => Nat.lt_succ_self _, fun i hi => ?_, fun i hi => ?_, fun i hi => ?_, fun i hi => ?_, fun i hi => ?_, by omega, fun i hi => by have := h i hi; omega⟩
  · rcases lt2 i hi with rfl | rfl
    · exact r.cell (i := 0) (by omega)
    · exact r.cell (i := 5) (by omega)
  · rcases lt2 i hi with rfl | rfl
    · exact r.cell (i := 1) (by omega)
    · exact r.cell (i := 6) (by omega)
  · rcases lt2 i hi with rfl | rfl
    · exact r.cell (i := 2) (by omega)
    · exact r.cell (i := 7) (by omega)
  · rcases lt2 i hi with rfl | rfl
    · exact r.cell (i := 3) (by omega)
    · exact r.cell (i := 8) (by omega)
  · rcases lt2 i hi with rfl | rfl
    · exact r.cell (i := 4) (by omega)
    · exact r.cell (i := 9) (by omega)

set_option maxRecDepth 100000 in
set_option maxHeartbeats 4000000 in
theorem chains_any (nk nc nb no : Nat) (na : Option Addr) (nz : Nat → Int) (ek ec eb eo : Nat) (ea : Option Addr) (ez : Nat → Int) (xk xc xb xo : Nat) (xa : Option Addr) (xz : Nat → Int) (v : Int) (w : World)
    (hn : RawIn w.heap.size w na nk nb no nz) (he : RawIn w.heap.size w ea ek eb eo ez) (hx : RawIn w.heap.size w xa xk xb xo xz) (hv : -9223372036854775808 ≤ v ∧ v ≤ 9223372036854775807) :
    Calls Try.prog 5 #[.slice na nk nc, .slice ea ek ec, .slice xa xk xc, .int .i64 v] w fun e w' => e = .returned (.bool true) ∧ Below w.heap.size w w' := by
  have HN : Hid (RawIn w.heap.size w na nk nb no nz) := hn
  have HE : Hid (RawIn w.heap.size w ea ek eb eo ez) := he
  have HX : Hid (RawIn w.heap.size w xa xk xb xo xz) := hx
  clear hn he hx
  go_enter Try.func5, Try.ntmps5
  go_wp2_with fail
  refine (compiled_any _).mono ?_
  rintro e w1 ⟨rfl, hb1⟩
  have HB1 : Hid (Below w.heap.size w w1) := hb1
  clear hb1
  go_wp2_with fail
  refine (made_any _ _ _ _ _ _ _ _ _ _ _ _ _ (HN.out.later HB1.out).ints HN.out.range (HE.out.later HB1.out).ints HE.out.range).mono ?_
  rintro e w2 ⟨L, k, rfl, hin, herr, hk1, hk12, hl, ho, hb2, hLn, hLm⟩
  have HIN : Hid (L.In w2.heap.size w2) := hin
  have HER : Hid (L.err = 0) := herr
  have HT : Hid (∀ j, j < k → isText L.m L.tx (ltr j)) := hl
  have HO : Hid (ones L L.m = k) := ho
  have HB2 : Hid (Below w.heap.size w w2) := below_then HB1.out hb2
  clear hb2 hin herr hl ho HB1
  obtain ⟨A, hA⟩ : ∃ A, A = w2.alloc (.cells #[.slice L.na L.n L.nc, .slice L.ea L.m L.ec] 27) := ⟨_, rfl⟩
  have HAB : Hid (Below w2.heap.size w2 A) := by show Below _ _ _; rw [hA]; exact below_one _
  have HAS : Hid (A.heap.size = w2.heap.size + 1) := by show _ = _; rw [hA]; simp
  have HAT : Hid (A.rowIs w2.heap.size 27 2 (fun j => #[Value.slice L.na L.n L.nc, .slice L.ea L.m L.ec].getD j undef)) := by show World.rowIs _ _ _ _ _; rw [hA]; exact row_new _ _ _ 2 rfl
  have a0 : A.cell? ⟨w2.heap.size, 0, none⟩ = some (.slice L.na L.n L.nc) := HAT.out.cell (i := 0) (by omega)
  have a1 : A.cell? ⟨w2.heap.size, 1, none⟩ = some (.slice L.ea L.m L.ec) := HAT.out.cell (i := 1) (by omega)
  go_wp2_with fail
  rw [← hA]
  clear hA
  refine (spelledL_any L _ _ _ _ _ _ 3 k _ (HIN.out.later HAB.out) (by omega) ⟨hk1, hk12⟩ HO.out (HX.out.later (below_then HB2.out HAB.out)).ints HX.out.range (by omega)).mono ?_
  rintro e w3 ⟨⟨R, rfl, hR1, hR3, hsp⟩, hb3⟩
  have HSP : Hid (SpL k R) := hsp
  have HB3 : Hid (Below A.heap.size A w3) := hb3
  have b0 : w3.cell? ⟨w2.heap.size, 0, none⟩ = some (.slice L.na L.n L.nc) := cellTo HB3.out a0 (by rw [HAS.out]; simp)
  have b1 : w3.cell? ⟨w2.heap.size, 1, none⟩ = some (.slice L.ea L.m L.ec) := cellTo HB3.out a1 (by rw [HAS.out]; simp)
  clear hsp hb3
  go_wp2_with fail
  refine (pick_any v 3 _ hv (by omega)).mono ?_
  rintro e wq ⟨r, rfl, hr, hwq⟩
  obtain rfl := hwq.symm
  clear hwq
  obtain ⟨n, ew, hn1, hn3⟩ : ∃ n : Nat, IntKind.i64.wrap ((1 : Int) + (r : Nat)) = (n : Nat) ∧ 1 ≤ n ∧ n ≤ 3 := ⟨1 + r, by rw [IntWalk.i64_in _ (by omega)]; omega, by omega, by omega⟩
  clear hr
  have HCP : Hid (ChnP L k R { data := #[] } n) := ⟨HER.out, hLn, hLm, hk12, HT.out, hR1, hR3, HSP.out, rfl, hn1, hn3⟩
  have hz3 : w2.heap.size < w3.heap.size := by have := HB3.out.size; have := HAS.out; omega
  have HB3w : Hid (Below w.heap.size w w3) := below_then (below_then HB2.out HAB.out) HB3.out
  have HIN3 : Hid (L.In w3.heap.size w3) := (HIN.out.later HAB.out).later HB3.out
  clear a0 a1
  obtain ⟨W, hW⟩ : ∃ W, W = w3.alloc (.cells #[.string R, .int .i64 0, .int .i64 (n : Nat), .string { data := #[120] }, .string { data := #[] }, .string { data := #[] }, .int .i64 0, .int .i64 (n : Nat), .string { data := #[121] }, .string { data := #[] }, .string { data := #[] }, .int .i64 0, .int .i64 (n : Nat), .string { data := #[122] }, .string { data := #[] }] 48) := ⟨_, rfl⟩
  have HRI : Hid (RulesIn W.heap.size W (some ⟨w3.heap.size, 0, none⟩) 3 w3.heap.size 0 (chF R { data := #[] } n)) := by
    show RulesIn _ _ _ _ _ _ _
    rw [hW, size_one]
    exact rules3_new (f := chF R { data := #[] } n) w3 fun i hi => by
      have := HCP.out.rule3.first i hi
      obtain ⟨⟨⟨_, t1⟩, t2, t3, _⟩, _⟩ := this
      omega
  have HWB : Hid (Below w3.heap.size w3 W) := by show Below _ _ _; rw [hW]; exact below_one _
  obtain ⟨S, hS⟩ : ∃ S, S = rlS (chF R { data := #[] } n) 3 := ⟨_, rfl⟩
  have HWR : Hid (Calls Try.prog 9 #[.slice (some ⟨w3.heap.size, 0, none⟩) 3 3] W fun e w' => e = .returned (.tuple #[.string S, .int .i64 0]) ∧ Below W.heap.size W w') := by rw [hS]; exact writeK_any HCP.out.rule3 _ 3 _ _ W HRI.out
  have HCC : Hid (∀ wz, L.In wz.heap.size wz → Calls Try.prog 10 #[.agg #[.slice L.na L.n L.nc, .slice L.ea L.m L.ec], .string S] wz fun e w' => Below wz.heap.size wz w' ∧
      ((∃ (x : Int) (a : Nat), e = .returned (.tuple #[.agg #[.slice none 0 0, .slice none 0 0], .int .i64 x, .int .i64 (a : Nat)]) ∧ x ≠ 0 ∧ BadK (chF R { data := #[] } n) 3 x a) ∨
       (∃ U : Lay, e = .returned (.tuple #[.agg #[.slice U.na U.n U.nc, .slice U.ea U.m U.ec], .int .i64 0, .int .i64 0]) ∧ U.In w'.heap.size w' ∧ TabK L ((List.range 3).map (chF R { data := #[] } n)) U))) := fun wz hz => by
    rw [hS]
    refine (compK_any HCP.out.rule3 wz hz).mono ?_
    rintro e w' ⟨hb, ⟨x, a, h1, h2, h3, _⟩ | ⟨U, h1, h2, h3, _⟩⟩
    · exact ⟨hb, .inl ⟨x, a, h1, h2, h3⟩⟩
    · exact ⟨hb, .inr ⟨U, h1, h2, h3⟩⟩
  clear hS
  go_wp2_with fail
  rw [← hW]
  clear hW
  refine Calls.mono HWR.out ?_
  rintro e w4 ⟨rfl, hb4⟩
  have HB4 : Hid (Below W.heap.size W w4) := hb4
  have HB34 : Hid (Below w3.heap.size w3 w4) := below_then HWB.out HB4.out
  have HIN4 : Hid (L.In w4.heap.size w4) := HIN3.out.later HB34.out
  have HRI4 : Hid (RulesIn w4.heap.size w4 (some ⟨w3.heap.size, 0, none⟩) 3 w3.heap.size 0 (chF R { data := #[] } n)) := HRI.out.later HB4.out
  have c0 : w4.cell? ⟨w2.heap.size, 0, none⟩ = some (.slice L.na L.n L.nc) := cellTo HB34.out b0 hz3
  have c1 : w4.cell? ⟨w2.heap.size, 1, none⟩ = some (.slice L.ea L.m L.ec) := cellTo HB34.out b1 hz3
  clear hb4 b0 b1
  go_wp2_with fail
  refine (HCC.out w4 HIN4.out).mono ?_
  rintro e w5 ⟨hb5, ⟨x, a, rfl, hx0, hbad⟩ | ⟨U, rfl, hinU, htab⟩⟩
  · have HB5 : Hid (Below w4.heap.size w4 w5) := hb5
    have hx0' : (x == (0 : Int)) = false := by simpa using hx0
    have HBK : Hid (BadK (chF R { data := #[] } n) 3 x a) := hbad
    clear hb5 hx0 hbad c0 c1
    go_wp2_with fail
    refine (refusal_any _ 3 _ _ 0 _ x a _ (HRI4.out.later (below_then HB5.out (below_one _))) HBK.out.1 HBK.out.2).mono ?_
    rintro e w6 ⟨rfl, hb6⟩
    go_wp2
    go_ret
    exact ⟨rfl, below_then HB3w.out (below_then HB34.out (below_then (below_then HB5.out (below_one _)) hb6))⟩
  · have HB5 : Hid (Below w4.heap.size w4 w5) := hb5
    have HTB : Hid (TabK L ((List.range 3).map (chF R { data := #[] } n)) U) := htab
    have HUI : Hid (U.In w5.heap.size w5) := hinU
    have HST : Hid (∀ (a b : ByteArray) (wz : World), U.In wz.heap.size wz → (a = R ∧ b = tX) ∨ (a = tX ∧ b = tY) ∨ (a = tY ∧ b = tZ) → Calls Try.prog 23 #[.agg #[.slice U.na U.n U.nc, .slice U.ea U.m U.ec], .string a, .string b, .int .i64 (n : Nat)] wz fun e w' => e = .returned (.bool true) ∧ Below wz.heap.size wz w') := fun a b wz hz hab => by
      obtain ⟨q0, q1, q2, q3, q4, q5, q6, q7⟩ := HCP.out.one HTB.out
      have hR24 : R.size ≤ 24 := by omega
      rcases hab with ⟨rfl, rfl⟩ | ⟨rfl, rfl⟩ | ⟨rfl, rfl⟩
      · exact stands_any U _ _ n wz hz q0 q1 q2 hR24 (by decide) hn1 hn3 q5
      · exact stands_any U _ _ n wz hz q0 q2 q3 (by decide) (by decide) hn1 hn3 q6
      · exact stands_any U _ _ n wz hz q0 q3 q4 (by decide) (by decide) hn1 hn3 q7
    obtain ⟨V, hV⟩ : ∃ V, V = w5.alloc (.cells #[.slice U.na U.n U.nc, .slice U.ea U.m U.ec] 27) := ⟨_, rfl⟩
    have HVB : Hid (Below w5.heap.size w5 V) := by show Below _ _ _; rw [hV]; exact below_one _
    have HVS : Hid (V.heap.size = w5.heap.size + 1) := by show _ = _; rw [hV]; simp
    have HVT : Hid (V.rowIs w5.heap.size 27 2 (fun j => #[Value.slice U.na U.n U.nc, .slice U.ea U.m U.ec].getD j undef)) := by show World.rowIs _ _ _ _ _; rw [hV]; exact row_new _ _ _ 2 rfl
    have hz45 : w4.heap.size ≤ w5.heap.size := HB5.out.size
    have hz34 : w3.heap.size ≤ w4.heap.size := HB34.out.size
    have v0 : V.cell? ⟨w5.heap.size, 0, none⟩ = some (.slice U.na U.n U.nc) := HVT.out.cell (i := 0) (by omega)
    have v1 : V.cell? ⟨w5.heap.size, 1, none⟩ = some (.slice U.ea U.m U.ec) := HVT.out.cell (i := 1) (by omega)
    have HL0 : Hid (w4.cell? ⟨w2.heap.size, 0, none⟩ = some (.slice L.na L.n L.nc) ∧ w4.cell? ⟨w2.heap.size, 1, none⟩ = some (.slice L.ea L.m L.ec)) := ⟨c0, c1⟩
    clear hb5 htab hinU c0 c1
    go_wp2_with fail
    rw [← hV]
    clear hV
    refine (HST.out _ _ V (HUI.out.later HVB.out) (.inl ⟨rfl, rfl⟩)).mono ?_
    rintro e w6 ⟨rfl, hb6⟩
    have HB6 : Hid (Below V.heap.size V w6) := hb6
    have hVw : w5.heap.size < V.heap.size := by rw [HVS.out]; omega
    have x0 : w6.cell? ⟨w5.heap.size, 0, none⟩ = some (.slice U.na U.n U.nc) := cellTo HB6.out v0 hVw
    have x1 : w6.cell? ⟨w5.heap.size, 1, none⟩ = some (.slice U.ea U.m U.ec) := cellTo HB6.out v1 hVw
    clear hb6 v0 v1
    go_wp2_with fail
    refine (HST.out _ _ w6 ((HUI.out.later HVB.out).later HB6.out) (.inr (.inl ⟨rfl, rfl⟩))).mono ?_
    rintro e w7 ⟨rfl, hb7⟩
    have HB7 : Hid (Below V.heap.size V w7) := below_then HB6.out hb7
    have y0 : w7.cell? ⟨w5.heap.size, 0, none⟩ = some (.slice U.na U.n U.nc) := cellTo HB7.out (HVT.out.cell (i := 0) (by omega)) hVw
    have y1 : w7.cell? ⟨w5.heap.size, 1, none⟩ = some (.slice U.ea U.m U.ec) := cellTo HB7.out (HVT.out.cell (i := 1) (by omega)) hVw
    clear hb7 x0 x1
    go_wp2_with fail
    refine (HST.out _ _ w7 ((HUI.out.later HVB.out).later HB7.out) (.inr (.inr ⟨rfl, rfl⟩))).mono ?_
    rintro e w8 ⟨rfl, hb8⟩
    have HB8 : Hid (Below V.heap.size V w8) := below_then HB7.out hb8
    clear hb8 y0 y1
    have HR2 : Hid (RuleL L (chG R { data := #[] } n) 2) := HCP.out.rule2
    have HB08 : Hid (Below w4.heap.size w4 w8) := below_then HB5.out (below_then HVB.out HB8.out)
    have hz8 : w5.heap.size < w8.heap.size := by have := HB8.out.size; omega
    obtain ⟨W2, hW2⟩ : ∃ W2, W2 = w8.alloc (.cells #[.string R, .int .i64 0, .int .i64 (n : Nat), .string { data := #[120] }, .string { data := #[] }, .string R, .int .i64 0, .int .i64 (n : Nat), .string { data := #[121] }, .string { data := #[] }] 48) := ⟨_, rfl⟩
    have HRI2 : Hid (RulesIn W2.heap.size W2 (some ⟨w8.heap.size, 0, none⟩) 2 w8.heap.size 0 (chG R { data := #[] } n)) := by
      show RulesIn _ _ _ _ _ _ _
      rw [hW2, size_one]
      exact rules2_new (f := chG R { data := #[] } n) w8 fun i hi => by
        have := HR2.out.first i hi
        obtain ⟨⟨⟨_, t1⟩, t2, t3, _⟩, _⟩ := this
        omega
    have HWB2 : Hid (Below w8.heap.size w8 W2) := by show Below _ _ _; rw [hW2]; exact below_one _
    obtain ⟨S2, hS2⟩ : ∃ S2, S2 = rlS (chG R { data := #[] } n) 2 := ⟨_, rfl⟩
    have HWR2 : Hid (Calls Try.prog 9 #[.slice (some ⟨w8.heap.size, 0, none⟩) 2 2] W2 fun e w' => e = .returned (.tuple #[.string S2, .int .i64 0]) ∧ Below W2.heap.size W2 w') := by rw [hS2]; exact writeK_any HR2.out _ 2 _ _ W2 HRI2.out
    have HCC2 : Hid (∀ wz, L.In wz.heap.size wz → Calls Try.prog 10 #[.agg #[.slice L.na L.n L.nc, .slice L.ea L.m L.ec], .string S2] wz fun e w' => ∃ U2 : Lay, e = .returned (.tuple #[.agg #[.slice U2.na U2.n U2.nc, .slice U2.ea U2.m U2.ec], .int .i64 0, .int .i64 0]) ∧ Below wz.heap.size wz w' ∧ TabK L ((List.range 2).map (chG R { data := #[] } n)) U2 ∧ (∀ wx : World, (∀ b, wz.heap.size ≤ b → b < w'.heap.size → wx.heap[b]? = w'.heap[b]?) → w'.heap.size ≤ wx.heap.size → U2.In wx.heap.size wx)) := fun wz hz => by
      rw [hS2]
      refine (compK_any HR2.out wz hz).mono ?_
      rintro e w' ⟨hb, ⟨x, a, _, _, _, h3⟩ | ⟨U2, h1, _, h3, h4⟩⟩
      · exact absurd h3 ((HCP.out.two HTB.out).1 _)
      · exact ⟨U2, h1, hb, h3, h4⟩
    clear hS2
    go_wp2_with fail
    rw [← hW2]
    clear hW2
    refine Calls.mono HWR2.out ?_
    rintro e w9 ⟨rfl, hb9⟩
    have HB9 : Hid (Below w8.heap.size w8 w9) := below_then HWB2.out hb9
    have HB49 : Hid (Below w4.heap.size w4 w9) := below_then HB08.out HB9.out
    have c0 : w9.cell? ⟨w2.heap.size, 0, none⟩ = some (.slice L.na L.n L.nc) := cellTo HB49.out HL0.out.1 (by show w2.heap.size < _; omega)
    have c1 : w9.cell? ⟨w2.heap.size, 1, none⟩ = some (.slice L.ea L.m L.ec) := cellTo HB49.out HL0.out.2 (by show w2.heap.size < _; omega)
    clear hb9
    go_wp2_with fail
    refine (HCC2.out w9 (HIN4.out.later HB49.out)).mono ?_
    rintro e w10 ⟨U2, rfl, hb10, htab2, hin2⟩
    have HB10 : Hid (Below w9.heap.size w9 w10) := hb10
    have HT2 : Hid (TabK L ((List.range 2).map (chG R { data := #[] } n)) U2) := htab2
    have HI2 : Hid (∀ wx : World, (∀ b, w9.heap.size ≤ b → b < w10.heap.size → wx.heap[b]? = w10.heap[b]?) → w10.heap.size ≤ wx.heap.size → U2.In wx.heap.size wx) := hin2
    have HVT10 : Hid (w10.rowIs w5.heap.size 27 2 (fun j => #[Value.slice U.na U.n U.nc, .slice U.ea U.m U.ec].getD j undef)) := (HVT.out.of_block ((below_then (below_then HB8.out HB9.out) HB10.out).block _ hVw))
    obtain ⟨fz0, fz1⟩ : w10.frozen? ⟨w5.heap.size, 0, none⟩ = false ∧ w10.frozen? ⟨w5.heap.size, 1, none⟩ = false := ⟨HVT10.out.frozen 0, HVT10.out.frozen 1⟩
    have x0 : w10.cell? ⟨w5.heap.size, 0, none⟩ = some (.slice U.na U.n U.nc) := HVT10.out.cell (i := 0) (by omega)
    have x1 : w10.cell? ⟨w5.heap.size, 1, none⟩ = some (.slice U.ea U.m U.ec) := HVT10.out.cell (i := 1) (by omega)
    clear hb10 htab2 hin2 c0 c1
    have HS2 : Hid (∀ (a b : ByteArray) (wz : World), U2.In wz.heap.size wz → (a = R ∧ b = tY) ∨ (a = tY ∧ b = tX) → Calls Try.prog 23 #[.agg #[.slice U2.na U2.n U2.nc, .slice U2.ea U2.m U2.ec], .string a, .string b, .int .i64 (n : Nat)] wz fun e w' => e = .returned (.bool true) ∧ Below wz.heap.size wz w') := fun a b wz hz hab => by
      obtain ⟨q0, q1, q2, q3, q4, q5⟩ := (HCP.out.two HTB.out).2 _ HT2.out
      have hR24 : R.size ≤ 24 := by omega
      rcases hab with ⟨rfl, rfl⟩ | ⟨rfl, rfl⟩
      · exact stands_any U2 _ _ n wz hz q0 q1 q3 hR24 (by decide) hn1 hn3 q4
      · exact stands_any U2 _ _ n wz hz q0 q3 q2 (by decide) (by decide) hn1 hn3 q5
    obtain ⟨Z, hZ⟩ : ∃ Z, Z = (w10.setCell ⟨w5.heap.size, 0, none⟩ (.slice U2.na U2.n U2.nc)).setCell ⟨w5.heap.size, 1, none⟩ (.slice U2.ea U2.m U2.ec) := ⟨_, rfl⟩
    have HZO : Hid (OnlyRow w5.heap.size w10 Z) := by show OnlyRow _ _ _; rw [hZ]; exact (OnlyRow.setCell _ _ _ _).trans (OnlyRow.setCell _ _ _ _)
    have HZR : Hid (Z.rowIs w5.heap.size 27 2 (fun j => #[Value.slice U2.na U2.n U2.nc, .slice U2.ea U2.m U2.ec].getD j undef)) := by
      show World.rowIs _ _ _ _ _
      rw [hZ]
      refine ((HVT10.out.set 0 _).set 1 _).congr fun j hj => ?_
      have : j = 0 ∨ j = 1 := by omega
      rcases this with rfl | rfl <;> rfl
    have hz9 : w8.heap.size ≤ w9.heap.size := HB9.out.size
    have HZI : Hid (U2.In Z.heap.size Z) := HI2.out Z (fun b hb _ => HZO.out.block b (by omega)) (Nat.le_of_eq HZO.out.size.symm)
    have hz5 : w.heap.size ≤ w5.heap.size := by have := HB3w.out.size; omega
    have HBZ : Hid (Below w.heap.size w Z) := HZO.out.below (below_then (below_then (below_then HB3w.out HB34.out) HB49.out) HB10.out) hz5
    have hzZ : w5.heap.size < Z.heap.size := HZR.out.lt
    go_wp2_with fail
    rw [← hZ]
    clear hZ
    refine (HS2.out _ _ Z HZI.out (.inl ⟨rfl, rfl⟩)).mono ?_
    rintro e w11 ⟨rfl, hb11⟩
    have HB11 : Hid (Below Z.heap.size Z w11) := hb11
    clear hb11 x0 x1 fz0 fz1
    have y0 : w11.cell? ⟨w5.heap.size, 0, none⟩ = some (.slice U2.na U2.n U2.nc) := cellTo HB11.out (HZR.out.cell (i := 0) (by omega)) hzZ
    have y1 : w11.cell? ⟨w5.heap.size, 1, none⟩ = some (.slice U2.ea U2.m U2.ec) := cellTo HB11.out (HZR.out.cell (i := 1) (by omega)) hzZ
    go_wp2_with fail
    refine (HS2.out _ _ w11 (HZI.out.later HB11.out) (.inr ⟨rfl, rfl⟩)).mono ?_
    rintro e w12 ⟨rfl, hb12⟩
    have HB12 : Hid (Below w.heap.size w w12) := below_then (below_then HBZ.out HB11.out) hb12
    clear hb12 y0 y1
    go_wp2
    go_ret
    exact ⟨rfl, HB12.out⟩

end Go.Proofs.Ytpclldccjpncdab

namespace Go.Proofs.Ytpclldccjpncdab
open Go.ChangeShapes Go.WideShapes Go.ChangeAt Go.RowKit
set_option linter.unusedVariables false

set_option maxRecDepth 100000 in
theorem chains_lifted (os : Os) (started : os.Started) (H : Type) (enc : TypeId × Value → H) :
    ReturnsInHanded {} Try.checked os 5 .any (Rows.chainsSpec.pre6 enc Try.prog Try.f5 Rows.chainsRow.domain false) (Rows.chainsSpec.post enc Try.prog Try.f5 false true false false) := by
  refine returnsInHanded_of_change_sized (C := Try.checked) keepKnob started (by kernel_rfl) Try.func5
    (ChangeSpec.witness6 (enc := enc) (C := Try.checked) false ⟨#[], #[.slice none 0 0, .slice none 0 0, .slice none 0 0, .int .i64 0], []⟩ 8 (by kernel_rfl) (by kernel_rfl) (by kernel_rfl) (by kernel_rfl)) ?_
  intro W base args ds gs before hval0 hW hcnd hsz0 _
  have hsz : (DataW.weightsEach Try.prog (Try.f5.params.toList ++ Rows.chainsSpec.plain.varTypes Try.prog) (ds ++ gs)).all (· ≤ reachBytes) = true := hsz0
  clear hsz0
  have hval : ∀ (j : Nat) t v, Try.f5.params[j]? = some t → args[j]? = some v → Value.okWide Try.prog W .any base t v := hval0
  have hW' := hW
  obtain ⟨p, q, hA0, hV, rfl, hfz, hnd⟩ := hW
  have hA : DataW.TrodAll enc Try.prog W 0 (fun _ => true) true Try.f5.params.toList args.toList ds p := hA0
  rw [Try.params5] at hA hval hsz
  obtain ⟨v0, vs0, d0, ds0, p0, q0, hargs, rfl, rfl, h0, r0⟩ := trodAll_cons hA
  obtain ⟨v1, vs1, d1, ds1, p1, q1, rfl, rfl, rfl, h1, r1⟩ := trodAll_cons r0
  obtain ⟨v2, vs2, d2, ds2, p2, q2, rfl, rfl, rfl, h2, r2⟩ := trodAll_cons r1
  obtain ⟨v3, vs3, d3, ds3, p3, q3, rfl, rfl, rfl, h3, r3⟩ := trodAll_cons r2
  obtain ⟨rfl, rfl, rfl⟩ := trodAll_nil r3
  obtain rfl : args = #[v0, v1, v2, v3] := by cases args; simp_all
  obtain ⟨rfl, rfl⟩ := trodVars_none hV
  obtain ⟨a0, len0, cap0, rfl⟩ := okWide_slice Try.underlying22 (hval 0 22 v0 rfl rfl)
  have k0 := h0
  have lt0 : ∀ x ∈ p0, x.block < W.heap.size := by obtain ⟨m, hm⟩ := k0; exact DataW.trod_lt m _ _ _ hm
  have hfit0 : Fit 22 d0 := fun m hm => by
    have := List.all_eq_true.1 hsz m (DataW.weights_mem_each (j := 0) (t := 22) rfl rfl m hm)
    exact of_decide_eq_true this
  obtain ⟨fuel0, hf0⟩ := h0
  obtain ⟨ao0, n0, c0, b0, off0, z0, hcs0, hin0⟩ := open_raw hf0 hfit0
  simp [Value.cells] at hcs0
  obtain ⟨rfl, rfl, rfl⟩ := hcs0
  obtain ⟨a1, len1, cap1, rfl⟩ := okWide_slice Try.underlying22 (hval 1 22 v1 rfl rfl)
  have k1 := h1
  have lt1 : ∀ x ∈ p1, x.block < W.heap.size := by obtain ⟨m, hm⟩ := k1; exact DataW.trod_lt m _ _ _ hm
  have hfit1 : Fit 22 d1 := fun m hm => by
    have := List.all_eq_true.1 hsz m (DataW.weights_mem_each (j := 1) (t := 22) rfl rfl m hm)
    exact of_decide_eq_true this
  obtain ⟨fuel1, hf1⟩ := h1
  obtain ⟨ao1, n1, c1, b1, off1, z1, hcs1, hin1⟩ := open_raw hf1 hfit1
  simp [Value.cells] at hcs1
  obtain ⟨rfl, rfl, rfl⟩ := hcs1
  obtain ⟨a2, len2, cap2, rfl⟩ := okWide_slice Try.underlying22 (hval 2 22 v2 rfl rfl)
  have k2 := h2
  have lt2 : ∀ x ∈ p2, x.block < W.heap.size := by obtain ⟨m, hm⟩ := k2; exact DataW.trod_lt m _ _ _ hm
  have hfit2 : Fit 22 d2 := fun m hm => by
    have := List.all_eq_true.1 hsz m (DataW.weights_mem_each (j := 2) (t := 22) rfl rfl m hm)
    exact of_decide_eq_true this
  obtain ⟨fuel2, hf2⟩ := h2
  obtain ⟨ao2, n2, c2, b2, off2, z2, hcs2, hin2⟩ := open_raw hf2 hfit2
  simp [Value.cells] at hcs2
  obtain ⟨rfl, rfl, rfl⟩ := hcs2
  have k3 := h3
  have lt3 : ∀ x ∈ p3, x.block < W.heap.size := by obtain ⟨m, hm⟩ := k3; exact DataW.trod_lt m _ _ _ hm
  obtain ⟨fuel3, hf3⟩ := h3
  obtain ⟨z3, rfl⟩ := okWide_int Try.underlying3 (hval 3 3 v3 rfl rfl)
  obtain ⟨y3, hcs3, _, hwf3⟩ := DataW.trod_int Try.underlying3 hf3
  simp [Value.cells] at hcs3
  have hin3 := wf_range hwf3
  rw [← hcs3] at hin3
  clear hA0 hval0
  refine (chains_any _ _ b0 off0 _ z0 _ _ b1 off1 _ z1 _ _ b2 off2 _ z2 z3 W hin0 hin1 hin2 hin3).mono fun e W' ⟨he, bel⟩ => ?_
  subst he
  exact ⟨_, rfl, _, _, _, [], _, [], hW', trodAll_mk1 (shut_bool Try.underlying4 _), (trodAll_cons_mk (Below.trod keepLaid (by kernel_rfl) (of_decide_eq_true (by kernel_rfl)) k0 bel lt0) (trodAll_cons_mk (Below.trod keepLaid (by kernel_rfl) (of_decide_eq_true (by kernel_rfl)) k1 bel lt1) (trodAll_cons_mk (Below.trod keepLaid (by kernel_rfl) (of_decide_eq_true (by kernel_rfl)) k2 bel lt2) (trodAll_cons_mk (Below.trod keepLaid (by kernel_rfl) (of_decide_eq_true (by kernel_rfl)) k3 bel lt3) trodAll_mk0)))), rfl, bel.frame _, fun h => by cases h⟩

theorem chains_over : Rows.chainsRow.holds Try.pinned (OpenSpec.ofChange Rows.chainsSpec) :=
  OpenClaim.holds_of_wide 5 Try.f5 rfl rfl rfl rfl rfl rfl rfl ⟨rfl, rfl, rfl, rfl, rfl⟩ rfl rfl rfl rfl rfl (by kernel_rfl) Try.func5 (by kernel_rfl)
    (of_decide_eq_true (by kernel_rfl)) (by unfold Func.isWrapper; first | (rw [if_pos (by decide +kernel)]; kernel_rfl) | (rw [if_neg (by decide +kernel)]; exact ⟨rfl, rfl⟩))
    (fun os started H enc _ => chains_lifted os started H enc)

theorem chains_proved : Rows.ChainsSaid := chains_over
#print axioms chains_proved
end Go.Proofs.Ytpclldccjpncdab
