import Derived.Test.YtpclldccjpncdaaWrtP
namespace Go.Proofs.Ytpclldccjpncdaa
open Go.RowKit

theorem range_getD (L : List Rl) : (List.range L.length).map (fun i => L.getD i default) = L := by
  apply List.ext_getElem
  · simp
  · intro i h1 h2
    rw [List.getElem_map, List.getElem_range, List.getD_eq_getElem?_getD, List.getElem?_eq_getElem h2]
    rfl
theorem has_str {l : List Int} (h : ∀ x ∈ l, 0 ≤ x ∧ x ≤ 255) : Has (strOfNums l) 0 l := ⟨by rw [strOfNums_size]; omega, fun k hk => by rw [Nat.zero_add]; exact bt_strS l h k hk⟩
theorem spaced (l : List Int) : ({ data := #[32, 32] } : ByteArray) ++ strOfNums l ++ { data := #[32] } = strOfNums ([32, 32] ++ l ++ [32]) := by
  rw [str_app, str_app]
  rfl
theorem back_plain {f : Nat → Rl} {n : Nat} (hf : ∀ j, j < n → (f j).first j) (hl : (rls f n).length ≤ 120) : rdAll (strOfNums (rls f n)) = ((List.range n).map f, 0, 0) := by
  refine rls_all (i := 0) hf (by rw [strOfNums_size]; exact hl) (has_str (rls_in f n)) (fun k hk => by omega) (fun k h1 h2 => ?_)
  rw [strOfNums_size] at h2
  omega
theorem back_spaced {f : Nat → Rl} {n : Nat} (hf : ∀ j, j < n → (f j).first j) (hl : (rls f n).length ≤ 117) : rdAll (({ data := #[32, 32] } : ByteArray) ++ strOfNums (rls f n) ++ { data := #[32] }) = ((List.range n).map f, 0, 0) := by
  rw [spaced]
  have hin : ∀ x ∈ [32, 32] ++ rls f n ++ [32], (0 : Int) ≤ x ∧ x ≤ 255 := app_in (app_in (by decide) (rls_in f n)) (by decide)
  have hh := has_str hin
  have hsz : (strOfNums ([32, 32] ++ rls f n ++ [32])).size = (rls f n).length + 3 := by
    rw [strOfNums_size]
    simp
  refine rls_all (i := 2) hf (by rw [hsz]; omega) ?_ (fun k hk => ?_) (fun k h1 h2 => ?_)
  · have := hh.left.right
    simpa using this
  · have h2 := hh.left.left.2 k hk
    have : k = 0 ∨ k = 1 := by omega
    rcases this with rfl | rfl
    · have : (bt (strOfNums ([32, 32] ++ rls f n ++ [32])) 0 : Int) = 32 := by simpa using h2
      omega
    · have : (bt (strOfNums ([32, 32] ++ rls f n ++ [32])) 1 : Int) = 32 := by simpa using h2
      omega
  · rw [hsz] at h2
    have hk : k = 2 + (rls f n).length := by omega
    have h3 := hh.right.head.2
    have e : 0 + ([32, 32] ++ rls f n : List Int).length = k := by rw [hk]; simp; omega
    rw [e] at h3
    omega
theorem small_ok {x : Rl} (h : x.ok) : x.small := by
  obtain ⟨⟨_, h1⟩, h2, h3, _⟩ := h
  exact ⟨by omega, by omega, by omega⟩

set_option maxRecDepth 100000 in
set_option maxHeartbeats 2000000 in
theorem written_any (ao : Option Addr) (n cap b off : Nat) (f : Nat → Rl) (w : World) (h : RulesIn w.heap.size w ao n b off f) (h64 : ∀ i, i < n → (f i).in64) :
    Calls Try.prog 7 #[.slice ao n cap] w fun e w' => e = .returned (.bool true) ∧ Below w.heap.size w w' := by
  have HR : Hid (RulesIn w.heap.size w ao n b off f) := h
  have H64 : Hid (∀ i, i < n → (f i).in64) := h64
  clear h h64
  go_enter Try.func7, Try.ntmps7
  go_wp2_with fail
  refine (proper_any ao n cap b off f w HR.out H64.out).mono ?_
  rintro e w1 ⟨L, v, rfl, HL, HO, hb1⟩
  obtain ⟨⟨hl1, hl2⟩, hfirst⟩ := HL.out
  have hsm : ∀ x ∈ L, x.small := fun x hx => by
    obtain ⟨j, hj, rfl⟩ := List.getElem_of_mem hx
    have := (hfirst j hj).1
    rw [List.getD_eq_getElem?_getD, List.getElem?_eq_getElem hj] at this
    exact small_ok this
  obtain ⟨a1, bk1, c1, hv, hin⟩ := rules_in HO.out (by omega) hsm
  subst hv
  obtain ⟨g, hg⟩ : ∃ g, g = fun i => L.getD i default := ⟨_, rfl⟩
  have hf2 : ∀ j, j < L.length → (g j).first j := by rw [hg]; exact hfirst
  have hmap : (List.range L.length).map g = L := by rw [hg]; exact range_getD L
  rw [← hg] at hin
  have hlen : (rls g L.length).length ≤ 90 := by
    have := rls_len (f := g) L.length fun i hi => (hf2 i hi).1
    omega
  obtain ⟨s0, hs0⟩ : ∃ s, s = strOfNums (rls g L.length) := ⟨_, rfl⟩
  have hsz0 : s0.size ≤ 90 := by rw [hs0, strOfNums_size]; exact hlen
  obtain ⟨hw1, hw2⟩ := wr_ok hf2 (by omega)
  have HP : Hid (rdAll s0 = (L, 0, 0)) := by show _ = _; rw [hs0, back_plain hf2 (by omega), hmap]
  obtain ⟨s1, hs1⟩ : ∃ s, s = ({ data := #[32, 32] } : ByteArray) ++ s0 ++ { data := #[32] } := ⟨_, rfl⟩
  have HQ : Hid (rdAll s1 = (L, 0, 0)) := by show _ = _; rw [hs1, hs0, back_spaced hf2 (by omega), hmap]
  obtain ⟨k, hk⟩ : ∃ k, k = L.length := ⟨_, rfl⟩
  have HIN : Hid (RulesIn w1.heap.size w1 a1 k bk1 0 g) := by show RulesIn _ _ _ _ _ _ _; rw [hk]; exact hin
  have HWR : Hid (∀ (wz : World) (ao : Option Addr) (cap b : Nat), RulesIn wz.heap.size wz ao k b 0 g → Calls Try.prog 23 #[.slice ao k cap] wz fun e w' => e = .returned (.tuple #[.string s0, .int .i64 0]) ∧ Below wz.heap.size wz w') := fun wz ao cap b hr => by
    have := write_any ao k cap b 0 g wz hr
    rw [hk] at this
    rw [hw1, hw2, ← hs0, ← hk] at this
    exact this
  have HRD : Hid (∀ (s : ByteArray), rdAll s = (L, 0, 0) → s.size ≤ 100 → ∀ wz : World, Calls Try.prog 24 #[.string s] wz fun e w' => ∃ (ao : Option Addr) (cap b : Nat), e = .returned (.tuple #[.slice ao k cap, .int .i64 0, .int .i64 0]) ∧ Hid (RulesIn w'.heap.size w' ao k b 0 g) ∧ Below wz.heap.size wz w') := fun s hs hsz wz => by
    refine (read_any s wz (by omega)).mono ?_
    rintro e w' ⟨M, v, a, er, rfl, HE, HO', hb⟩
    have heq : (L, (0 : Int), 0) = (M, er, a) := by rw [← hs, HE.out.1]
    have hM : L = M := by injection heq
    have her : (0 : Int) = er := by injection heq with _ h; injection h
    have ha : 0 = a := by injection heq with _ h; injection h
    subst hM
    subst her
    subst ha
    obtain ⟨ao, b, cap, hv, hin'⟩ := rules_in HO'.out (by omega) hsm
    subst hv
    refine ⟨ao, cap, b, by rw [hk]; rfl, ?_, hb⟩
    show RulesIn _ _ _ _ _ _ _
    rw [hk, hg]
    exact hin'
  have HB1 : Hid (Below w.heap.size w w1) := hb1
  have hs1z : s1.size ≤ 93 := by rw [hs1, ByteArray.size_append, ByteArray.size_append]; show 2 + s0.size + 1 ≤ _; omega
  rw [← hk]
  have HS1 : Hid (s1 = ({ data := #[32, 32] } : ByteArray) ++ s0 ++ { data := #[32] }) := hs1
  have h32 : ({ data := #[32] } : ByteArray).size = 1 := rfl
  have h3232 : ({ data := #[32, 32] } : ByteArray).size = 2 := rfl
  have hk2 : k ≤ 2 := by omega
  clear hl1 hl2 hfirst hsm hin hg hf2 hmap hlen hs0 hw1 hw2 hs1 hk hb1
  go_wp2_with fail
  refine (HWR.out w1 a1 c1 bk1 HIN.out).mono ?_
  rintro e w2 ⟨rfl, hb2⟩
  have HI2 : Hid (RulesIn w2.heap.size w2 a1 k bk1 0 g) := HIN.out.later hb2
  have HB2 : Hid (Below w.heap.size w w2) := below_then HB1.out hb2
  clear hb2
  go_wp2_with fail
  refine (HRD.out s0 HP.out (by omega) w2).mono ?_
  rintro e w3 ⟨a3, c3, bk3, rfl, HI3, hb3⟩
  have HL3 : Hid (RulesIn w3.heap.size w3 a1 k bk1 0 g) := HI2.out.later hb3
  have HB3 : Hid (Below w.heap.size w w3) := below_then HB2.out hb3
  clear hb3
  go_wp2_with fail
  refine (keepRules_any k bk3 0 bk1 0 c3 c1 a3 a1 g w3 HI3.out HL3.out).mono ?_
  rintro e w4 ⟨rfl, hb4⟩
  have HL4 : Hid (RulesIn w4.heap.size w4 a1 k bk1 0 g) := HL3.out.later hb4
  have HM4 : Hid (RulesIn w4.heap.size w4 a3 k bk3 0 g) := HI3.out.later hb4
  have HB4 : Hid (Below w.heap.size w w4) := below_then HB3.out hb4
  clear hb4
  go_wp2_with fail
  rw [← HS1.out]
  refine (HRD.out s1 HQ.out (by omega) w4).mono ?_
  rintro e w5 ⟨a5, c5, bk5, rfl, HI5, hb5⟩
  have HL5 : Hid (RulesIn w5.heap.size w5 a1 k bk1 0 g) := HL4.out.later hb5
  have HM5 : Hid (RulesIn w5.heap.size w5 a3 k bk3 0 g) := HM4.out.later hb5
  have HB5 : Hid (Below w.heap.size w w5) := below_then HB4.out hb5
  clear hb5
  go_wp2_with fail
  refine (keepRules_any k bk5 0 bk1 0 c5 c1 a5 a1 g w5 HI5.out HL5.out).mono ?_
  rintro e w6 ⟨rfl, hb6⟩
  have HM6 : Hid (RulesIn w6.heap.size w6 a3 k bk3 0 g) := HM5.out.later hb6
  have HB6 : Hid (Below w.heap.size w w6) := below_then HB5.out hb6
  clear hb6
  go_wp2_with fail
  refine (HWR.out w6 a3 c3 bk3 HM6.out).mono ?_
  rintro e w7 ⟨rfl, hb7⟩
  have HB7 : Hid (Below w.heap.size w w7) := below_then HB6.out hb7
  clear hb7
  go_wp2
  go_ret
  exact ⟨rfl, HB7.out⟩

end Go.Proofs.Ytpclldccjpncdaa
