import Derived.Test.YtpclldccjpncdaaRdU
namespace Go.Proofs.Ytpclldccjpncdaa
open Go.RowKit

theorem tkK_eq {s : ByteArray} {i : Nat} {k : Nat} (h1 : 1 ≤ k) (h5 : k ≤ 5) : tkK (tk s i) = k ↔ (tk s i).kind = k := by
  unfold tkK
  constructor
  · intro h
    split at h
    · exact h
    · omega
  · intro h
    rw [h, if_pos (by omega)]
theorem tkF_eq {s : ByteArray} {i : Nat} (h : (tk s i).kind ≤ 5) : tkF (tk s i) = (tk s i).fin := by unfold tkF; rw [if_pos (by omega)]
theorem tk_lim {s : ByteArray} {i : Nat} (hi : i ≤ s.size) : (tk s i).at' ≤ s.size ∧ tkF (tk s i) ≤ s.size ∧ tkK (tk s i) ≤ 5 ∧ (tk s i).n ≤ 3 ∧ (tk s i).tx.length ≤ s.size := by
  refine ⟨by rw [tk_at]; exact skp_le hi, ?_, ?_, tkA_n s _, tkA_len⟩
  · unfold tkF
    split
    · next h => exact (tk_to (by omega)).2.1
    · omega
  · unfold tkK
    split <;> omega

set_option maxRecDepth 100000 in
set_option maxHeartbeats 2000000 in
theorem readPart_any (s : ByteArray) (i most : Nat) (w : World) (hs : s.size ≤ 1000) (hi : i ≤ s.size) (_hm : most ≤ 100) :
    Calls Try.prog 74 #[.string s, .int .i64 (i : Nat), .int .i64 (most : Nat)] w fun e w' => e = .returned (.tuple #[.string (rp s i most).1, .int .i64 ((rp s i most).2.1 : Nat), .int .i64 (rp s i most).2.2]) ∧ Below w.heap.size w w' := by
  have hlim := tk_lim hi
  obtain ⟨t, ht⟩ : ∃ t, t = tk s i := ⟨_, rfl⟩
  obtain ⟨kd, hkd⟩ : ∃ x, x = tkK (tk s i) := ⟨_, rfl⟩
  obtain ⟨kn, hkn⟩ : ∃ x, x = (tk s i).n := ⟨_, rfl⟩
  obtain ⟨tx, htx⟩ : ∃ x, x = strOfNums (tk s i).tx := ⟨_, rfl⟩
  obtain ⟨ka, hka⟩ : ∃ x, x = (tk s i).at' := ⟨_, rfl⟩
  obtain ⟨kf, hkf⟩ : ∃ x, x = tkF (tk s i) := ⟨_, rfl⟩
  have HC : Hid (∀ w, Calls Try.prog 73 #[.string s, .int .i64 (i : Nat)] w fun e w' => e = .returned (.agg #[.int .i64 (kd : Nat), .int .i64 (kn : Nat), .string tx, .int .i64 (ka : Nat), .int .i64 (kf : Nat)]) ∧ Below w.heap.size w w') := fun w => by rw [hkd, hkn, htx, hka, hkf]; exact tokenAt_any s i w hs hi
  have hts : tx.size = (tk s i).tx.length := by rw [htx, strOfNums_size]
  obtain ⟨pv, hpv⟩ : ∃ x, x = (rp s i most).1 := ⟨_, rfl⟩
  obtain ⟨pa, hpa⟩ : ∃ x, x = (rp s i most).2.1 := ⟨_, rfl⟩
  obtain ⟨pe, hpe⟩ : ∃ x, x = (rp s i most).2.2 := ⟨_, rfl⟩
  rw [← hpv, ← hpa, ← hpe]
  by_cases h5 : (tk s i).kind = 5
  · have hk5 : kd = 5 := by rw [hkd]; exact (tkK_eq (by omega) (by omega)).2 h5
    subst hk5
    by_cases hl : most < (tk s i).tx.length
    · have HE : Hid (pv = { data := #[] } ∧ pa = ka ∧ pe = 9) := by
        show _ ∧ _
        rw [hpv, hpa, hpe, hka]
        unfold rp
        rw [if_neg (not_not_intro h5), if_pos hl]
        exact ⟨rfl, rfl, rfl⟩
      have htl : most < tx.size := by omega
      have htl2 : tx.size ≤ 1000 := by omega
      clear hlim ht hkd hkn htx hka hkf hpv hpa hpe h5 hl hts
      go_enter Try.func74, Try.ntmps74
      go_wp2_with fail
      refine (HC.out _).mono ?_
      rintro e w1 ⟨rfl, hb1⟩
      go_wp2
      go_region
      all_goals
        go_wp2
        go_ret3
        exact ⟨by rw [HE.out.1, HE.out.2.1, HE.out.2.2]; rfl, (below_then hb1 (below_one _)).drew⟩
    · have HE : Hid (pv = tx ∧ pa = kf ∧ pe = 0) := by
        show _ ∧ _
        rw [hpv, hpa, hpe, htx, hkf, tkF_eq (by omega)]
        unfold rp
        rw [if_neg (not_not_intro h5), if_neg hl]
        exact ⟨rfl, rfl, rfl⟩
      have htl : tx.size ≤ most := by omega
      clear hlim ht hkd hkn htx hka hkf hpv hpa hpe h5 hl hts
      go_enter Try.func74, Try.ntmps74
      go_wp2_with fail
      refine (HC.out _).mono ?_
      rintro e w1 ⟨rfl, hb1⟩
      go_wp2
      go_region
      all_goals
        go_wp2
        go_ret3
        exact ⟨by rw [HE.out.1, HE.out.2.1, HE.out.2.2]; rfl, (below_then hb1 (below_one _)).drew⟩
  · have hk5 : kd ≠ 5 := fun h => h5 ((tkK_eq (by omega) (by omega)).1 (by rw [← hkd]; exact h))
    have hk5' : ((kd : Int) == 5) = false := beq_eq_false_iff_ne.2 (by omega)
    have HE : Hid (pv = { data := #[] } ∧ pa = ka ∧ pe = 8) := by
      show _ ∧ _
      rw [hpv, hpa, hpe, hka]
      unfold rp
      rw [if_pos h5]
      exact ⟨rfl, rfl, rfl⟩
    clear hlim ht hkd hkn htx hka hkf hpv hpa hpe h5 hts hk5
    go_enter Try.func74, Try.ntmps74
    go_wp2_with fail
    refine (HC.out _).mono ?_
    rintro e w1 ⟨rfl, hb1⟩
    go_wp2
    go_region
    all_goals
      go_wp2
      go_ret3
      exact ⟨by rw [HE.out.1, HE.out.2.1, HE.out.2.2]; rfl, (below_then hb1 (below_one _)).drew⟩

set_option maxHeartbeats 1000000 in
theorem relationFollows_any (s : ByteArray) (i : Nat) (w : World) (hs : s.size ≤ 1000) (hi : i ≤ s.size) :
    Calls Try.prog 65 #[.string s, .int .i64 (i : Nat)] w fun e w' => e = .returned (.bool (decide ((tk s i).kind = 3))) ∧ Below w.heap.size w w' := by
  obtain ⟨kd, hkd⟩ : ∃ x, x = tkK (tk s i) := ⟨_, rfl⟩
  obtain ⟨kn, hkn⟩ : ∃ x, x = (tk s i).n := ⟨_, rfl⟩
  obtain ⟨tx, htx⟩ : ∃ x, x = strOfNums (tk s i).tx := ⟨_, rfl⟩
  obtain ⟨ka, hka⟩ : ∃ x, x = (tk s i).at' := ⟨_, rfl⟩
  obtain ⟨kf, hkf⟩ : ∃ x, x = tkF (tk s i) := ⟨_, rfl⟩
  have HC : Hid (∀ w, Calls Try.prog 73 #[.string s, .int .i64 (i : Nat)] w fun e w' => e = .returned (.agg #[.int .i64 (kd : Nat), .int .i64 (kn : Nat), .string tx, .int .i64 (ka : Nat), .int .i64 (kf : Nat)]) ∧ Below w.heap.size w w') := fun w => by rw [hkd, hkn, htx, hka, hkf]; exact tokenAt_any s i w hs hi
  obtain ⟨bb, hbb⟩ : ∃ x, x = decide ((tk s i).kind = 3) := ⟨_, rfl⟩
  rw [← hbb]
  by_cases h3 : (tk s i).kind = 3
  · have hk3 : kd = 3 := by rw [hkd]; exact (tkK_eq (by omega) (by omega)).2 h3
    have hb3 : bb = true := by rw [hbb]; simp [h3]
    subst hk3
    subst hb3
    clear hkd hkn htx hka hkf hbb h3
    go_enter Try.func65, Try.ntmps65
    go_wp2_with fail
    refine (HC.out _).mono ?_
    rintro e w1 ⟨rfl, hb1⟩
    go_wp2
    go_ret
    exact ⟨rfl, below_then hb1 (below_one _)⟩
  · have hk3 : kd ≠ 3 := fun h => h3 ((tkK_eq (by omega) (by omega)).1 (by rw [← hkd]; exact h))
    have hk3' : ((kd : Int) == 3) = false := beq_eq_false_iff_ne.2 (by omega)
    have hb3 : bb = false := by rw [hbb]; simp [h3]
    subst hb3
    clear hkd hkn htx hka hkf hbb h3 hk3
    go_enter Try.func65, Try.ntmps65
    go_wp2_with fail
    refine (HC.out _).mono ?_
    rintro e w1 ⟨rfl, hb1⟩
    go_wp2
    go_ret
    exact ⟨rfl, below_then hb1 (below_one _)⟩

end Go.Proofs.Ytpclldccjpncdaa
