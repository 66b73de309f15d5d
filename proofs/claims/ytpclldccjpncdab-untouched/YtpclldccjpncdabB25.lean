import Derived.Test.YtpclldccjpncdabB24
namespace Go.Proofs.Ytpclldccjpncdab
open Go.RowKit

theorem cmpE_fine {L : Lay} {a b : ByteArray} (he : L.err = 0) (ha : hasP L a) (hb : hasP L b) (sa : a.size ≤ 24) (sb : b.size ≤ 24) {n : Nat} (h1 : 1 ≤ n) (h3 : n ≤ 3) : cmpE L a b (n : Int) = 0 ∧ cmpV L a b (n : Int) = cmpFrom L a b n 1 := by
  have h : cmpE L a b (n : Int) = 0 := by
    unfold cmpE
    rw [if_neg (by simp [he]), if_neg (by omega), if_neg (by omega), if_neg]
    rintro (h | h)
    · exact h ha
    · exact h hb
  refine ⟨h, ?_⟩
  unfold cmpV
  rw [if_neg (by simp [h]), Int.toNat_natCast]
set_option maxHeartbeats 1000000 in
theorem stands_any (U : Lay) (a b : ByteArray) (n : Nat) (w : World) (h : U.In w.heap.size w) (he : U.err = 0) (ha : hasP U a) (hb : hasP U b) (sa : a.size ≤ 24) (sb : b.size ≤ 24) (h1 : 1 ≤ n) (h3 : n ≤ 3) (hs : StandC U a b n) :
    Calls Try.prog 23 #[.agg #[.slice U.na U.n U.nc, .slice U.ea U.m U.ec], .string a, .string b, .int .i64 (n : Nat)] w fun e w' => e = .returned (.bool true) ∧ Below w.heap.size w w' := by
  have HC : Hid (∀ wz, Below w.heap.size w wz → Calls Try.prog 36 #[.agg #[.slice U.na U.n U.nc, .slice U.ea U.m U.ec], .string a, .string b, .int .i64 (n : Nat)] wz fun e w' => e = .returned (.int .i64 (-1)) ∧ Below wz.heap.size wz w') := fun wz hz => by
    refine (kcompare_any U a b n wz (h.later hz) (cmpE_fine he ha hb sa sb h1 h3)).mono ?_
    rintro e w' ⟨⟨r, rfl, hr⟩, hb'⟩
    exact ⟨by rw [hr.out, hs.1], hb'⟩
  have HD : Hid (2 ≤ n → ∀ wz, Below w.heap.size w wz → Calls Try.prog 36 #[.agg #[.slice U.na U.n U.nc, .slice U.ea U.m U.ec], .string a, .string b, .int .i64 ((n : Nat) - 1)] wz fun e w' => e = .returned (.int .i64 0) ∧ Below wz.heap.size wz w') := fun h2 wz hz => by
    have hc := cmpE_fine he ha hb sa sb (n := n - 1) (by omega) (by omega)
    have := kcompare_any U a b (n - 1) wz (h.later hz) hc
    rw [show (((n - 1 : Nat)) : Int) = (n : Int) - 1 by omega] at this
    refine this.mono ?_
    rintro e w' ⟨⟨r, rfl, hr⟩, hb'⟩
    exact ⟨by rw [hr.out, hs.2], hb'⟩
  clear h he ha hb sa sb hs
  by_cases h2 : 2 ≤ n
  · have hgt : (1 : Int) < (n : Nat) := by omega
    go_enter Try.func23, Try.ntmps23
    go_wp2_with fail
    refine (HC.out _ (below_one _)).mono ?_
    rintro e w1 ⟨rfl, hb1⟩
    have t0 : w1.cell? ⟨w.heap.size, 0, none⟩ = some (.slice U.na U.n U.nc) := cellTo hb1 ((row_new w #[.slice U.na U.n U.nc, .slice U.ea U.m U.ec] 27 2 rfl).cell (i := 0) (by omega)) (by simp)
    have t1 : w1.cell? ⟨w.heap.size, 1, none⟩ = some (.slice U.ea U.m U.ec) := cellTo hb1 ((row_new w #[.slice U.na U.n U.nc, .slice U.ea U.m U.ec] 27 2 rfl).cell (i := 1) (by omega)) (by simp)
    go_wp2_with fail
    refine (HD.out h2 _ (below_then (below_one _) hb1)).mono ?_
    rintro e w2 ⟨rfl, hb2⟩
    go_wp2
    go_ret
    exact ⟨rfl, below_then (below_then (below_one _) hb1) hb2⟩
  · have : n = 1 := by omega
    subst this
    go_enter Try.func23, Try.ntmps23
    go_wp2_with fail
    refine (HC.out _ (below_one _)).mono ?_
    rintro e w1 ⟨rfl, hb1⟩
    go_wp2
    go_ret
    exact ⟨rfl, below_then (below_one _) hb1⟩

end Go.Proofs.Ytpclldccjpncdab

namespace Go.Proofs.Ytpclldccjpncdab
open Go.RowKit

set_option maxRecDepth 100000 in
set_option maxHeartbeats 1000000 in
theorem ruleText_any (x : Rl) (w : World) (hok : x.ok) :
    Calls Try.prog 38 #[.agg #[.string x.reset, .int .i64 x.before, .int .i64 x.level, .string x.text, .string x.more]] w fun e w' => e = .returned (.string (strOfNums (rtx x))) ∧ Below w.heap.size w w' := by
  have HLN : Hid ((rt1 x).length ≤ 23 ∧ (rt2 x).length ≤ 9 ∧ (rt3 x).length ≤ 13) := rtx_len hok
  obtain ⟨y, hy⟩ : ∃ y, y = x := ⟨_, rfl⟩
  have HX : Hid (y = x) := hy
  rw [← hy] at HLN
  obtain ⟨⟨k1, k2⟩, k3, k4, ⟨k5, k6⟩, ⟨k7, k8⟩, k9⟩ := hok
  obtain ⟨kl, hkl⟩ : ∃ k : Nat, x.level = (k : Int) := ⟨x.level.toNat, by omega⟩
  obtain ⟨kb, hkb⟩ : ∃ k : Nat, x.before = (k : Int) := ⟨x.before.toNat, by omega⟩
  have hkl3 : kl ≤ 3 := by omega
  have hkb3 : kb ≤ 3 := by omega
  have HT1 : Hid (rt1 y = if x.reset.size = 0 then [] else [38] ++ beN kb ++ quo (blC x.reset)) := by show _ = _; rw [hy, rt1, hkb]; rfl
  have HT2 : Hid (rt2 y = sgN kl ++ quo (blC x.text)) := by show _ = _; rw [hy, rt2, hkl]; rfl
  have HT3 : Hid (rt3 y = if x.more.size = 0 then [] else [47] ++ quo (blC x.more)) := by show _ = _; rw [hy, rt3]
  rw [hkl, hkb]
  rw [← hy]
  rw [← hy] at HT1 HT2 HT3 k1 k2 k3 k4
  clear hkl hkb k5 k6 k7 k8 k9 hy HX
  obtain ⟨rs, hrs⟩ : ∃ z, z = y.reset := ⟨_, rfl⟩
  obtain ⟨tx, htx⟩ : ∃ z, z = y.text := ⟨_, rfl⟩
  obtain ⟨mo, hmo⟩ : ∃ z, z = y.more := ⟨_, rfl⟩
  rw [← hrs, ← htx, ← hmo]
  rw [← hrs] at HT1 k4
  rw [← htx] at HT2 k1 k2
  rw [← hmo] at HT3 k3
  clear hrs htx hmo
  obtain ⟨sg, hsg⟩ : ∃ z, z = strOfNums (sgN kl) := ⟨_, rfl⟩
  obtain ⟨bs, hbs⟩ : ∃ z, z = strOfNums (beN kb) := ⟨_, rfl⟩
  obtain ⟨qt, hqt⟩ : ∃ z, z = strOfNums (quo (blC tx)) := ⟨_, rfl⟩
  obtain ⟨qr, hqr⟩ : ∃ z, z = strOfNums (quo (blC rs)) := ⟨_, rfl⟩
  obtain ⟨qm, hqm⟩ : ∃ z, z = strOfNums (quo (blC mo)) := ⟨_, rfl⟩
  have CS : Hid (∀ wz, Calls Try.prog 52 #[.int .i64 (kl : Nat)] wz fun e w' => e = .returned (.string sg) ∧ w' = wz) := fun wz => by rw [hsg]; exact relationSign_any kl wz hkl3
  have CB : Hid (∀ wz, Calls Try.prog 54 #[.int .i64 (kb : Nat)] wz fun e w' => e = .returned (.string bs) ∧ w' = wz) := fun wz => by rw [hbs]; exact beforeSign_any kb wz hkb3
  have CT : Hid (∀ wz, Calls Try.prog 53 #[.string tx] wz fun e w' => e = .returned (.string qt) ∧ Below wz.heap.size wz w') := fun wz => by rw [hqt]; exact partText_any tx wz (by omega)
  have CR : Hid (∀ wz, Calls Try.prog 53 #[.string rs] wz fun e w' => e = .returned (.string qr) ∧ Below wz.heap.size wz w') := fun wz => by rw [hqr]; exact partText_any rs wz (by omega)
  have CM : Hid (∀ wz, Calls Try.prog 53 #[.string mo] wz fun e w' => e = .returned (.string qm) ∧ Below wz.heap.size wz w') := fun wz => by rw [hqm]; exact partText_any mo wz (by omega)
  have lsg : sg.size ≤ 3 := by rw [hsg, strOfNums_size]; exact sgN_len kl
  have lbs : bs.size ≤ 10 := by rw [hbs, strOfNums_size]; exact beN_len kb
  have lqt : qt.size ≤ 6 := by rw [hqt, strOfNums_size]; have := quo_len (blC tx); rw [blC_len] at this; omega
  have lqr : qr.size ≤ 12 := by rw [hqr, strOfNums_size]; have := quo_len (blC rs); rw [blC_len] at this; omega
  have lqm : qm.size ≤ 12 := by rw [hqm, strOfNums_size]; have := quo_len (blC mo); rw [blC_len] at this; omega
  have HE : Hid (sg = strOfNums (sgN kl) ∧ bs = strOfNums (beN kb) ∧ qt = strOfNums (quo (blC tx)) ∧ qr = strOfNums (quo (blC rs)) ∧ qm = strOfNums (quo (blC mo))) := ⟨hsg, hbs, hqt, hqr, hqm⟩
  have HRX : Hid (∀ wy, Below (w.heap.size + 1) (w.alloc (.cells #[Value.string rs, .int .i64 (kb : Nat), .int .i64 (kl : Nat), .string tx, .string mo] 48)) wy → wy.cell? ⟨w.heap.size, 0, none⟩ = some (.string rs) ∧ wy.cell? ⟨w.heap.size, 1, none⟩ = some (.int .i64 (kb : Nat)) ∧ wy.cell? ⟨w.heap.size, 2, none⟩ = some (.int .i64 (kl : Nat)) ∧ wy.cell? ⟨w.heap.size, 3, none⟩ = some (.string tx) ∧ wy.cell? ⟨w.heap.size, 4, none⟩ = some (.string mo)) := fun wy hy => by
    have hrow := (row_new w #[Value.string rs, .int .i64 (kb : Nat), .int .i64 (kl : Nat), .string tx, .string mo] 48 5 rfl)
    have hl : w.heap.size < w.heap.size + 1 := by omega
    exact ⟨cellTo hy (hrow.cell (i := 0) (by omega)) hl, cellTo hy (hrow.cell (i := 1) (by omega)) hl, cellTo hy (hrow.cell (i := 2) (by omega)) hl, cellTo hy (hrow.cell (i := 3) (by omega)) hl, cellTo hy (hrow.cell (i := 4) (by omega)) hl⟩
  clear hsg hbs hqt hqr hqm
  have h38 : ({ data := #[38] } : ByteArray).size = 1 := rfl
  have h47 : ({ data := #[47] } : ByteArray).size = 1 := rfl
  go_enter Try.func38, Try.ntmps38
  go_wp2_with fail
  refine (CS.out _).mono ?_
  rintro e w1 ⟨rfl, hw1⟩
  obtain rfl := hw1.symm
  go_wp2_with fail
  refine (CT.out _).mono ?_
  rintro e w2 ⟨rfl, hb2⟩
  simp only [size_one] at hb2
  have HB2 : Hid (Below (w.heap.size + 1) (w.alloc (.cells #[Value.string rs, .int .i64 (kb : Nat), .int .i64 (kl : Nat), .string tx, .string mo] 48)) w2) := hb2
  obtain ⟨x0, x1, x2, x3, x4⟩ := HRX.out w2 hb2
  have hz2 := hb2.size
  simp only [size_one] at hz2
  clear hb2
  go_upto_if 15 with (fail)
  go_cut [3, 4] from 13 to 27 (fun sv _ wc => ∃ r' : ByteArray, sv = .string r' ∧ Hid (r' = strOfNums (rt1 y ++ rt2 y)) ∧ Below w2.heap.size w2 wc)
  case first =>
    by_cases hre : rs.size = 0
    · have he : rs.toList.isEmpty = true := by rw [empty_iff]; simp [hre]
      have HRT : Hid (rt1 y = []) := by show _ = _; rw [HT1.out, if_pos hre]
      rw [he]
      clear he
      go_wp2
      go_meet
      exact ⟨_, rfl, (by show _ = _; rw [HRT.out, List.nil_append, HT2.out, str_app, ← HE.out.1, ← HE.out.2.2.1]), Below.refl _ _⟩
    · have he : rs.toList.isEmpty = false := by rw [empty_iff]; simp [hre]
      have HRT : Hid (rt1 y = [38] ++ beN kb ++ quo (blC rs)) := by show _ = _; rw [HT1.out, if_neg hre]
      rw [he]
      clear he
      go_wp2_with fail
      refine (CB.out _).mono ?_
      rintro e w3 ⟨rfl, hw3⟩
      obtain rfl := hw3.symm
      go_wp2_with fail
      refine (CR.out _).mono ?_
      rintro e w3 ⟨rfl, hb3⟩
      go_wp2
      go_meet
      refine ⟨_, rfl, ?_, hb3⟩
      show _ = _
      rw [HRT.out, HT2.out, str_app, str_app, str_app, str_app, ← HE.out.1, ← HE.out.2.1, ← HE.out.2.2.1, ← HE.out.2.2.2.1]
      rfl
  case rest =>
    rename World => wc
    obtain ⟨r', rfl, HR', hbc⟩ := hcut
    have HBC : Hid (Below w.heap.size w wc) := below_then (below_one _) (by simp only [size_one]; exact HB2.out.trans (hbc.mono hz2))
    obtain ⟨y0, y1, y2, y3, y4⟩ := HRX.out wc (HB2.out.trans (hbc.mono hz2))
    have hr'l : r'.size ≤ 32 := by
      have h2 := HLN.out
      rw [HR'.out, strOfNums_size, List.length_append]
      omega
    clear x0 x1 x2 x3 x4 hbc
    by_cases hme : mo.size = 0
    · have he : mo.toList.isEmpty = true := by rw [empty_iff]; simp [hme]
      have HRT : Hid (strOfNums (rtx y) = r') := by show _ = _; rw [rtx, HT3.out, if_pos hme, List.append_nil, HR'.out]
      go_wp2
      go_ret
      exact ⟨by rw [HRT.out]; rfl, HBC.out⟩
    · have he : mo.toList.isEmpty = false := by rw [empty_iff]; simp [hme]
      have HRT : Hid (strOfNums (rtx y) = r' ++ ({ data := #[47] } ++ qm)) := by show _ = _; rw [rtx, HT3.out, if_neg hme, str_app, ← HR'.out, str_app, ← HE.out.2.2.2.2]; rfl
      go_wp2_with fail
      refine (CM.out _).mono ?_
      rintro e w4 ⟨rfl, hb4⟩
      go_wp2
      go_ret
      exact ⟨by rw [HRT.out]; rfl, below_then HBC.out hb4⟩

set_option maxRecDepth 100000 in
set_option maxHeartbeats 1000000 in
theorem areRules_any (ao : Option Addr) (n cap b off : Nat) (f : Nat → Rl) (w : World) (h : RulesIn w.heap.size w ao n b off f) :
    Calls Try.prog 37 #[.slice ao n cap] w fun e w' => ∃ bb : Value, e = .returned bb ∧ Hid ((bb = .bool true ∧ ∀ i, i < n → (f i).first i) ∨ (bb = .bool false ∧ ∃ i, i < n ∧ ¬ (f i).first i)) ∧ Below w.heap.size w w' := by
  have HR : Hid (RulesIn w.heap.size w ao n b off f) := h
  have hle := h.le
  clear h
  by_cases h0 : n = 0
  · subst h0
    go_enter Try.func37, Try.ntmps37
    go_wp2
    go_loopw [3] (fun iv wr => iv = .int .i64 0 ∧ wr = w) (fun _ _ => 0)
    case atStart => exact ⟨rfl, rfl⟩
    case round =>
      obtain ⟨rfl, hw⟩ := hrel
      obtain rfl := hw.symm
      go_wp2
      go_ret
      exact ⟨.bool true, rfl, rfl, Below.refl _ _⟩
  · have c0 := HR.out.c0 0 (by omega)
    rw [Nat.zero_mul, Nat.add_zero] at c0
    have ha := HR.out.addr (by omega)
    subst ha
    obtain ⟨rs, hrs⟩ : ∃ z, z = (f 0).reset := ⟨_, rfl⟩
    rw [← hrs] at c0
    have HRS : Hid (rs = (f 0).reset) := hrs
    clear hrs
    by_cases hre : rs.size = 0
    · have he : rs.toList.isEmpty = true := by rw [empty_iff]; simp [hre]
      have HB : Hid (¬ (f 0).first 0) := fun hh => hh.2 rfl (by rw [← HRS.out]; exact hre)
      have hn0 : 0 < n := by omega
      go_enter Try.func37, Try.ntmps37
      go_wp2
      go_ret
      exact ⟨.bool false, rfl, .inr ⟨rfl, 0, hn0, HB.out⟩, Below.refl _ _⟩
    · have he : rs.toList.isEmpty = false := by rw [empty_iff]; simp [hre]
      have hn0 : 0 < n := by omega
      go_enter Try.func37, Try.ntmps37
      go_wp2
      clear c0
      go_loopw [3] (fun iv wr => ∃ i : Nat, Hid (∀ j, j < i → (f j).first j) ∧ i ≤ n ∧ iv = .int .i64 (i : Nat) ∧ Below w.heap.size w wr) (fun iv _ => n - (intOf iv).toNat)
      case atStart => exact ⟨0, fun j hj => by omega, Nat.zero_le _, rfl, Below.refl _ _⟩
      case round =>
        obtain ⟨i, HF, hi, rfl, hbel⟩ := hrel
        have hzr := hbel.size
        by_cases hlt : i < n
        · have hbb := HR.out.lt (by omega)
          have c0 := cellTo hbel (HR.out.c0 i hlt) hbb
          have c1 := cellTo hbel (HR.out.c1 i hlt) hbb
          have c2 := cellTo hbel (HR.out.c2 i hlt) hbb
          have c3 := cellTo hbel (HR.out.c3 i hlt) hbb
          have c4 := cellTo hbel (HR.out.c4 i hlt) hbb
          obtain ⟨x, hx⟩ : ∃ x, x = f i := ⟨_, rfl⟩
          have HX : Hid (x = f i) := hx
          have HFIT : Hid (x.reset.size ≤ 140737488351232 ∧ x.text.size ≤ 140737488351232 ∧ x.more.size ≤ 140737488351232) := by show _ ∧ _; rw [hx]; exact HR.out.fit i hlt
          rw [← hx] at c0 c1 c2 c3 c4
          clear hx
          go_wp2_with fail
          refine (ruleIsRule_any x _ HFIT.out).mono ?_
          rintro e w1 ⟨rfl, hb1⟩
          have HB1 : Hid (Below w.heap.size w w1) := below_then hbel hb1
          by_cases hok : x.ok
          · have HFN : Hid (∀ j, j < i + 1 → (f j).first j) := fun j hj => by
              by_cases e : j = i
              · subst e
                rw [← HX.out]
                exact ⟨hok, fun h0 => by subst h0; rw [HX.out, ← HRS.out]; exact hre⟩
              · exact HF.out j (by omega)
            have hd : decide x.ok = true := by simp [hok]
            rw [hd]
            clear hd hok c0 c1 c2 c3 c4 hb1
            go_wp2
            go_roundw
            case rel => exact ⟨i + 1, HFN.out, by omega, by go_num, HB1.out⟩
            case measure => simp [intOf]; omega
          · have HN : Hid (¬ (f i).first i) := fun hh => hok (by rw [HX.out]; exact hh.1)
            have hd : decide x.ok = false := by simp [hok]
            rw [hd]
            clear hd hok c0 c1 c2 c3 c4 hb1
            go_wp2
            go_ret
            exact ⟨.bool false, rfl, .inr ⟨rfl, i, hlt, HN.out⟩, HB1.out⟩
        · have hie : i = n := by omega
          subst hie
          go_wp2
          go_ret
          exact ⟨.bool true, rfl, .inl ⟨rfl, HF.out⟩, hbel⟩

theorem blC_nums (l : List Int) (h : ∀ x ∈ l, 0 ≤ x ∧ x ≤ 255) : blC (strOfNums l) = l := by
  rw [blC, strOfNums_data, List.map_map]
  refine (List.map_congr_left (g := id) fun x hx => ?_).trans (List.map_id _)
  obtain ⟨h0, h1⟩ := h x hx
  simp
  omega
theorem blC_in (s : ByteArray) : ∀ x ∈ blC s, 0 ≤ x ∧ x ≤ 255 := fun x hx => by
  rw [blC, List.mem_map] at hx
  obtain ⟨u, _, rfl⟩ := hx
  have := UInt8.toNat_lt u
  omega
theorem quo_in {l : List Int} (h : ∀ x ∈ l, 0 ≤ x ∧ x ≤ 255) : ∀ x ∈ quo l, 0 ≤ x ∧ x ≤ 255 := fun x hx => by
  rw [quo, List.mem_flatMap] at hx
  obtain ⟨c, hc, hx⟩ := hx
  have := h c hc
  split at hx
  · simp at hx
    omega
  · simp at hx
    omega
theorem sgN_in (n : Nat) : ∀ x ∈ sgN n, 0 ≤ x ∧ x ≤ 255 := by
  unfold sgN
  split <;> decide
theorem beNs_in (n : Nat) : ∀ x ∈ beN n, 0 ≤ x ∧ x ≤ 255 := by
  unfold beN
  split <;> decide
theorem app_in {a b : List Int} (ha : ∀ x ∈ a, 0 ≤ x ∧ x ≤ 255) (hb : ∀ x ∈ b, 0 ≤ x ∧ x ≤ 255) : ∀ x ∈ a ++ b, 0 ≤ x ∧ x ≤ 255 := fun x hx => by
  rcases List.mem_append.1 hx with h | h
  · exact ha x h
  · exact hb x h
theorem rtx_in (x : Rl) : ∀ y ∈ rtx x, 0 ≤ y ∧ y ≤ 255 := by
  unfold rtx
  refine app_in (app_in ?_ (app_in (sgN_in _) (quo_in (blC_in _)))) ?_
  · unfold rt1
    split
    · simp
    · exact app_in (app_in (by decide) (beNs_in _)) (quo_in (blC_in _))
  · unfold rt3
    split
    · simp
    · exact app_in (by decide) (quo_in (blC_in _))
theorem rls_in (f : Nat → Rl) : ∀ n, ∀ y ∈ rls f n, 0 ≤ y ∧ y ≤ 255
  | 0 => by simp [rls]
  | n + 1 => by rw [rls_snoc]; exact app_in (rls_in f n) (rtx_in _)
theorem rls_mono {f : Nat → Rl} {i : Nat} : ∀ n, i ≤ n → (rls f i).length ≤ (rls f n).length
  | 0, h => by rw [show i = 0 by omega]; exact Nat.le_refl _
  | n + 1, h => by
    by_cases e : i = n + 1
    · rw [e]; exact Nat.le_refl _
    · have := rls_mono (f := f) (i := i) n (by omega)
      rw [rls_snoc, List.length_append]
      omega

set_option maxRecDepth 100000 in
set_option maxHeartbeats 1000000 in
theorem ruleWrite_any (ao : Option Addr) (n cap b off : Nat) (f : Nat → Rl) (w : World) (h : RulesIn w.heap.size w ao n b off f) :
    Calls Try.prog 30 #[.slice ao n cap] w fun e w' => e = .returned (.tuple #[.string (wrV f n), .int .i64 (wrE f n)]) ∧ Below w.heap.size w w' := by
  obtain ⟨i0, hi0, hq0, hq1, hq2⟩ := info_parts infoByteC
  have HR : Hid (RulesIn w.heap.size w ao n b off f) := h
  have hle := h.le
  clear h
  go_enter Try.func30, Try.ntmps30
  go_wp2_with fail
  refine (areRules_any ao n cap b off f _ HR.out).mono ?_
  rintro e w1 ⟨bb, rfl, HBB, hb1⟩
  rcases HBB.out with ⟨rfl, hall⟩ | ⟨rfl, k, hk, hbad⟩
  · have HA : Hid (∀ i, i < n → (f i).first i) := hall
    have HB1 : Hid (Below w.heap.size w w1) := hb1
    have hz1 := hb1.size
    clear hall hb1
    go_wp2
    go_loopw [4, 5] (fun v iv wr => ∃ (i : Nat) (us : List Int), Hid (us = rls f i) ∧ us.length ≤ 120 ∧ i ≤ n ∧ iv = .int .i64 (i : Nat) ∧ Below w.heap.size w wr ∧ wr.ownsRow w.heap.size 5 1 v us.length (us.map (Value.int .u8))) (fun _ iv _ => n - (intOf iv).toNat)
    case atStart => exact ⟨0, [], rfl, by simp, Nat.zero_le _, rfl, HB1.out, World.ownsRow_nil _ _ _ _⟩
    case round =>
      obtain ⟨i, us, HUS, hul, hi, rfl, hbel, hown⟩ := hrel
      obtain ⟨vo9, vc9, hv9⟩ := ownC_shape hown
      subst hv9
      have HOW : Hid (wr.ownsRow w.heap.size 5 1 _ us.length (us.map (Value.int .u8))) := hown
      clear hown
      have hsz := hbel.size
      by_cases hlt : i < n
      · have hbb := HR.out.lt (by omega)
        have c0 := cellTo hbel (HR.out.c0 i hlt) hbb
        have c1 := cellTo hbel (HR.out.c1 i hlt) hbb
        have c2 := cellTo hbel (HR.out.c2 i hlt) hbb
        have c3 := cellTo hbel (HR.out.c3 i hlt) hbb
        have c4 := cellTo hbel (HR.out.c4 i hlt) hbb
        have ha := HR.out.addr (by omega)
        subst ha
        obtain ⟨x, hx⟩ : ∃ x, x = f i := ⟨_, rfl⟩
        obtain ⟨st, hst⟩ : ∃ st, st = strOfNums (rtx x) := ⟨_, rfl⟩
        obtain ⟨ts, hts⟩ : ∃ ts, ts = rtx x := ⟨_, rfl⟩
        have hokx : x.ok := by rw [hx]; exact (HA.out i hlt).1
        have hlx := rtx_len hokx
        have htl : ts.length ≤ 45 := by rw [hts, rtx, List.length_append, List.length_append]; omega
        have HRT : Hid (∀ wz, Calls Try.prog 38 #[.agg #[.string x.reset, .int .i64 x.before, .int .i64 x.level, .string x.text, .string x.more]] wz fun e w' => e = .returned (.string st) ∧ Below wz.heap.size wz w') := fun wz => by rw [hst]; exact ruleText_any x wz hokx
        rw [← hx] at c0 c1 c2 c3 c4
        have hsl : st.size = ts.length := by rw [hst, hts, strOfNums_size]
        have HSC : Hid (Go.Lib.strCells st = ts.map (Value.int .u8)) := by
          show _ = _
          rw [hst, hts, blC_cells]
          have hby : ∀ y ∈ rtx x, 0 ≤ y ∧ y ≤ 255 := rtx_in x
          rw [show blC (strOfNums (rtx x)) = rtx x from blC_nums _ hby]
        have HSN : Hid (rls f (i + 1) = us ++ ts) := by show _ = _; rw [rls_snoc, ← hx, ← hts, HUS.out]
        clear hx hst hts hlx hokx
        go_wp2_with fail
        refine (HRT.out _).mono ?_
        rintro e w2 ⟨rfl, hb2⟩
        have HB2 : Hid (Below w.heap.size w w2) := below_then hbel hb2
        have HO2 : Hid (w2.ownsRow w.heap.size 5 1 _ us.length (us.map (Value.int .u8))) := ownC_below HOW.out hb2
        have hz2 := hb2.size
        clear hb2 c0 c1 c2 c3 c4 HRT
        by_cases hL : 120 < us.length + ts.length
        · have HB : Hid (wrE f n = 4 ∧ wrV f n = { data := #[] }) := wr_long HA.out (by
            have := rls_mono (f := f) (i := i + 1) n (by omega)
            rw [HSN.out, List.length_append] at this
            omega)
          have hL' : (120 : Int) < (us.length : Int) + (st.size : Int) := by omega
          go_wp2
          go_ret2
          exact ⟨by rw [HB.out.1, HB.out.2]; rfl, HB2.out⟩
        · have hL' : (us.length : Int) + (st.size : Int) ≤ 120 := by omega
          go_wp2_with (first
            | (at_builtin; refine Go.Lib.wpList_append_own_string _ (by rfl) (.tmp 27) (.tmp 28) 69 9 (by rfl) w.heap.size 5 i0 Try.underlying69 Try.underlying9 hi0 hq0 hq1 hq2 _ us.length _ (by rfl) HO2.out st (by rfl) ?f1 ?f2 ?f3 ?_))
          case f1 => unfold maxLen; omega
          case f2 => omega
          case f3 => omega
          · intro v6 w6 hown6 hgrow6 _
            have HB6 : Hid (Below w.heap.size w w6) := ownC_grown_below HB2.out (by omega) HO2.out (Nat.le_refl _) hgrow6
            have HO6 : Hid (w6.ownsRow w.heap.size 5 1 v6 (us ++ ts).length ((us ++ ts).map (Value.int .u8))) := by
              show _
              rw [List.length_append, List.map_append, ← HSC.out]
              exact hown6
            clear hown6 hgrow6
            go_wp2
            go_roundw
            case rel => exact ⟨i + 1, us ++ ts, HSN.out.symm, by rw [List.length_append]; omega, by omega, by go_num, HB6.out, HO6.out⟩
            case measure => simp [intOf]; omega
      · have hie : i = n := by omega
        subst hie
        obtain ⟨vo8, vc8, hv8, hcv⟩ := convC HOW.out
        cases hv8
        have HB : Hid (wrE f i = 0 ∧ wrV f i = strOfNums us) := by
          have := wr_ok HA.out (by rw [← HUS.out]; omega)
          exact ⟨this.1, by rw [this.2, HUS.out]⟩
        go_wp2
        go_ret2
        exact ⟨by rw [HB.out.1, HB.out.2]; rfl, hbel⟩
  · have HB : Hid (wrE f n = 8 ∧ wrV f n = { data := #[] }) := wr_bad hk hbad
    clear hbad
    go_wp2
    go_ret2
    exact ⟨by rw [HB.out.1, HB.out.2]; rfl, hb1⟩

set_option maxHeartbeats 400000 in
theorem write_any (ao : Option Addr) (n cap b off : Nat) (f : Nat → Rl) (w : World) (h : RulesIn w.heap.size w ao n b off f) :
    Calls Try.prog 9 #[.slice ao n cap] w fun e w' => e = .returned (.tuple #[.string (wrV f n), .int .i64 (wrE f n)]) ∧ Below w.heap.size w w' := by
  obtain ⟨wv, hwv⟩ : ∃ x, x = wrV f n := ⟨_, rfl⟩
  obtain ⟨we, hwe⟩ : ∃ x, x = wrE f n := ⟨_, rfl⟩
  have HC : Hid (∀ w, RulesIn w.heap.size w ao n b off f → Calls Try.prog 30 #[.slice ao n cap] w fun e w' => e = .returned (.tuple #[.string wv, .int .i64 we]) ∧ Below w.heap.size w w') := fun w h => by rw [hwv, hwe]; exact ruleWrite_any ao n cap b off f w h
  have HH : Hid (RulesIn w.heap.size w ao n b off f) := h
  rw [← hwv, ← hwe]
  clear hwv hwe h
  go_enter Try.func9, Try.ntmps9
  go_wp2_with fail
  refine (HC.out _ HH.out).mono ?_
  rintro e w1 ⟨rfl, hb1⟩
  go_wp2
  go_ret2
  exact ⟨rfl, hb1⟩

end Go.Proofs.Ytpclldccjpncdab

namespace Go.Proofs.Ytpclldccjpncdab
open Go.RowKit

/-- its numbers are int's -/
def Rl.in64 (x : Rl) : Prop := (-9223372036854775808 ≤ x.before ∧ x.before ≤ 9223372036854775807) ∧ (-9223372036854775808 ≤ x.level ∧ x.level ≤ 9223372036854775807)

set_option maxHeartbeats 1000000 in
theorem some_any (s : ByteArray) (m : Int) (w : World) (hm : 0 ≤ m ∧ m ≤ 1000) :
    Calls Try.prog 18 #[.string s, .int .i64 m] w fun e w' => ∃ u : ByteArray, e = .returned (.string u) ∧ (u.size : Int) ≤ m ∧ w' = w := by
  obtain ⟨n, hn⟩ : ∃ n : Nat, m = (n : Int) := ⟨m.toNat, by omega⟩
  subst hn
  by_cases h : n < s.size
  · have hz : (s.extract 0 n).size ≤ n := by rw [ByteArray.size_extract]; omega
    go_enter Try.func18, Try.ntmps18
    go_wp2
    go_ret
    exact ⟨s.extract 0 n, rfl, by omega, rfl⟩
  · go_enter Try.func18, Try.ntmps18
    go_wp2
    go_ret
    exact ⟨s, rfl, by omega, rfl⟩

end Go.Proofs.Ytpclldccjpncdab

namespace Go.Proofs.Ytpclldccjpncdab
open Go.RowKit

set_option maxHeartbeats 1000000 in
theorem refusal_any (ao : Option Addr) (n cap b off : Nat) (f : Nat → Rl) (e : Int) (a : Nat) (w : World) (h : RulesIn w.heap.size w ao n b off f) (ha : a < n) (he : (e = 14 ∧ a = 0) ∨ e = 12 ∨ (e = 11 ∧ 0 < (f a).before)) :
    Calls Try.prog 11 #[.agg #[.slice none 0 0, .slice none 0 0], .int .i64 e, .int .i64 (a : Nat), .slice ao n cap] w fun e w' => e = .returned (.bool true) ∧ Below w.heap.size w w' := by
  have ha' : (a : Int) < (n : Nat) := by omega
  have ha0 : ¬ (n : Int) ≤ (a : Nat) := by omega
  have hadr := h.addr (by omega)
  have hlt := h.lt (by omega)
  have hc := cellTo (below_one (w := w) (.cells #[.slice none 0 0, .slice none 0 0] 27)) (h.c1 a ha) hlt
  subst hadr
  clear h
  rcases he with ⟨rfl, rfl⟩ | rfl | ⟨rfl, hb⟩
  · go_enter Try.func11, Try.ntmps11
    go_wp2
    go_ret
    exact ⟨rfl, below_one _⟩
  · go_enter Try.func11, Try.ntmps11
    go_wp2
    go_ret
    exact ⟨rfl, below_one _⟩
  · go_enter Try.func11, Try.ntmps11
    go_wp2
    go_ret
    exact ⟨rfl, below_one _⟩

end Go.Proofs.Ytpclldccjpncdab
