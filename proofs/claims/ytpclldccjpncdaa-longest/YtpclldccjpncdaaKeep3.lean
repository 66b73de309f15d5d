import Derived.Test.YtpclldccjpncdaaKeep2
import Derived.Test.YtpclldccjpncdaaMadeW
import Derived.Test.YtpclldccjpncdaaPiecesW
import Derived.Test.YtpclldccjpncdaaKeepRaw
namespace Go.Proofs.Ytpclldccjpncdaa
open Go.RowKit

theorem made_raw (nk nc nb no : Nat) (na : Option Addr) (nz : Nat → Int) (ek ec eb eo : Nat) (ea : Option Addr) (ez : Nat → Int) (w : World)
    (hn : RawIn w.heap.size w na nk nb no nz) (he : RawIn w.heap.size w ea ek eb eo ez) : Calls Try.prog 8 #[.slice na nk nc, .slice ea ek ec] w (MadeRes w) :=
  made_any nk nc nb no na nz ek ec eb eo ea ez w hn.ints hn.range he.ints he.range
theorem spelled_24 (L : Lay) (rk rc rb ro : Nat) (ra : Option Addr) (rz : Nat → Int) (k : Nat) (w : World) (h : L.In w.heap.size w) (hm : L.m ≤ 48) (hk : 1 ≤ k ∧ k ≤ 12) (ho : ones L L.m = k) (hl : ∀ j, j < k → isText L.m L.tx (ltr j))
    (hr : RawIn w.heap.size w ra rk rb ro rz) :
    Calls Try.prog 9 #[.agg #[.slice L.na L.n L.nc, .slice L.ea L.m L.ec], .slice ra rk rc, .int .i64 24] w fun e w' => (∃ s, e = .returned (.string s) ∧ 1 ≤ s.size ∧ s.size ≤ 24 ∧ Spelt L s) ∧ Below w.heap.size w w' :=
  spelled_any L rk rc rb ro ra rz 24 k w h hm hk ho hl hr.ints hr.range (by omega)
/-- a text of letters that have an entry has pieces -/
theorem spelt_pos {L : Lay} {s : ByteArray} (h : Spelt L s) {q : Nat} (hq : Cut L.m L.tx s q) : pos L.m L.tx s q = s.size := by
  have h1 := pos_le L.m L.tx s q
  by_cases e : pos L.m L.tx s q < s.size
  · have := lenAt_max (n := 1) (by omega) (by omega) (by omega) (h _ e)
    have := hq.stop
    omega
  · omega
theorem pieces_spelt {L : Lay} {s : ByteArray} {v : Value} {er : Int} {w' : World} (he : L.err = 0) (hs : s.size ≤ 24) (h : Spelt L s) (ha : PiecesAns L s v er w') :
    ∃ q ao cap b off, er = 0 ∧ v = .slice ao q cap ∧ Cut L.m L.tx s q ∧ pos L.m L.tx s q = s.size ∧ StrsIn w'.heap.size w' ao q b off (piece L.m L.tx s) := by
  rcases ha with ⟨h1, _⟩ | ⟨_, h2, _⟩ | ⟨_, _, q, hq, ⟨h3, _⟩ | ⟨h3, h4, ao, cap, b, off, h5, h6⟩⟩
  · exact absurd he h1
  · omega
  · exact absurd (spelt_pos h hq) h3
  · exact ⟨q, ao, cap, b, off, h4, h5, hq, h3, h6⟩

theorem has_yes (L : Lay) (s : ByteArray) (w : World) (h : L.In w.heap.size w) (hm : L.m ≤ 48) (ht : isText L.m L.tx s) :
    Calls Try.prog 11 #[.agg #[.slice L.na L.n L.nc, .slice L.ea L.m L.ec], .string s] w fun e w' => e = .returned (.bool true) ∧ Below w.heap.size w w' := by
  rw [hasT_yes ht]; exact has_any L s w h hm
theorem has_no (L : Lay) (s : ByteArray) (w : World) (h : L.In w.heap.size w) (hm : L.m ≤ 48) (ht : ¬ isText L.m L.tx s) :
    Calls Try.prog 11 #[.agg #[.slice L.na L.n L.nc, .slice L.ea L.m L.ec], .string s] w fun e w' => e = .returned (.bool false) ∧ Below w.heap.size w w' := by
  rw [hasT_no ht]; exact has_any L s w h hm

set_option maxRecDepth 100000 in
set_option maxHeartbeats 2000000 in
theorem longest_any (nk nc nb no : Nat) (na : Option Addr) (nz : Nat → Int) (ek ec eb eo : Nat) (ea : Option Addr) (ez : Nat → Int) (xk xc xb xo : Nat) (xa : Option Addr) (xz : Nat → Int) (w : World)
    (hn : RawIn w.heap.size w na nk nb no nz) (he : RawIn w.heap.size w ea ek eb eo ez) (hx : RawIn w.heap.size w xa xk xb xo xz) :
    Calls Try.prog 3 #[.slice na nk nc, .slice ea ek ec, .slice xa xk xc] w fun e w' => e = .returned (.bool true) ∧ Below w.heap.size w w' := by
  have HN : Hid (RawIn w.heap.size w na nk nb no nz) := hn
  have HE : Hid (RawIn w.heap.size w ea ek eb eo ez) := he
  have HX : Hid (RawIn w.heap.size w xa xk xb xo xz) := hx
  clear hn he hx
  go_enter Try.func3, Try.ntmps3
  go_upto_region 2 with (go_at_call 8; refine (made_raw _ _ _ _ _ _ _ _ _ _ _ _ _ HN.out HE.out).mono ?_; rintro e w1 ⟨L, k, rfl, hin, herr, hk1, hk12, hl, ho, hb1⟩)
  have HB1 : Hid (Below w.heap.size w w1) := hb1
  have HIN : Hid (L.In w1.heap.size w1) := hin
  have HER : Hid (L.err = 0) := herr
  have hm : L.m ≤ 48 := (err_zero herr).m
  have HT : Hid (∀ j, j < k → isText L.m L.tx (ltr j)) := hl
  have HO : Hid (ones L L.m = k) := ho
  clear hb1 hin herr hl ho
  go_upto_region 3 with (go_at_call 9; refine (spelled_24 L _ _ _ _ _ _ k _ (HIN.out.later (below_one _)) hm ⟨hk1, hk12⟩ HO.out HT.out (HX.out.later (below_then HB1.out (below_one _)))).mono ?_; rintro e w2 ⟨⟨s, rfl, hs1, hs24, hsp⟩, hb2⟩)
  have HSP : Hid (Spelt L s) := hsp
  have HB2 : Hid (Below (w1.heap.size + 1) (w1.alloc (.cells #[.slice L.na L.n L.nc, .slice L.ea L.m L.ec] 26)) w2) := by show Below _ _ _; simpa using hb2
  clear hsp hb2
  have t0 : w2.cell? ⟨w1.heap.size, 0, none⟩ = some (.slice L.na L.n L.nc) := cellTo HB2.out ((row_new w1 #[.slice L.na L.n L.nc, .slice L.ea L.m L.ec] 26 2 rfl).cell (i := 0) (by omega)) (Nat.lt_succ_self _)
  have t1 : w2.cell? ⟨w1.heap.size, 1, none⟩ = some (.slice L.ea L.m L.ec) := cellTo HB2.out ((row_new w1 #[.slice L.na L.n L.nc, .slice L.ea L.m L.ec] 26 2 rfl).cell (i := 1) (by omega)) (Nat.lt_succ_self _)
  have hz2 : w1.heap.size + 1 ≤ w2.heap.size := by have := HB2.out.size; simpa using this
  have HI2 : Hid (L.In w2.heap.size w2) := (HIN.out.later (below_one _)).later (by simpa using HB2.out)
  go_upto_region 4 with (go_at_call 10; refine (pieces_any L s _ HI2.out).mono ?_; rintro e w3 ⟨v, er, rfl, hans, hb3⟩; obtain ⟨q, ao, cap, b, off, rfl, rfl, hq, hp, hst⟩ := pieces_spelt HER.out hs24 HSP.out hans)
  have HQ : Hid (Cut L.m L.tx s q) := hq
  have HP : Hid (pos L.m L.tx s q = s.size) := hp
  have HST : Hid (StrsIn w3.heap.size w3 ao q b off (piece L.m L.tx s)) := hst
  have hqs : q ≤ 24 := by have := pos_ge q hq.go; omega
  have HB3 : Hid (Below w.heap.size w w3) := below_then (below_then (below_then HB1.out (below_one _)) (by simpa using HB2.out)) hb3
  have u0 := cellTo hb3 t0 (by exact hz2)
  have u1 := cellTo hb3 t1 (by exact hz2)
  have hz3 : w1.heap.size + 1 ≤ w3.heap.size := by have := hb3.size; omega
  have HI3 : Hid (L.In w3.heap.size w3) := HI2.out.later hb3
  clear hq hp hst hans hb3 t0 t1 HI2 HB1 HB2 HIN
  go_wp2
  go_loopw [11, 12] (fun av iv wr => ∃ i : Nat, i ≤ q ∧ iv = .int .i64 (i : Nat) ∧ av = .int .i64 (pos L.m L.tx s i : Nat) ∧ Below w3.heap.size w3 wr) (fun _ iv _ => q - (intOf iv).toNat)
  case atStart => exact ⟨0, Nat.zero_le _, rfl, rfl, Below.refl _ _⟩
  case round =>
    obtain ⟨i, hi, rfl, rfl, hbel⟩ := hrel
    have hsz := hbel.size
    have t0 := cellTo hbel u0 (by exact hz3)
    have t1 := cellTo hbel u1 (by exact hz3)
    obtain ⟨pp, hpp⟩ : ∃ pp, pp = pos L.m L.tx s i := ⟨_, rfl⟩
    have HPP : Hid (pp = pos L.m L.tx s i) := hpp
    have hpl : pp ≤ s.size := by rw [hpp]; exact pos_le _ _ _ _
    rw [← hpp]
    clear hpp
    by_cases hlt : i < q
    · obtain ⟨nn, hnn⟩ : ∃ nn, nn = lenAt L.m L.tx s pp := ⟨_, rfl⟩
      have HNN : Hid (nn = lenAt L.m L.tx s pp) := hnn
      have hn0 : 0 < nn := by rw [hnn, HPP.out]; exact HQ.out.go i hlt
      have hnl := lenAt_le L.m L.tx s pp hpl
      rw [← hnn] at hnl
      obtain ⟨hn1, hn3⟩ := hnl
      clear hnn
      obtain ⟨pc, hpc⟩ : ∃ pc, pc = piece L.m L.tx s i := ⟨_, rfl⟩
      have hpe : pc = sub s pp nn := by rw [hpc, piece, ← HPP.out, ← HNN.out]
      have HPE : Hid (pc = sub s pp nn) := hpe
      have hps : pc.size = nn := by rw [hpe]; exact size_sub s pp nn hn1
      have HTX : Hid (isText L.m L.tx pc) := by show isText _ _ _; rw [hpe, HNN.out]; exact lenAt_text (by rw [← HNN.out]; exact hn0)
      have ha := HST.out.addr (by omega)
      subst ha
      have c0 := cellTo hbel (HST.out.cell i hlt) (HST.out.lt (by omega))
      rw [← hpc] at c0
      clear hpc hpe
      have hbz : b < wr.heap.size := by have := HST.out.lt (by omega); omega
      have ew : IntKind.i64.wrap ((pp : Int) + (nn : Int)) = (pp : Int) + (nn : Int) := IntWalk.i64_in _ (by omega)
      have d0 := Wb.cell (w := wr) (B := wr.heap.size) (by exact hbz) c0
      have heq : ((s.extract pp (pp + nn)).toList == pc.toList) = true := by rw [HPE.out]; simp [sub]
      have hnb : ((nn : Int) == 0) = false := by simp; omega
      have hgt : decide ((s.size : Int) < (pp : Int) + (nn : Int)) = false := by simp; omega
      have k1 : (0 : Int) ≤ (pp : Int) := by omega
      have k2 : (pp : Int) ≤ (pp : Int) + (nn : Int) := by omega
      have k3 : (pp : Int) + (nn : Int) ≤ (s.size : Int) := by omega
      have k4 : (0 : Int) ≤ (i : Int) := by omega
      have k5 : (i : Int) < (q : Int) := by omega
      go_wp2
      refine wp_region_below wr.heap.size (by kernel_rfl) (by kernel_rfl) ?_
      repeat (go_big_quiet_step (fail))
      refine wpQuiet_nil ?_
      rintro _ ⟨y, rfl⟩
      have hy := y.below
      generalize y.val = w4 at hy
      clear d0
      have h4 := cellTo hy t0 (by show _ < _; exact Nat.lt_of_lt_of_le (by exact hz3) hsz)
      have h5 := cellTo hy t1 (by show _ < _; exact Nat.lt_of_lt_of_le (by exact hz3) hsz)
      have h6 := cellTo hy c0 (by exact hbz)
      have HB4 : Hid (Below w3.heap.size w3 w4) := hbel.trans (hy.mono hsz)
      have hz4 : w1.heap.size < w4.heap.size := by have := hy.size; omega
      have hbz4 : b < w4.heap.size := by have := hy.size; omega
      have HI4 : Hid (∀ x : Wb w4.heap.size w4, L.In x.val.heap.size x.val) := fun x => (HI3.out.later HB4.out).later x.below
      clear t0 t1 c0 hy hbel hbz
      have d0 := Wb.cell (w := w4) (B := w4.heap.size) (by exact hz4) h4
      have d1 := Wb.cell (w := w4) (B := w4.heap.size) (by exact hz4) h5
      have d2 := Wb.cell (w := w4) (B := w4.heap.size) (by exact hbz4) h6
      go_wp2
      refine wp_region_below w4.heap.size (by kernel_rfl) (by kernel_rfl) ?_
      repeat (go_big_quiet_step ((go_at_call 11; exact Wb.ofCall _ (Nat.le_refl _) (has_yes L _ _ (HI4.out _) hm HTX.out))))
      refine wpQuiet_nil ?_
      rintro _ ⟨y, rfl⟩
      have hy := y.below
      generalize y.val = w5 at hy
      clear d0 d1 d2
      have t0 := cellTo hy h4 (by exact hz4)
      have t1 := cellTo hy h5 (by exact hz4)
      have HB5 : Hid (Below w3.heap.size w3 w5) := HB4.out.trans (hy.mono HB4.out.size)
      have hz5 : w1.heap.size < w5.heap.size := by have := hy.size; omega
      clear h4 h5 h6 HI4 HB4 hy hz4 hbz4 hnb hgt heq
      go_wp2
      go_loopw [15] (fun kv wr => ∃ kk : Nat, nn + 1 ≤ kk ∧ kk ≤ 4 ∧ kv = .int .i64 (kk : Nat) ∧ Below w5.heap.size w5 wr) (fun kv _ => 4 - (intOf kv).toNat)
      case atStart => exact ⟨nn + 1, by omega, by omega, by go_num, Below.refl _ _⟩
      case round =>
        rename World => ws
        obtain ⟨kk, hkn, hk4, rfl, hbs⟩ := hrel
        have hss := hbs.size
        have h4 := cellTo hbs t0 (by exact hz5)
        have h5 := cellTo hbs t1 (by exact hz5)
        have hzs : w1.heap.size < ws.heap.size := by omega
        by_cases hlk : kk ≤ 3 ∧ pp + kk ≤ s.size
        · obtain ⟨hl1, hl2⟩ := hlk
          have HNO : Hid (¬ isText L.m L.tx (s.extract pp (pp + kk))) := fun h => by
            have := lenAt_max (n := kk) hl1 (by omega) hl2 h
            rw [← HNN.out] at this
            omega
          have HIS : Hid (∀ x : Wb ws.heap.size ws, L.In x.val.heap.size x.val) := fun x => ((HI3.out.later HB5.out).later hbs).later x.below
          have d0 := Wb.cell (w := ws) (B := ws.heap.size) (by exact hzs) h4
          have d1 := Wb.cell (w := ws) (B := ws.heap.size) (by exact hzs) h5
          have ek : IntKind.i64.wrap ((pp : Int) + (kk : Int)) = (pp : Int) + (kk : Int) := IntWalk.i64_in _ (by omega)
          have m2 : (pp : Int) ≤ (pp : Int) + (kk : Int) := by omega
          have m3 : (pp : Int) + (kk : Int) ≤ (s.size : Int) := by omega
          go_wp2
          refine wp_region_below ws.heap.size (by kernel_rfl) (by kernel_rfl) ?_
          repeat (go_big_quiet_step ((go_at_call 11; exact Wb.ofCall _ (Nat.le_refl _) (has_no L _ _ (HIS.out _) hm HNO.out))))
          refine wpQuiet_nil ?_
          rintro _ ⟨y, rfl⟩
          have hy := y.below
          generalize y.val = w6 at hy
          clear d0 d1 h4 h5 HIS
          have HB6 : Hid (Below w5.heap.size w5 w6) := hbs.trans (hy.mono hss)
          clear hy hbs
          go_wp2
          go_roundw
          case rel => exact ⟨kk + 1, by omega, by omega, by go_num, HB6.out⟩
          case measure => simp [intOf]; omega
        · have HLK : Hid (¬ (kk ≤ 3 ∧ pp + kk ≤ s.size)) := hlk
          clear hlk
          go_upto_region 17 with (fail)
          go_cut [84] from 75 to 95 (fun b wc => b = .bool false ∧ wc = ws)
          case first =>
            by_cases hk : kk ≤ 3
            · have hk2 : ¬ pp + kk ≤ s.size := fun h => HLK.out ⟨hk, h⟩
              go_wp2
              go_meet
              exact ⟨by simp <;> omega, rfl⟩
            · go_wp2
              go_meet
              exact ⟨by simp <;> omega, rfl⟩
          case rest =>
            obtain ⟨rfl, hwc⟩ := hcut
            rename World => wy
            subst hwc
            have HBE : Hid (Below w3.heap.size w3 wy) := HB5.out.trans (hbs.mono HB5.out.size)
            clear h4 h5 hbs
            go_wp2
            go_roundw
            case rel => exact ⟨i + 1, by omega, by go_num, by rw [pos, ← HPP.out, ← HNN.out]; go_num, HBE.out⟩
            case measure => simp [intOf]; omega
    · have hie : i = q := by omega
      have hpe : pp = s.size := by rw [HPP.out, hie]; exact HP.out
      clear hie
      subst hpe
      go_wp2
      go_ret
      exact ⟨by simp, HB3.out.trans (hbel.mono HB3.out.size)⟩

end Go.Proofs.Ytpclldccjpncdaa
