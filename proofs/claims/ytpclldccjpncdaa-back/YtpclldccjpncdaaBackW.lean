import Derived.Test.YtpclldccjpncdaaBackP
import Derived.Test.YtpclldccjpncdaaBackS
import Derived.Test.YtpclldccjpncdaaRefEnc
import Derived.Test.YtpclldccjpncdaaKeep3
namespace Go.Proofs.Ytpclldccjpncdaa
open Go.RowKit

theorem decode_bad (s : ByteArray) (w : World) (hs : s.size ≤ 140737488351232) (h : ¬ good s) :
    Calls Try.prog 19 #[.string s] w fun e w' => e = .returned (.tuple #[.agg #[.slice none 0 0, .slice none 0 0], .int .i64 7]) ∧ Below w.heap.size w w' := by
  refine (decode_any s w hs).mono ?_
  rintro e w' ⟨hb, h'⟩
  have h7 := decE_bad h
  rcases h' with ⟨h0, _⟩ | ⟨_, he⟩
  · omega
  · rw [h7] at he
    exact ⟨he, hb⟩
theorem decode_good {L : Lay} (s : ByteArray) (w : World) (hs : s.size ≤ 140737488351232) (h : Told1 L s) (he : L.err = 0) :
    Calls Try.prog 19 #[.string s] w fun e w' => ∃ M : Lay, e = .returned (.tuple #[.agg #[.slice M.na M.n M.nc, .slice M.ea M.m M.ec], .int .i64 0]) ∧ M.In w'.heap.size w' ∧ M.Twin L ∧ Below w.heap.size w w' := by
  refine (decode_any s w hs).mono ?_
  rintro e w' ⟨hb, h'⟩
  have h0 : decE s = 0 := by rw [decE_good h.good]; exact told_err h he
  rcases h' with ⟨_, no, nc, eo, ec, vs, cs, hee, ht⟩ | ⟨h1, _⟩
  · refine ⟨backL L no nc eo ec vs cs, ?_, back_in h (told_in ht), ⟨rfl, rfl, rfl, rfl, rfl, rfl, rfl, rfl⟩, hb⟩
    rw [h.n, h.m] at hee
    exact hee
  · exact absurd h0 h1
theorem encN_len {L : Lay} (hok : L.Ok) : 1 ≤ (encN L).length ∧ (encN L).length ≤ 600 := by
  have h1 := nds_len L L.n
  have h2 := ens_len hok L.m (Nat.le_refl _)
  have h3 := hok.n
  have h4 := hok.m
  simp [encN, h1]
  omega

set_option maxRecDepth 100000 in
set_option maxHeartbeats 2000000 in
theorem back_any (nk nc nb no : Nat) (na : Option Addr) (nz : Nat → Int) (ek ec eb eo : Nat) (ea : Option Addr) (ez : Nat → Int) (cut : Int) (w : World)
    (hn : RawIn w.heap.size w na nk nb no nz) (he : RawIn w.heap.size w ea ek eb eo ez) (hcut : -9223372036854775808 ≤ cut ∧ cut ≤ 9223372036854775807) :
    Calls Try.prog 6 #[.slice na nk nc, .slice ea ek ec, .int .i64 cut] w fun e w' => e = .returned (.bool true) ∧ Below w.heap.size w w' := by
  have HN : Hid (RawIn w.heap.size w na nk nb no nz) := hn
  have HE : Hid (RawIn w.heap.size w ea ek eb eo ez) := he
  have HCUT : Hid (-9223372036854775808 ≤ cut ∧ cut ≤ 9223372036854775807) := hcut
  clear hn he hcut
  go_enter Try.func6, Try.ntmps6
  go_wp2_with fail
  refine (made_raw _ _ _ _ _ _ _ _ _ _ _ _ _ HN.out HE.out).mono ?_
  rintro e w1 ⟨L, k, rfl, hin, herr, hk1, hk12, hl, ho, hb1⟩
  have hok := err_zero herr
  have htold := enc_told hok
  have hlen := encN_len hok
  obtain ⟨s, hs⟩ : ∃ s, s = strOfNums (encN L) := ⟨_, rfl⟩
  have hsz : s.size = (encN L).length := by rw [hs, strOfNums_size]
  rw [← hs] at htold
  have HT : Hid (Told1 L s) := htold
  have HER : Hid (L.err = 0) := herr
  have HIN : Hid (∀ wx, Below w1.heap.size w1 wx → L.In wx.heap.size wx) := fun wx hx => hin.later hx
  have HB1 : Hid (Below w.heap.size w w1) := hb1
  have HEN : Hid (∀ wx, Below w1.heap.size w1 wx → Calls Try.prog 18 #[.agg #[.slice L.na L.n L.nc, .slice L.ea L.m L.ec]] wx fun e w' => e = .returned (.tuple #[.string s, .int .i64 0]) ∧ Below wx.heap.size wx w') := fun wx hx => by
    have := encode_any L wx (hin.later hx)
    rw [encV_ok herr, ← hs, herr] at this
    exact this
  have hs1 : 1 ≤ s.size := by omega
  have hs6 : s.size ≤ 600 := by omega
  have hsL : s.size ≤ 140737488351232 := by omega
  clear hin herr hl ho hb1 hok htold hlen hs hsz hk1 hk12
  go_wp2_with fail
  refine (HEN.out _ (below_one _)).mono ?_
  rintro e w2 ⟨rfl, hb2⟩
  have HB2 : Hid (Below w1.heap.size w1 w2) := below_then (below_one _) hb2
  have hT2 : w2.rowIs w1.heap.size 26 2 (fun j => #[Value.slice L.na L.n L.nc, .slice L.ea L.m L.ec].getD j undef) := (row_new w1 #[Value.slice L.na L.n L.nc, .slice L.ea L.m L.ec] 26 2 rfl).of_block (hb2.block _ (by simp))
  have HT2 : Hid (w2.rowIs w1.heap.size 26 2 (fun j => #[Value.slice L.na L.n L.nc, .slice L.ea L.m L.ec].getD j undef)) := hT2
  clear hb2 hT2 HEN
  go_wp2_with fail
  refine (decode_good s _ hsL HT.out HER.out).mono ?_
  rintro e w3 ⟨M, rfl, hin3, htw, hb3⟩
  have HI3 : Hid (∀ wx, Below w3.heap.size w3 wx → M.In wx.heap.size wx) := fun wx hx => hin3.later hx
  have HTW : Hid (M.Twin L) := htw
  have HB3 : Hid (Below w2.heap.size w2 w3) := hb3
  have HT3 : Hid (w3.rowIs w1.heap.size 26 2 (fun j => #[Value.slice L.na L.n L.nc, .slice L.ea L.m L.ec].getD j undef)) := HT2.out.of_block (hb3.block _ HT2.out.lt)
  have t0 := HT3.out.cell (i := 0) (by omega)
  have t1 := HT3.out.cell (i := 1) (by omega)
  have tl := HT3.out.lt
  simp at t0 t1
  clear hin3 htw hb3 HT2
  go_wp2_with fail
  refine (keepTable_any M L _ (HI3.out _ (below_one _)) (HIN.out _ (below_then (below_then HB2.out HB3.out) (below_one _))) HTW.out).mono ?_
  rintro e w4 ⟨rfl, hb4⟩
  have HB4 : Hid (Below w3.heap.size w3 w4) := below_then (below_one _) hb4
  have h1b : (((s.size : Nat) : Int) == 0) = false := beq_eq_false_iff_ne.2 (by omega)
  clear hb4 t0 t1
  go_wp2_with fail
  refine (pick_any cut (s.size : Nat) _ HCUT.out ⟨by omega, by omega⟩).mono ?_
  rintro e w4' ⟨r, rfl, hr, hw⟩
  obtain rfl := hw.symm
  have hrs : r < s.size := by omega
  have HD1 : Hid (∀ wx, Calls Try.prog 19 #[.string (s.extract 0 r)] wx fun e w' => e = .returned (.tuple #[.agg #[.slice none 0 0, .slice none 0 0], .int .i64 7]) ∧ Below wx.heap.size wx w') := fun wx => decode_bad _ wx (by rw [ByteArray.size_extract]; omega) (short_bad HT.out.good hrs)
  go_wp2_with fail
  refine (HD1.out _).mono ?_
  rintro e w5 ⟨rfl, hb5⟩
  have HB5 : Hid (Below w4.heap.size w4 w5) := hb5
  clear hb5 HD1
  go_wp2_with fail
  refine (pick_any cut 256 _ HCUT.out ⟨by omega, by omega⟩).mono ?_
  rintro e w6 ⟨q, rfl, hq, hw6⟩
  have HB6 : Hid (Below w5.heap.size w5 w6) := by show Below _ _ _; rw [hw6]; exact below_one _
  have hq' : q ≤ 255 := by omega
  have v1 := convN (w0 := w6) [(q : Int)] #[.int .u8 q] rfl rfl
  obtain ⟨rr, hrr⟩ : ∃ r, r = strOfNums [(q : Int)] := ⟨_, rfl⟩
  have hrl : rr.size = 1 := by rw [hrr, strOfNums_size]; rfl
  rw [← hrr] at v1
  simp only [List.length_singleton] at v1
  have HD2 : Hid (∀ wx, Calls Try.prog 19 #[.string (s ++ rr)] wx fun e w' => e = .returned (.tuple #[.agg #[.slice none 0 0, .slice none 0 0], .int .i64 7]) ∧ Below wx.heap.size wx w') := fun wx => decode_bad _ wx (by rw [ByteArray.size_append]; omega) (long_bad HT.out.good (by omega))
  clear hrr hw6 hq
  go_wp2_with fail
  refine (HD2.out _).mono ?_
  rintro e w7 ⟨rfl, hb7⟩
  have HB7 : Hid (Below w6.heap.size w6 w7) := below_then (below_one _) hb7
  clear hb7 v1 HD2
  go_wp2
  go_ret
  exact ⟨rfl, below_then (below_then (below_then (below_then (below_then (below_then (below_then HB1.out HB2.out) HB3.out) HB4.out) HB5.out) HB6.out) HB7.out) (below_one _)⟩

end Go.Proofs.Ytpclldccjpncdaa
