import Derived.Test.YtpclldccjpncdaaGreatRefDW
import Derived.Test.YtpclldccjpncdaaGreatAsuX
import Derived.Test.YtpclldccjpncdaaGreatSame
import Derived.Test.YtpclldccjpncdaaGreatTop1
namespace Go.Proofs.YtpclldccjpncdaaGreat
open Go.RowKit

theorem told_twin (s : ByteArray) (no no' : Option Addr) (nc nc' : Nat) (eo eo' : Option Addr) (ec ec' : Nat) (vs vs' : Nat → Option Addr) (cs cs' : Nat → Nat) : (toldL s no nc eo ec vs cs).Twin (toldL s no' nc' eo' ec' vs' cs') := ⟨rfl, rfl, rfl, rfl, rfl, rfl, rfl, rfl⟩
/-- the empty table -/
def noL : Lay := { n := 0, m := 0, na := none, ea := none, nc := 0, ec := 0, nb := 0, no := 0, eb := 0, eo := 0, p := fun _ => 0, s := fun _ => 0, t := fun _ => 0, tx := fun _ => ByteArray.empty, la := fun _ => none, k := fun _ => 0, lc := fun _ => 0, lb := fun _ => 0, lo := fun _ => 0, z := fun _ _ => 0 }
theorem noL_in (w : World) : noL.In w.heap.size w := by
  refine ⟨⟨fun h => ?_, fun h => ?_, fun i h => ?_, fun i h => ?_, fun i h => ?_, by decide⟩, ⟨fun h => ?_, fun h => ?_, fun i h => ?_, fun i h => ?_, fun i h => ?_, by decide⟩⟩
  all_goals exact absurd h (Nat.not_lt_zero _)
theorem dec_ok {s : ByteArray} (h : decE s = 0) : (dL s).Ok := by
  have hg : good s := by
    by_cases hg : good s
    · exact hg
    · rw [decE_bad hg] at h; omega
  rw [decE_good hg] at h
  exact err_zero h
open Classical in
/-- what Decode tells, wherever it lies -/
noncomputable def cL (s : ByteArray) : Lay := if decE s = 0 then dL s else noL
theorem twin_two {L M N : Lay} (h : L.Twin M) (k : L.Twin N) : M.Twin N := ⟨k.n.trans h.n.symm, k.m.trans h.m.symm, k.p.trans h.p.symm, k.s.trans h.s.symm, k.t.trans h.t.symm, k.tx.trans h.tx.symm, k.k.trans h.k.symm, k.z.trans h.z.symm⟩
theorem decAns_lay {s : ByteArray} {w : World} {e : Ending} {w' : World} (h : DecAns s w e w') : ∃ M : Lay, e = .returned (.tuple #[.agg #[.slice M.na M.n M.nc, .slice M.ea M.m M.ec], .int .i64 (decE s)]) ∧ Below w.heap.size w w' ∧ M.In w'.heap.size w' ∧ (cL s).Twin M ∧ M.m ≤ 1000 ∧
    ∃ tx k z vs cs, (∀ i, i < M.m → 1 ≤ k i ∧ k i ≤ 1000) ∧ w'.ownsRow w.heap.size 63 2 (.slice M.ea M.m M.ec) M.m (entC tx k vs cs M.m) ∧ EntsO w.heap.size k z M.m vs cs w' := by
  obtain ⟨hb, h⟩ := h
  rcases h with ⟨h0, no, nc, eo, ec, vs, cs, he, ht⟩ | ⟨h0, he⟩
  · have hok := dec_ok h0
    refine ⟨toldL s no nc eo ec vs cs, ?_, hb, told_in ht, ?_, ?_, dtx s, dk s, dz s, vs, cs, fun i hi => ?_, ht.row, ht.ents⟩
    · rw [h0]; exact he
    · rw [cL, if_pos h0]; exact ⟨rfl, rfl, rfl, rfl, rfl, rfl, rfl, rfl⟩
    · have := hok.m
      show dm s ≤ 1000
      have : dm s ≤ 48 := this
      omega
    · have : 1 ≤ dk s i ∧ dk s i ≤ 4 := hok.k i hi
      omega
  · refine ⟨noL, he, hb, noL_in w', ?_, by decide, fun _ => ByteArray.empty, fun _ => 0, fun _ _ => 0, fun _ => none, fun _ => 0, fun i hi => absurd hi (Nat.not_lt_zero _), World.ownsRow_nil _ _ _ _, EntsO.nil _ _ _ _ _ _⟩
    rw [cL, if_neg h0]; exact ⟨rfl, rfl, rfl, rfl, rfl, rfl, rfl, rfl⟩

set_option maxRecDepth 100000 in
set_option maxHeartbeats 1000000 in
theorem decodes_any (kind : Int) (na : Option Addr) (n nc : Nat) (ea : Option Addr) (m ec : Nat) (a b : ByteArray) (lev : Int) (ra : Option Addr) (rn rc : Nat) (w : World) (ha : a.size ≤ 140737488351232) :
    Calls Tryz.prog 13 #[.agg #[.int .i64 kind, .slice na n nc, .slice ea m ec, .string a, .string b, .int .i64 lev, .slice ra rn rc]] w fun e w' => e = .returned (.bool true) ∧ Below w.heap.size w w' := by
  have HA : Hid ((w.alloc (.cells #[.int .i64 kind, .slice na n nc, .slice ea m ec, .string a, .string b, .int .i64 lev, .slice ra rn rc] 31)).cell? ⟨w.heap.size, 3, none⟩ = some (.string a)) := by show _ = _; go_simp
  obtain ⟨er, her⟩ : ∃ x, x = decE a := ⟨_, rfl⟩
  have HER : Hid (er = decE a) := her
  clear her
  go_enter Tryz.func13, Tryz.ntmps13
  go_wp2_with fail
  refine (decode_any a _ ha).mono ?_
  rintro e w1 hans
  obtain ⟨M, rfl, hb1, hin1, htw1, hm1, tx, k, z, vs, cs, hk1, hrow1, hent1⟩ := decAns_lay hans
  rw [← HER.out]
  have hz1 : w.heap.size < w1.heap.size := by have := hb1.size; simp at this; omega
  have a1 := cellTo hb1 HA.out (by show w.heap.size < _; simp)
  have HI1 : Hid (∀ wx, Below w1.heap.size w1 wx → M.In wx.heap.size wx) := fun wx hx => hin1.later hx
  have HB1 : Hid (Below w.heap.size w w1) := below_then (below_one _) hb1
  simp only [size_one] at hrow1 hent1
  have HRE : Hid (∀ wx, Below w1.heap.size w1 wx → wx.ownsRow (w.heap.size + 1) 63 2 (.slice M.ea M.m M.ec) M.m (entC tx k vs cs M.m) ∧ EntsO (w.heap.size + 1) k z M.m vs cs wx) := fun wx hx => ⟨ownC_below hrow1 hx, hent1.below hx⟩
  have HK : Hid (∀ i, i < M.m → 1 ≤ k i ∧ k i ≤ 1000) := hk1
  have HTW1 : Hid ((cL a).Twin M) := htw1
  clear hans hin1 htw1 hk1 hrow1 hent1 hb1
  go_wp2_with fail
  refine (refDecode_any a _ ha).mono ?_
  rintro e w2 hans
  obtain ⟨N, rfl, hb2, hin2, htw2, hm2, _⟩ := decAns_lay hans
  rw [← HER.out]
  have HB2 : Hid (Below w1.heap.size w1 w2) := below_then (below_one _) hb2
  have hz2 : w1.heap.size < w2.heap.size := by have := hb2.size; simp at this; omega
  have hT1 : w2.rowIs w1.heap.size 28 2 (fun j => #[Value.slice M.na M.n M.nc, .slice M.ea M.m M.ec].getD j undef) := (row_new w1 #[Value.slice M.na M.n M.nc, .slice M.ea M.m M.ec] 28 2 rfl).of_block (hb2.block _ (by simp))
  have t0 := hT1.cell (i := 0) (by omega)
  have t1 := hT1.cell (i := 1) (by omega)
  simp at t0 t1
  have HI2 : Hid (∀ wx, Below w2.heap.size w2 wx → N.In wx.heap.size wx) := fun wx hx => hin2.later hx
  have HTW : Hid (M.Twin N) := twin_two HTW1.out htw2
  clear hans hin2 htw2 hb2 a1 hT1
  go_wp2_with fail
  refine (sameTable_any M N _ (HI1.out _ (below_then HB2.out (below_one _))) (HI2.out _ (below_one _)) HTW.out).mono ?_
  rintro e w3 ⟨rfl, hb3⟩
  have HB3 : Hid (Below w2.heap.size w2 w3) := below_then (below_one _) hb3
  have t0' := cellTo HB3.out t0 (by show w1.heap.size < _; omega)
  have t1' := cellTo HB3.out t1 (by show w1.heap.size < _; omega)
  have hz3 : w2.heap.size ≤ w3.heap.size := HB3.out.size
  clear hb3 t0 t1
  go_wp2_with fail
  refine (asunder_any (w.heap.size + 1) M.m _ _ _ _ _ tx k z vs cs w3 (by omega) hm1 HK.out (HRE.out _ (below_then HB2.out HB3.out)).1 (HRE.out _ (below_then HB2.out HB3.out)).2).mono ?_
  rintro e w4 ⟨rfl, hb4⟩
  have HB4 : Hid (Below w.heap.size w w4) := (below_then (below_then HB1.out HB2.out) HB3.out).trans (hb4.mono (by omega))
  clear hb4
  have he : (er == er) = true := by simp
  go_wp2
  go_ret
  exact ⟨rfl, HB4.out⟩

set_option maxRecDepth 100000 in
set_option maxHeartbeats 1000000 in
theorem plays_decode (L : Lay) (a b : ByteArray) (lev : Int) (ra : Option Addr) (rn rc : Nat) (w : World) (ha : a.size ≤ 140737488351232) :
    Calls Tryz.prog 11 #[.agg #[.int .i64 6, .slice L.na L.n L.nc, .slice L.ea L.m L.ec, .string a, .string b, .int .i64 lev, .slice ra rn rc]] w fun e w' => e = .returned (.bool true) ∧ Below w.heap.size w w' := by
  go_enter Tryz.func11, Tryz.ntmps11
  go_wp2_with fail
  refine (decodes_any _ _ _ _ _ _ _ _ _ _ _ _ _ _ ha).mono ?_
  rintro e w1 ⟨rfl, hb1⟩
  go_wp2
  go_ret
  exact ⟨rfl, below_then (below_one _) hb1⟩

end Go.Proofs.YtpclldccjpncdaaGreat
