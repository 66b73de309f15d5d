import Derived.Test.YtpclldccjpncdaaDecR
namespace Go.Proofs.Ytpclldccjpncdaa
open Go.RowKit

theorem ndL_len (s : ByteArray) : ∀ n, (ndL s n).length = n * 3
  | 0 => rfl
  | n + 1 => by rw [ndL_snoc, List.length_append, ndL_len s n]; simp; omega
theorem ndL_at (s : ByteArray) : ∀ n i, i < n → (ndL s n)[i * 3]? = some (.int .i64 (dp s i)) ∧ (ndL s n)[i * 3 + 1]? = some (.int .i64 (ds s i)) ∧ (ndL s n)[i * 3 + 2]? = some (.int .i64 (dt s i))
  | n + 1, i, h => by
    have hl := ndL_len s n
    rw [ndL_snoc]
    by_cases e : i = n
    · subst e
      refine ⟨?_, ?_, ?_⟩
      · rw [List.getElem?_append_right (by omega), hl, show i * 3 - i * 3 = 0 by omega]; rfl
      · rw [List.getElem?_append_right (by omega), hl, show i * 3 + 1 - i * 3 = 1 by omega]; rfl
      · rw [List.getElem?_append_right (by omega), hl, show i * 3 + 2 - i * 3 = 2 by omega]; rfl
    · rw [List.getElem?_append_left (by omega), List.getElem?_append_left (by omega), List.getElem?_append_left (by omega)]
      exact ndL_at s n i (by omega)
theorem entC_len (tx : Nat → ByteArray) (k : Nat → Nat) (vs : Nat → Option Addr) (cs : Nat → Nat) : ∀ n, (entC tx k vs cs n).length = n * 2
  | 0 => rfl
  | n + 1 => by rw [entC_snoc, List.length_append, entC_len tx k vs cs n]; simp; omega
theorem entC_at (tx : Nat → ByteArray) (k : Nat → Nat) (vs : Nat → Option Addr) (cs : Nat → Nat) : ∀ n i, i < n → (entC tx k vs cs n)[i * 2]? = some (.string (tx i)) ∧ (entC tx k vs cs n)[i * 2 + 1]? = some (.slice (vs i) (k i) (cs i))
  | n + 1, i, h => by
    have hl := entC_len tx k vs cs n
    rw [entC_snoc]
    by_cases e : i = n
    · subst e
      refine ⟨?_, ?_⟩
      · rw [List.getElem?_append_right (by omega), hl, show i * 2 - i * 2 = 0 by omega]; rfl
      · rw [List.getElem?_append_right (by omega), hl, show i * 2 + 1 - i * 2 = 1 by omega]; rfl
    · rw [List.getElem?_append_left (by omega), List.getElem?_append_left (by omega)]
      exact entC_at tx k vs cs n i (by omega)

def blk (a : Option Addr) : Nat := match a with | some a => a.block | none => 0
/-- the table that was read, as it lies in memory -/
def toldL (s : ByteArray) (no : Option Addr) (nc : Nat) (eo : Option Addr) (ec : Nat) (vs : Nat → Option Addr) (cs : Nat → Nat) : Lay :=
  { dL s with na := no, nc := nc, nb := blk no, ea := eo, ec := ec, eb := blk eo, la := vs, lc := cs, lb := fun i => blk (vs i) }
theorem toldL_err (s : ByteArray) (no : Option Addr) (nc : Nat) (eo : Option Addr) (ec : Nat) (vs : Nat → Option Addr) (cs : Nat → Nat) : (toldL s no nc eo ec vs cs).err = (dL s).err := rfl
theorem told_in {s : ByteArray} {B : Nat} {no : Option Addr} {nc : Nat} {eo : Option Addr} {ec : Nat} {vs : Nat → Option Addr} {cs : Nat → Nat} {w : World} (h : Told s B (.slice no (dn s) nc) (.slice eo (dm s) ec) vs cs w) : (toldL s no nc eo ec vs cs).In w.heap.size w := by
  have hn := bt_le s 0
  have hm := bt_le s (q0 s)
  refine ⟨?_, ?_⟩
  · obtain ⟨vo, vc, gv, hv, ha, hc⟩ := ownC_cells h.nodes
    cases hv
    have key : ∀ i, i < dn s → blk no = gv := fun i hi => by rw [(ha (by omega)).1]; rfl
    refine ⟨fun h0 => ?_, fun h0 => ?_, fun i hi => ?_, fun i hi => ?_, fun i hi => ?_, ?_⟩
    · show no = some ⟨blk no, 0, none⟩
      rw [(ha h0).1]; rfl
    · show blk no < _
      rw [(ha h0).1]; exact (ha h0).2.1
    · show w.cell? ⟨blk no, 0 + i * 3, none⟩ = _
      rw [key i hi, Nat.zero_add]
      have hi : i < dn s := hi
      exact hc _ _ (by omega) (ndL_at s _ i hi).1
    · show w.cell? ⟨blk no, 0 + i * 3 + 1, none⟩ = _
      rw [key i hi, Nat.zero_add]
      have hi : i < dn s := hi
      exact hc _ _ (by omega) (ndL_at s _ i hi).2.1
    · show w.cell? ⟨blk no, 0 + i * 3 + 2, none⟩ = _
      rw [key i hi, Nat.zero_add]
      have hi : i < dn s := hi
      exact hc _ _ (by omega) (ndL_at s _ i hi).2.2
    · show dn s * 24 ≤ _
      unfold dn; omega
  · obtain ⟨vo, vc, gv, hv, ha, hc⟩ := ownC_cells h.row
    cases hv
    have key : ∀ i, i < dm s → blk eo = gv := fun i hi => by rw [(ha (by omega)).1]; rfl
    refine ⟨fun h0 => ?_, fun h0 => ?_, fun i hi => ?_, fun i hi => ?_, fun i hi => ?_, ?_⟩
    · show eo = some ⟨blk eo, 0, none⟩
      rw [(ha h0).1]; rfl
    · show blk eo < _
      rw [(ha h0).1]; exact (ha h0).2.1
    · show w.cell? ⟨blk eo, 0 + i * 2, none⟩ = _
      rw [key i hi, Nat.zero_add]
      have hi : i < dm s := hi
      exact hc _ _ (by omega) (entC_at _ _ _ _ _ i hi).1
    · show w.cell? ⟨blk eo, 0 + i * 2 + 1, none⟩ = _
      rw [key i hi, Nat.zero_add]
      have hi : i < dm s := hi
      exact hc _ _ (by omega) (entC_at _ _ _ _ _ i hi).2
    · have hi : i < dm s := hi
      have hk := bt_le s (dkp s i)
      obtain ⟨vo', vc', gv', hv', ha', hc'⟩ := ownC_cells (h.ents.own i hi)
      injection hv' with hv1 hv2 hv3
      refine ⟨fun h0 => ?_, fun h0 => ?_, fun j hj => ?_, ?_⟩
      · show vs i = some ⟨blk (vs i), 0, none⟩
        rw [hv1, (ha' h0).1]; rfl
      · show blk (vs i) < _
        rw [hv1, (ha' h0).1]; exact (ha' h0).2.1
      · have hj : j < dk s i := hj
        show w.cell? ⟨blk (vs i), 0 + j, none⟩ = _
        rw [hv1, (ha' (by omega)).1, Nat.zero_add]
        exact hc' j _ (by omega) (by simp [hj]; rfl)
      · show dk s i * 8 ≤ _
        unfold dk; omega
    · show dm s * 40 ≤ _
      unfold dm; omega

/-- what Decode answers -/
def DecAns (s : ByteArray) (w : World) (e : Ending) (w' : World) : Prop := Below w.heap.size w w' ∧
  ((decE s = 0 ∧ ∃ no nc eo ec vs cs, e = .returned (.tuple #[.agg #[.slice no (dn s) nc, .slice eo (dm s) ec], .int .i64 0]) ∧ Told s w.heap.size (.slice no (dn s) nc) (.slice eo (dm s) ec) vs cs w') ∨
   (decE s ≠ 0 ∧ e = .returned (.tuple #[.agg #[.slice none 0 0, .slice none 0 0], .int .i64 (decE s)])))

set_option maxRecDepth 100000 in
set_option maxHeartbeats 1000000 in
theorem codeDecode_any (s : ByteArray) (w : World) (hs : s.size ≤ 140737488351232) : Calls Try.prog 35 #[.string s] w (DecAns s w) := by
  have HR : Hid ((w.alloc (.cells #[.slice none 0 0, .slice none 0 0] 26)).rowIs w.heap.size 26 2 (fun i => #[Value.slice none 0 0, .slice none 0 0].getD i undef)) := row_new _ _ _ 2 rfl
  have HT : Hid (∀ w : World, Calls Try.prog 47 #[.string s] w fun e w' => Below w.heap.size w w' ∧
      ((good s ∧ ∃ vn ve vs cs, e = .returned (.tuple #[.agg #[vn, ve], .bool true]) ∧ Told s w.heap.size vn ve vs cs w') ∨
       (¬ good s ∧ e = .returned (.tuple #[.agg #[.slice none 0 0, .slice none 0 0], .bool false])))) := fun w => readTable_any s w hs
  go_enter Try.func35, Try.ntmps35
  go_wp2_with fail
  refine (HT.out _).mono ?_
  rintro e w1 ⟨hb1, ⟨hgood, vn, ve, vs, cs, rfl, htold⟩ | ⟨hbad, rfl⟩⟩
  · simp only [size_one] at htold
    obtain ⟨no, nc, hvn⟩ := ownC_shape htold.nodes
    subst hvn
    obtain ⟨eo, ec, hve⟩ := ownC_shape htold.row
    subst hve
    have hin := told_in htold
    have HE : Hid (decE s = (dL s).err) := decE_good hgood
    have HTD : Hid (Told s (w.heap.size + 1) (.slice no (dn s) nc) (.slice eo (dm s) ec) vs cs w1) := htold
    have HV : Hid (∀ wx, Below w1.heap.size w1 wx → Calls Try.prog 40 #[.agg #[.slice no (dn s) nc, .slice eo (dm s) ec]] wx fun e w' => e = .returned (.int .i64 (decE s)) ∧ Below wx.heap.size wx w') := fun wx hbx => by
      rw [HE.out]
      exact tableValid_any (toldL s no nc eo ec vs cs) wx (hin.later hbx)
    obtain ⟨dnn, hdn⟩ : ∃ x, x = dn s := ⟨_, rfl⟩
    obtain ⟨dmm, hdm⟩ : ∃ x, x = dm s := ⟨_, rfl⟩
    obtain ⟨er, her⟩ : ∃ x, x = decE s := ⟨_, rfl⟩
    have HR1 : Hid (w1.rowIs w.heap.size 26 2 (fun i => #[Value.slice none 0 0, .slice none 0 0].getD i undef)) := HR.out.of_block (hb1.block _ (by simp))
    have HB1 : Hid (Below w.heap.size w w1) := below_then (below_one _) hb1
    have hz1 : w.heap.size < w1.heap.size := by have := hb1.size; simp at this; omega
    have HDN : Hid (dnn = dn s) := hdn
    have HDM : Hid (dmm = dm s) := hdm
    have HER : Hid (er = decE s) := her
    rw [← hdn, ← hdm, ← her] at HV
    rw [← hdn, ← hdm] at HTD
    rw [← hdn, ← hdm]
    clear htold hin HT hb1 HR hdn hdm her hgood HE
    go_wp2_with fail
    refine (HV.out _ (below_one _)).mono ?_
    rintro e w2 ⟨rfl, hb2⟩
    have hz2 : w1.heap.size < w2.heap.size := by have := hb2.size; simp at this; omega
    have hr2 : w2.rowIs w.heap.size 26 2 (fun i => #[Value.slice none 0 0, .slice none 0 0].getD i undef) := (HR1.out.alloc _).of_block (hb2.block _ (by simp; omega))
    have HR2 : Hid (w2.rowIs w.heap.size 26 2 (fun i => #[Value.slice none 0 0, .slice none 0 0].getD i undef)) := hr2
    have ht2 : w2.rowIs w1.heap.size 26 2 (fun i => #[Value.slice no dnn nc, .slice eo dmm ec].getD i undef) := (row_new w1 #[Value.slice no dnn nc, .slice eo dmm ec] 26 2 rfl).of_block (hb2.block _ (by simp))
    have r0 := hr2.cell (i := 0) (by omega)
    have r1 := hr2.cell (i := 1) (by omega)
    have f0 := hr2.frozen 0
    have f1 := hr2.frozen 1
    have t0 := ht2.cell (i := 0) (by omega)
    have t1 := ht2.cell (i := 1) (by omega)
    have HB2 : Hid (Below w.heap.size w w2) := below_then (below_then HB1.out (below_one _)) hb2
    have HT2 : Hid (Told s (w.heap.size + 1) (.slice no dnn nc) (.slice eo dmm ec) vs cs w2) := HTD.out.below (below_then (below_one _) hb2)
    clear hr2 ht2 hb2 HV
    by_cases h0 : er = 0
    · have HE0 : Hid (decE s = 0) := by show _ = _; rw [← HER.out]; exact h0
      clear HER
      subst h0
      go_wp2
      refine bodyPost_ret (resC2 rfl _ w.heap.size _ _ (by rfl) ((HR2.out.set 0 (.slice no dnn nc)).set 1 (.slice eo dmm ec)) Try.underlying26 rfl sizeTabC) rfl ?_
      have hO : OnlyRow w.heap.size w2 ((w2.setCell ⟨w.heap.size, 0, none⟩ (.slice no dnn nc)).setCell ⟨w.heap.size, 1, none⟩ (.slice eo dmm ec)) := (OnlyRow.setCell _ _ _ _).trans (OnlyRow.setCell _ _ _ _)
      refine ⟨hO.below HB2.out (Nat.le_refl _), .inl ⟨HE0.out, no, nc, eo, ec, vs, cs, ?_, ?_⟩⟩
      · rw [← HDN.out, ← HDM.out]; rfl
      · rw [← HDN.out, ← HDM.out]; exact (HT2.out.only hO (by omega)).base (by omega)
    · have h0' : (er == 0) = false := by simpa using h0
      have HE0 : Hid (decE s ≠ 0) := by show _ ≠ _; rw [← HER.out]; exact h0
      go_wp2
      refine bodyPost_ret (resC2 rfl _ w.heap.size _ _ (by rfl) ((HR2.out.set 0 (.slice none 0 0)).set 1 (.slice none 0 0)) Try.underlying26 rfl sizeTabC) rfl ?_
      have hO : OnlyRow w.heap.size w2 ((w2.setCell ⟨w.heap.size, 0, none⟩ (.slice none 0 0)).setCell ⟨w.heap.size, 1, none⟩ (.slice none 0 0)) := (OnlyRow.setCell _ _ _ _).trans (OnlyRow.setCell _ _ _ _)
      refine ⟨hO.below HB2.out (Nat.le_refl _), .inr ⟨HE0.out, ?_⟩⟩
      rw [← HER.out]; rfl
  · have HB : Hid (decE s = 7) := decE_bad hbad
    have HR1 : Hid (w1.rowIs w.heap.size 26 2 (fun i => #[Value.slice none 0 0, .slice none 0 0].getD i undef)) := HR.out.of_block (hb1.block _ (by simp))
    have HB1 : Hid (Below w.heap.size w w1) := below_then (below_one _) hb1
    have hz1 : w.heap.size < w1.heap.size := by have := hb1.size; simp at this; omega
    have r0 := HR1.out.cell (i := 0) (by omega)
    have r1 := HR1.out.cell (i := 1) (by omega)
    have f0 := HR1.out.frozen 0
    have f1 := HR1.out.frozen 1
    clear hbad hb1 HT HR
    go_wp2
    refine bodyPost_ret (resC2 rfl _ w.heap.size _ _ (by rfl) (((HR1.out.set 0 (.slice none 0 0)).set 1 (.slice none 0 0)).alloc _) Try.underlying26 rfl sizeTabC) rfl ?_
    have hO : OnlyRow w.heap.size w1 ((w1.setCell ⟨w.heap.size, 0, none⟩ (.slice none 0 0)).setCell ⟨w.heap.size, 1, none⟩ (.slice none 0 0)) := (OnlyRow.setCell _ _ _ _).trans (OnlyRow.setCell _ _ _ _)
    refine ⟨below_then (hO.below HB1.out (Nat.le_refl _)) (below_one _), .inr ⟨by rw [HB.out]; omega, ?_⟩⟩
    rw [HB.out]; rfl

theorem decode_any (s : ByteArray) (w : World) (hs : s.size ≤ 140737488351232) : Calls Try.prog 19 #[.string s] w (DecAns s w) := by
  have HC : Hid (Calls Try.prog 35 #[.string s] (w.alloc (.cells #[.slice none 0 0, .slice none 0 0] 26)) (DecAns s (w.alloc (.cells #[.slice none 0 0, .slice none 0 0] 26)))) := codeDecode_any s _ hs
  have HR : Hid ((w.alloc (.cells #[.slice none 0 0, .slice none 0 0] 26)).rowIs w.heap.size 26 2 (fun i => #[Value.slice none 0 0, .slice none 0 0].getD i undef)) := row_new _ _ _ 2 rfl
  go_enter Try.func19, Try.ntmps19
  go_wp2_with fail
  refine Calls.mono HC.out ?_
  rintro e w1 ⟨hb1, hor⟩
  have HR1 : Hid (w1.rowIs w.heap.size 26 2 (fun i => #[Value.slice none 0 0, .slice none 0 0].getD i undef)) := HR.out.of_block (hb1.block _ (by simp))
  have HB1 : Hid (Below w.heap.size w w1) := below_then (below_one _) hb1
  have r0 := HR1.out.cell (i := 0) (by omega)
  have r1 := HR1.out.cell (i := 1) (by omega)
  have f0 := HR1.out.frozen 0
  have f1 := HR1.out.frozen 1
  clear hb1 HC HR
  rcases hor with ⟨hE, no, nc, eo, ec, vs, cs, rfl, htold⟩ | ⟨hE, rfl⟩
  · simp only [size_one] at htold
    have HTD : Hid (Told s (w.heap.size + 1) (.slice no (dn s) nc) (.slice eo (dm s) ec) vs cs w1) := htold
    have HE : Hid (decE s = 0) := hE
    obtain ⟨dnn, hdn⟩ : ∃ x, x = dn s := ⟨_, rfl⟩
    obtain ⟨dmm, hdm⟩ : ∃ x, x = dm s := ⟨_, rfl⟩
    have HDN : Hid (dnn = dn s) := hdn
    have HDM : Hid (dmm = dm s) := hdm
    rw [← hdn, ← hdm]
    rw [← hdn, ← hdm] at HTD
    clear htold hE hdn hdm
    go_wp2
    refine bodyPost_ret (resC2 rfl _ w.heap.size _ _ (by rfl) ((HR1.out.set 0 (.slice no dnn nc)).set 1 (.slice eo dmm ec)) Try.underlying26 rfl sizeTabC) rfl ?_
    have hO : OnlyRow w.heap.size w1 ((w1.setCell ⟨w.heap.size, 0, none⟩ (.slice no dnn nc)).setCell ⟨w.heap.size, 1, none⟩ (.slice eo dmm ec)) := (OnlyRow.setCell _ _ _ _).trans (OnlyRow.setCell _ _ _ _)
    refine ⟨hO.below HB1.out (Nat.le_refl _), .inl ⟨HE.out, no, nc, eo, ec, vs, cs, ?_, ?_⟩⟩
    · rw [← HDN.out, ← HDM.out]; rfl
    · rw [← HDN.out, ← HDM.out]; exact (HTD.out.only hO (by omega)).base (by omega)
  · obtain ⟨er, her⟩ : ∃ x, x = decE s := ⟨_, rfl⟩
    have HER : Hid (er = decE s) := her
    have HE : Hid (decE s ≠ 0) := hE
    rw [← her]
    clear her hE
    go_wp2
    refine bodyPost_ret (resC2 rfl _ w.heap.size _ _ (by rfl) ((HR1.out.set 0 (.slice none 0 0)).set 1 (.slice none 0 0)) Try.underlying26 rfl sizeTabC) rfl ?_
    have hO : OnlyRow w.heap.size w1 ((w1.setCell ⟨w.heap.size, 0, none⟩ (.slice none 0 0)).setCell ⟨w.heap.size, 1, none⟩ (.slice none 0 0)) := (OnlyRow.setCell _ _ _ _).trans (OnlyRow.setCell _ _ _ _)
    refine ⟨hO.below HB1.out (Nat.le_refl _), .inr ⟨HE.out, ?_⟩⟩
    rw [← HER.out]; rfl

end Go.Proofs.Ytpclldccjpncdaa
