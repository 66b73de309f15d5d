import Derived.Test.YtpclldccjpncdaaGreatSameR
import Derived.Test.YtpclldccjpncdaaGreatTop1
namespace Go.Proofs.YtpclldccjpncdaaGreat
open Go.RowKit

theorem infoRule : (Tryz.prog.info? 57).map (fun i => (i.zero, i.size, i.bytes)) = some (some (.agg #[.string ByteArray.empty, .int .i64 0, .int .i64 0, .string ByteArray.empty, .string ByteArray.empty]), 5, 64) := by kernel_rfl
theorem sizeRule : (Tryz.prog.info? 57).map (·.size) = some 5 := by kernel_rfl
/-- the cells of rules -/
def ruC (f : Nat → Rl) (c : Nat) : Value :=
  if c % 5 = 0 then .string (f (c / 5)).reset else if c % 5 = 1 then .int .i64 (f (c / 5)).before else if c % 5 = 2 then .int .i64 (f (c / 5)).level else if c % 5 = 3 then .string (f (c / 5)).text else .string (f (c / 5)).more
theorem ruC_0 (f : Nat → Rl) (i : Nat) : ruC f (i * 5) = .string (f i).reset := by
  have h1 : i * 5 % 5 = 0 := by omega
  have h2 : i * 5 / 5 = i := by omega
  simp [ruC, h1, h2]
theorem ruC_1 (f : Nat → Rl) (i : Nat) : ruC f (i * 5 + 1) = .int .i64 (f i).before := by
  have h1 : (i * 5 + 1) % 5 = 1 := by omega
  have h2 : (i * 5 + 1) / 5 = i := by omega
  simp [ruC, h1, h2]
theorem ruC_2 (f : Nat → Rl) (i : Nat) : ruC f (i * 5 + 2) = .int .i64 (f i).level := by
  have h1 : (i * 5 + 2) % 5 = 2 := by omega
  have h2 : (i * 5 + 2) / 5 = i := by omega
  simp [ruC, h1, h2]
theorem ruC_3 (f : Nat → Rl) (i : Nat) : ruC f (i * 5 + 3) = .string (f i).text := by
  have h1 : (i * 5 + 3) % 5 = 3 := by omega
  have h2 : (i * 5 + 3) / 5 = i := by omega
  simp [ruC, h1, h2]
theorem ruC_4 (f : Nat → Rl) (i : Nat) : ruC f (i * 5 + 4) = .string (f i).more := by
  have h1 : (i * 5 + 4) % 5 = 4 := by omega
  have h2 : (i * 5 + 4) / 5 = i := by omega
  simp [ruC, h1, h2]
theorem ruC_one (f : Nat → Rl) (c : Nat) : (ruC f c).oneCell' = true := by
  unfold ruC
  repeat' split
  all_goals rfl
theorem RulesIn.flat {B : Nat} {w : World} {ao : Option Addr} {n b off : Nat} {f : Nat → Rl} (h : RulesIn B w ao n b off f) (c : Nat) (hc : c < n * 5) : w.cell? ⟨b, off + c, none⟩ = some (ruC f c) := by
  have : c % 5 = 0 ∨ c % 5 = 1 ∨ c % 5 = 2 ∨ c % 5 = 3 ∨ c % 5 = 4 := by omega
  obtain ⟨i, hi⟩ : ∃ i, i = c / 5 := ⟨_, rfl⟩
  rcases this with h' | h' | h' | h' | h'
  · have e : c = i * 5 := by omega
    rw [e, ruC_0]; exact h.c0 i (by omega)
  · have e : c = i * 5 + 1 := by omega
    rw [e, ruC_1, ← Nat.add_assoc]; exact h.c1 i (by omega)
  · have e : c = i * 5 + 2 := by omega
    rw [e, ruC_2, ← Nat.add_assoc]; exact h.c2 i (by omega)
  · have e : c = i * 5 + 3 := by omega
    rw [e, ruC_3, ← Nat.add_assoc]; exact h.c3 i (by omega)
  · have e : c = i * 5 + 4 := by omega
    rw [e, ruC_4, ← Nat.add_assoc]; exact h.c4 i (by omega)
def beyR : Rl := ⟨ByteArray.empty, 0, 0, { data := #[98, 101, 121, 111, 110, 100] }, ByteArray.empty⟩
def nilR : Rl := ⟨ByteArray.empty, 0, 0, ByteArray.empty, ByteArray.empty⟩
def markR (f : Nat → Rl) (n j i : Nat) : Rl := if i < n then f i else if i < j then beyR else nilR
/-- a row of rules is rules in memory -/
theorem rules_row {w : World} {g n N : Nat} {f F : Nat → Rl} (h : w.rowIs g 57 (N * 5) (ruC F)) (hn : n ≤ N) (hF : ∀ i, i < n → F i = f i) (hle : n * 64 ≤ 140737488351232)
    (hfit : ∀ i, i < n → (f i).reset.size ≤ 140737488351232 ∧ (f i).text.size ≤ 140737488351232 ∧ (f i).more.size ≤ 140737488351232) : RulesIn w.heap.size w (some ⟨g, 0, none⟩) n g 0 f := by
  refine ⟨fun _ => rfl, fun _ => h.lt, fun i hi => ?_, fun i hi => ?_, fun i hi => ?_, fun i hi => ?_, fun i hi => ?_, hle, hfit⟩
  · rw [Nat.zero_add, h.cell (by omega), ruC_0, hF i hi]
  · rw [Nat.zero_add, h.cell (by omega), ruC_1, hF i hi]
  · rw [Nat.zero_add, h.cell (by omega), ruC_2, hF i hi]
  · rw [Nat.zero_add, h.cell (by omega), ruC_3, hF i hi]
  · rw [Nat.zero_add, h.cell (by omega), ruC_4, hF i hi]
/-- one rule more is the mark -/
theorem mark_rule {w : World} {g n j N : Nat} {f : Nat → Rl} (hj : n ≤ j) (h : w.rowIs g 57 (N * 5) (ruC (markR f n j))) :
    (((((w.setCell ⟨g, j * 5, none⟩ (.string ByteArray.empty)).setCell ⟨g, j * 5 + 1, none⟩ (.int .i64 0)).setCell ⟨g, j * 5 + 2, none⟩ (.int .i64 0)).setCell ⟨g, j * 5 + 3, none⟩ (.string { data := #[98, 101, 121, 111, 110, 100] })).setCell ⟨g, j * 5 + 4, none⟩ (.string ByteArray.empty)).rowIs g 57 (N * 5) (ruC (markR f n (j + 1))) := by
  have hs := ((((h.set (j * 5) (.string ByteArray.empty)).set (j * 5 + 1) (.int .i64 0)).set (j * 5 + 2) (.int .i64 0)).set (j * 5 + 3) (.string { data := #[98, 101, 121, 111, 110, 100] })).set (j * 5 + 4) (.string ByteArray.empty)
  refine hs.congr fun c hc => ?_
  have hm : markR f n (j + 1) j = beyR := by
    have h1 : ¬ j < n := by omega
    simp [markR, h1]
  by_cases e0 : c = j * 5
  · subst e0; rw [ruC_0 (markR f n (j + 1)), hm]; simp [beyR]
  by_cases e1 : c = j * 5 + 1
  · subst e1; rw [ruC_1 (markR f n (j + 1)), hm]; simp [beyR]
  by_cases e2 : c = j * 5 + 2
  · subst e2; rw [ruC_2 (markR f n (j + 1)), hm]; simp [beyR]
  by_cases e3 : c = j * 5 + 3
  · subst e3; rw [ruC_3 (markR f n (j + 1)), hm]; simp [beyR]
  by_cases e4 : c = j * 5 + 4
  · subst e4; rw [ruC_4 (markR f n (j + 1)), hm]; simp [beyR]
  rw [if_neg e4, if_neg e3, if_neg e2, if_neg e1, if_neg e0]
  have hq : c / 5 ≠ j := by omega
  have : markR f n (j + 1) (c / 5) = markR f n j (c / 5) := by
    unfold markR
    by_cases h1 : c / 5 < n
    · simp [h1]
    · have h2 : (c / 5 < j + 1) = (c / 5 < j) := by simp; omega
      simp [h1, h2]
  unfold ruC
  rw [this]

theorem made_rules (w : World) (N : Nat) : (w.alloc (.cells (madeCells #[.string ByteArray.empty, .int .i64 0, .int .i64 0, .string ByteArray.empty, .string ByteArray.empty] (N * 5)) 57)).rowIs w.heap.size 57 (N * 5) (ruC fun _ => nilR) := by
  refine ⟨_, heap_alloc_new _ _, size_madeCells _ _, fun i hi => ?_⟩
  have : i % 5 = 0 ∨ i % 5 = 1 ∨ i % 5 = 2 ∨ i % 5 = 3 ∨ i % 5 = 4 := by omega
  rcases this with h | h | h | h | h <;> simp [madeCells, hi, ruC, h, nilR]

set_option maxRecDepth 100000 in
set_option maxHeartbeats 2000000 in
theorem writes_of (hW : ∀ (wx : World) (ao : Option Addr) (n cap b off : Nat) (f : Nat → Rl), RulesIn wx.heap.size wx ao n b off f → Calls Tryz.prog 37 #[.slice ao n cap] wx fun e w' => e = .returned (.tuple #[.string (wrV f n), .int .i64 (wrE f n)]) ∧ Below wx.heap.size wx w')
    (kind : Int) (na : Option Addr) (n nc : Nat) (ea : Option Addr) (m ec : Nat) (a b : ByteArray) (lev : Int) (ra : Option Addr) (rn rc rb ro : Nat) (f : Nat → Rl) (w : World) (h : RulesIn w.heap.size w ra rn rb ro f) :
    Calls Tryz.prog 15 #[.agg #[.int .i64 kind, .slice na n nc, .slice ea m ec, .string a, .string b, .int .i64 lev, .slice ra rn rc]] w fun e w' => e = .returned (.bool true) ∧ Below w.heap.size w w' := by
  have HWR : Hid (∀ (wx : World) (ao : Option Addr) (n cap b off : Nat) (f : Nat → Rl), RulesIn wx.heap.size wx ao n b off f → Calls Tryz.prog 37 #[.slice ao n cap] wx fun e w' => e = .returned (.tuple #[.string (wrV f n), .int .i64 (wrE f n)]) ∧ Below wx.heap.size wx w') := hW
  have HR : Hid (RulesIn w.heap.size w ra rn rb ro f) := h
  have hle := h.le
  clear hW h
  have mk1 := run_made (P := Tryz.prog) 29 57 _ 5 64 Tryz.underlying29 infoRule (rn + 8) (by omega) (by omega)
  rw [show ((rn + 8 : Nat) : Int) = (rn : Int) + 8 by omega] at mk1
  obtain ⟨V, hV⟩ : ∃ V, V = w.alloc (.cells #[.int .i64 kind, .slice na n nc, .slice ea m ec, .string a, .string b, .int .i64 lev, .slice ra rn rc] 31) := ⟨_, rfl⟩
  have HVZ : Hid (V.heap.size = w.heap.size + 1) := by show _ = _; rw [hV]; exact size_one _ _
  have HVB : Hid (Below w.heap.size w V) := by show Below _ _ _; rw [hV]; exact below_one _
  have hmr := made_rules V (rn + 8)
  rw [HVZ.out] at hmr
  have HSRC : Hid (0 < rn → ∃ sb so, ra = some ⟨sb, so, none⟩ ∧ ∀ j, j < rn * 5 → (V.alloc (.cells (madeCells #[.string ByteArray.empty, .int .i64 0, .int .i64 0, .string ByteArray.empty, .string ByteArray.empty] ((rn + 8) * 5)) 57)).cell? ⟨sb, so + j, none⟩ = some (ruC f j)) := fun h0 =>
    ⟨_, _, HR.out.addr h0, fun j hj => cellTo (below_then HVB.out (below_one _)) (HR.out.flat j hj) (HR.out.lt h0)⟩
  obtain ⟨w1, hcp, hO1, hr1⟩ := run_copy_rows (P := Tryz.prog) (V.alloc (.cells (madeCells #[.string ByteArray.empty, .int .i64 0, .int .i64 0, .string ByteArray.empty, .string ByteArray.empty] ((rn + 8) * 5)) 57)) 29 29 3 57 5 (w.heap.size + 1) (rn + 8) (rn + 8) ra rn rc 57 ((rn + 8) * 5) _ (ruC f) Tryz.underlying29 sizeRule (by omega) hmr (by omega) HSRC.out (fun j _ => ruC_one f j)
  have HROW : Hid (w1.rowIs (w.heap.size + 1) 57 ((rn + 8) * 5) (ruC (markR f rn rn))) := hr1.congr fun c hc => by
    by_cases hcr : c < rn * 5
    · rw [if_pos hcr]
      have h1 : c / 5 < rn := by omega
      simp [ruC, markR, h1]
    · rw [if_neg hcr]
      have h1 : ¬ c / 5 < rn := by omega
      simp [ruC, markR, h1]
  have HO1 : Hid (OnlyRow (w.heap.size + 1) (V.alloc (.cells (madeCells #[.string ByteArray.empty, .int .i64 0, .int .i64 0, .string ByteArray.empty, .string ByteArray.empty] ((rn + 8) * 5)) 57)) w1) := hO1
  have HBOX : Hid (w1.rowIs w.heap.size 31 7 (fun j => #[Value.int .i64 kind, .slice na n nc, .slice ea m ec, .string a, .string b, .int .i64 lev, .slice ra rn rc].getD j undef)) := by
    show World.rowIs _ _ _ _ _
    refine hO1.row (World.rowIs.alloc ?_ _) (by omega)
    rw [hV]
    exact row_new _ _ _ 7 rfl
  have HB1 : Hid (Below w.heap.size w w1) := hO1.below (below_then HVB.out (below_one _)) (by omega)
  rw [hV] at hcp
  clear hmr hr1 hO1 HSRC HO1 hV
  go_enter Tryz.func15, Tryz.ntmps15
  go_wp2
  clear mk1 hcp
  go_loopw [5] (fun iv wr => ∃ j : Nat, rn ≤ j ∧ j ≤ rn + 8 ∧ iv = .int .i64 (j : Nat) ∧ Below w.heap.size w wr ∧ wr.rowIs w.heap.size 31 7 (fun j => #[Value.int .i64 kind, .slice na n nc, .slice ea m ec, .string a, .string b, .int .i64 lev, .slice ra rn rc].getD j undef) ∧ wr.rowIs (w.heap.size + 1) 57 ((rn + 8) * 5) (ruC (markR f rn j))) (fun iv _ => rn + 8 - (intOf iv).toNat)
  case atStart => exact ⟨rn, Nat.le_refl _, by omega, rfl, HB1.out, HBOX.out, HROW.out⟩
  case round =>
    clear HB1 HBOX HROW
    obtain ⟨j, hj1, hj2, rfl, hbel, hbox, hrow⟩ := hrel
    have HBR : Hid (Below w.heap.size w wr) := hbel
    have HBX : Hid (wr.rowIs w.heap.size 31 7 (fun j => #[Value.int .i64 kind, .slice na n nc, .slice ea m ec, .string a, .string b, .int .i64 lev, .slice ra rn rc].getD j undef)) := hbox
    have HRW : Hid (wr.rowIs (w.heap.size + 1) 57 ((rn + 8) * 5) (ruC (markR f rn j))) := hrow
    clear hbel hbox hrow
    by_cases hlt : j < rn + 8
    · have d0 := HRW.out.cell (i := j * 5) (by omega)
      have d1 := HRW.out.cell (i := j * 5 + 1) (by omega)
      have d2 := HRW.out.cell (i := j * 5 + 2) (by omega)
      have d3 := HRW.out.cell (i := j * 5 + 3) (by omega)
      have d4 := HRW.out.cell (i := j * 5 + 4) (by omega)
      have g0 := HRW.out.frozen (j * 5)
      have g1 := HRW.out.frozen (j * 5 + 1)
      have g2 := HRW.out.frozen (j * 5 + 2)
      have g3 := HRW.out.frozen (j * 5 + 3)
      have g4 := HRW.out.frozen (j * 5 + 4)
      go_wp2
      go_roundw
      case rel =>
        have hO : OnlyRow (w.heap.size + 1) wr (((((wr.setCell ⟨w.heap.size + 1, j * 5, none⟩ (.string ByteArray.empty)).setCell ⟨w.heap.size + 1, j * 5 + 1, none⟩ (.int .i64 0)).setCell ⟨w.heap.size + 1, j * 5 + 2, none⟩ (.int .i64 0)).setCell ⟨w.heap.size + 1, j * 5 + 3, none⟩ (.string { data := #[98, 101, 121, 111, 110, 100] })).setCell ⟨w.heap.size + 1, j * 5 + 4, none⟩ (.string ByteArray.empty)) :=
          ((((OnlyRow.setCell _ _ _ _).trans (OnlyRow.setCell _ _ _ _)).trans (OnlyRow.setCell _ _ _ _)).trans (OnlyRow.setCell _ _ _ _)).trans (OnlyRow.setCell _ _ _ _)
        exact ⟨j + 1, by omega, by omega, by go_num, hO.below HBR.out (by omega), hO.row HBX.out (by omega), mark_rule hj1 HRW.out⟩
      case measure => simp [intOf]; omega
    · have hje : j = rn + 8 := by omega
      subst hje
      have hR1 : RulesIn wr.heap.size wr (some ⟨w.heap.size + 1, 0, none⟩) rn (w.heap.size + 1) 0 f := rules_row (N := rn + 8) HRW.out (by omega) (fun i hi => by simp [markR, hi]) hle HR.out.fit
      have HR1 : Hid (∀ wx, Below wr.heap.size wr wx → RulesIn wx.heap.size wx (some ⟨w.heap.size + 1, 0, none⟩) rn (w.heap.size + 1) 0 f) := fun wx hx => hR1.later hx
      obtain ⟨ev, hev⟩ : ∃ x, x = wrV f rn := ⟨_, rfl⟩
      obtain ⟨er, her⟩ : ∃ x, x = wrE f rn := ⟨_, rfl⟩
      have HE : Hid (ev = wrV f rn ∧ er = wrE f rn) := ⟨hev, her⟩
      have HCW : Hid (Calls Tryz.prog 37 #[.slice (some ⟨w.heap.size + 1, 0, none⟩) rn (rn + 8)] wr fun e w' => e = .returned (.tuple #[.string ev, .int .i64 er]) ∧ Below wr.heap.size wr w') := by
        show Calls _ _ _ _ _
        rw [hev, her]
        exact HWR.out _ _ _ _ _ _ _ hR1
      have HCR : Hid (∀ wx, Below wr.heap.size wr wx → Calls Tryz.prog 38 #[.slice ra rn rc] wx fun e w' => e = .returned (.tuple #[.string ev, .int .i64 er]) ∧ Below wx.heap.size wx w') := fun wx hx => by
        rw [hev, her]
        exact refWrite_any _ _ _ _ _ _ _ (HR.out.later (below_then HBR.out hx))
      have HB6 : Hid (∀ wx, Below wr.heap.size wr wx → wx.cell? ⟨w.heap.size, 6, none⟩ = some (.slice ra rn rc)) := fun wx hx => cellTo hx (HBX.out.cell (i := 6) (by omega)) HBX.out.lt
      have b6 := HB6.out wr (Below.refl _ _)
      clear hR1 hev her
      go_wp2_with fail
      refine Calls.mono HCW.out ?_
      rintro e w2 ⟨rfl, hb2⟩
      have HB2 : Hid (Below wr.heap.size wr w2) := hb2
      have b6' := HB6.out w2 hb2
      clear hb2 b6 HCW
      go_wp2_with fail
      refine (HCR.out w2 HB2.out).mono ?_
      rintro e w3 ⟨rfl, hb3⟩
      have HB3 : Hid (Below wr.heap.size wr w3) := below_then HB2.out hb3
      have b6'' := HB6.out w3 HB3.out
      clear hb3 b6' HCR
      have hz3 : w.heap.size < w3.heap.size := by have := HB3.out.size; have := HBX.out.lt; omega
      have y6 := Wb.cell (w := w3) (B := w3.heap.size) (by show w.heap.size < _; omega) b6''
      have HI : Hid (∀ x : Wb w3.heap.size w3, RulesIn x.val.heap.size x.val (some ⟨w.heap.size + 1, 0, none⟩) rn (w.heap.size + 1) 0 f ∧ RulesIn x.val.heap.size x.val ra rn rb ro f) := fun x => ⟨HR1.out _ (below_then HB3.out x.below), HR.out.later (below_then HBR.out (below_then HB3.out x.below))⟩
      go_wp2
      refine wp_region_below w3.heap.size (by kernel_rfl) (by kernel_rfl) ?_
      repeat (go_big_quiet_step ((go_at_call 36; exact Wb.ofCall _ (Nat.le_refl _) (sameRules_any _ _ _ _ _ _ _ _ _ f _ (HI.out _).1 (HI.out _).2))))
      refine wpQuiet_nil ?_
      rintro _ ⟨xx, rfl⟩
      have hb4 := xx.below
      generalize xx.val = w4 at hb4
      have HB4 : Hid (Below wr.heap.size wr w4) := below_then HB3.out hb4
      have b6n := HB6.out w4 HB4.out
      clear hb4 b6'' y6 HI
      go_wp2
      go_loopw [10, 11] (fun wv iv wx => ∃ q : Nat, rn ≤ q ∧ q ≤ rn + 8 ∧ wv = .bool true ∧ iv = .int .i64 (q : Nat) ∧ Below wr.heap.size wr wx) (fun _ iv _ => rn + 8 - (intOf iv).toNat)
      case atStart => exact ⟨rn, Nat.le_refl _, by omega, rfl, rfl, HB4.out⟩
      case round =>
        rename World => wx
        clear b6n HB4
        obtain ⟨q, hq1, hq2, rfl, rfl, hbx⟩ := hrel
        have HBQ : Hid (Below wr.heap.size wr wx) := hbx
        have b6 := HB6.out wx hbx
        by_cases hql : q < rn + 8
        · have hd := cellTo hbx (HRW.out.cell (i := q * 5 + 3) (by omega)) HRW.out.lt
          have hm : markR f rn (rn + 8) q = beyR := by
            have h1 : ¬ q < rn := by omega
            simp [markR, h1, hql]
          rw [ruC_3, hm] at hd
          simp only [beyR] at hd
          clear hm hbx
          go_wp2
          go_roundw
          case rel => exact ⟨q + 1, by omega, by omega, by trivial, by go_num, HBQ.out⟩
          case measure => simp [intOf]; omega
        · have hqe : q = rn + 8 := by omega
          subst hqe
          have HBW : Hid (Below w.heap.size w wx) := below_then HBR.out hbx
          clear hbx
          go_wp2
          go_ret
          exact ⟨by first | rfl | simp, HBW.out⟩

end Go.Proofs.YtpclldccjpncdaaGreat
