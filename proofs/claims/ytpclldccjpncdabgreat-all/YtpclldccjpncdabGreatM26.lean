import Derived.Test.YtpclldccjpncdabGreatM25
namespace Go.Proofs.YtpclldccjpncdabGreat
open Go.RowKit

set_option maxHeartbeats 400000 in
theorem sameRule_any (x : Rl) (w : World) :
    Calls Tryz.prog 56 #[.agg #[.string x.reset, .int .i64 x.before, .int .i64 x.level, .string x.text, .string x.more], .agg #[.string x.reset, .int .i64 x.before, .int .i64 x.level, .string x.text, .string x.more]] w fun e w' => e = .returned (.bool true) ∧ Below w.heap.size w w' := by
  obtain ⟨reset, before, level, text, more⟩ := x
  simp only
  go_enter Tryz.func56, Tryz.ntmps56
  go_wp2
  go_ret
  exact ⟨rfl, below_then (below_one _) (below_one _)⟩

set_option maxRecDepth 100000 in
set_option maxHeartbeats 1000000 in
theorem sameRules_any (n b off b' off' cap cap' : Nat) (ao ao' : Option Addr) (f : Nat → Rl) (w : World) (h : RulesIn w.heap.size w ao n b off f) (h' : RulesIn w.heap.size w ao' n b' off' f) :
    Calls Tryz.prog 31 #[.slice ao n cap, .slice ao' n cap'] w fun e w' => e = .returned (.bool true) ∧ Below w.heap.size w w' := by
  have HR : Hid (RulesIn w.heap.size w ao n b off f) := h
  have HR' : Hid (RulesIn w.heap.size w ao' n b' off' f) := h'
  have hle := h.le
  clear h h'
  go_enter Tryz.func31, Tryz.ntmps31
  go_wp2
  go_loopw [5] (fun i wr => ∃ j : Nat, j ≤ n ∧ i = .int .i64 j ∧ Below w.heap.size w wr) (fun i _ => n - (intOf i).toNat)
  case atStart => exact ⟨0, Nat.zero_le _, rfl, Below.refl _ _⟩
  case round =>
    obtain ⟨j, hj, rfl, hbel⟩ := hrel
    have hsz := hbel.size
    by_cases hlt : j < n
    · have e1 := HR.out.addr (by omega)
      have e2 := HR'.out.addr (by omega)
      subst e1
      subst e2
      have l1 := HR.out.lt (by omega)
      have l2 := HR'.out.lt (by omega)
      obtain ⟨x, hx⟩ : ∃ x, x = f j := ⟨_, rfl⟩
      have d0 := Wb.cell (w := wr) (B := wr.heap.size) (by show b < _; omega) (cellTo hbel (HR.out.c0 j hlt) l1)
      have d1 := Wb.cell (w := wr) (B := wr.heap.size) (by show b < _; omega) (cellTo hbel (HR.out.c1 j hlt) l1)
      have d2 := Wb.cell (w := wr) (B := wr.heap.size) (by show b < _; omega) (cellTo hbel (HR.out.c2 j hlt) l1)
      have d3 := Wb.cell (w := wr) (B := wr.heap.size) (by show b < _; omega) (cellTo hbel (HR.out.c3 j hlt) l1)
      have d4 := Wb.cell (w := wr) (B := wr.heap.size) (by show b < _; omega) (cellTo hbel (HR.out.c4 j hlt) l1)
      have g0 := Wb.cell (w := wr) (B := wr.heap.size) (by show b' < _; omega) (cellTo hbel (HR'.out.c0 j hlt) l2)
      have g1 := Wb.cell (w := wr) (B := wr.heap.size) (by show b' < _; omega) (cellTo hbel (HR'.out.c1 j hlt) l2)
      have g2 := Wb.cell (w := wr) (B := wr.heap.size) (by show b' < _; omega) (cellTo hbel (HR'.out.c2 j hlt) l2)
      have g3 := Wb.cell (w := wr) (B := wr.heap.size) (by show b' < _; omega) (cellTo hbel (HR'.out.c3 j hlt) l2)
      have g4 := Wb.cell (w := wr) (B := wr.heap.size) (by show b' < _; omega) (cellTo hbel (HR'.out.c4 j hlt) l2)
      rw [← hx] at d0 d1 d2 d3 d4 g0 g1 g2 g3 g4
      clear hx
      go_wp2
      refine wp_region_below wr.heap.size (by kernel_rfl) (by kernel_rfl) ?_
      repeat (go_big_quiet_step ((go_at_call 56; exact Wb.ofCall _ (Nat.le_refl _) (sameRule_any _ _))))
      refine wpQuiet_nil ?_
      rintro _ ⟨y, rfl⟩
      have hy := y.below
      generalize y.val = w2 at hy
      clear d0 d1 d2 d3 d4 g0 g1 g2 g3 g4
      go_wp2
      go_roundw
      case rel => exact ⟨j + 1, by omega, by go_num, below_then hbel hy⟩
      case measure => simp [intOf]; omega
    · go_wp2
      go_ret
      exact ⟨rfl, hbel⟩

end Go.Proofs.YtpclldccjpncdabGreat

namespace Go.Proofs.YtpclldccjpncdabGreat
open Go.RowKit

set_option maxRecDepth 100000 in
set_option maxHeartbeats 1000000 in
theorem reads_any (kind : Int) (na : Option Addr) (n nc : Nat) (ea : Option Addr) (m ec : Nat) (a b : ByteArray) (lev : Int) (ra : Option Addr) (rn rc : Nat) (w : World) (ha : a.size ≤ 140737488351232) :
    Calls Tryz.prog 9 #[.agg #[.int .i64 kind, .slice na n nc, .slice ea m ec, .string a, .string b, .int .i64 lev, .slice ra rn rc]] w fun e w' => e = .returned (.bool true) ∧ Below w.heap.size w w' := by
  have HA : Hid ((w.alloc (.cells #[.int .i64 kind, .slice na n nc, .slice ea m ec, .string a, .string b, .int .i64 lev, .slice ra rn rc] 31)).cell? ⟨w.heap.size, 3, none⟩ = some (.string a)) := by show _ = _; go_simp
  have HC : Hid (∀ w, Calls Tryz.prog 29 #[.string a] w fun e w' => ∃ (L : List Rl) (v : Value) (p : Nat) (er : Int), e = .returned (.tuple #[v, .int .i64 er, .int .i64 (p : Nat)]) ∧ Hid (rdAll a = (L, er, p) ∧ L.length ≤ 120) ∧ Hid (w'.ownsRow w.heap.size 57 5 v L.length (rulC L)) ∧ Below w.heap.size w w') := fun w => read_any a w ha
  have HD : Hid (∀ w, Calls Tryz.prog 30 #[.string a] w fun e w' => ∃ (L : List Rl) (v : Value) (p : Nat) (er : Int), e = .returned (.tuple #[v, .int .i64 er, .int .i64 (p : Nat)]) ∧ Hid (rdAll a = (L, er, p) ∧ L.length ≤ 120) ∧ Hid (w'.ownsRow w.heap.size 57 5 v L.length (rulC L)) ∧ Below w.heap.size w w') := fun w => refRead_any a w ha
  have HSM : Hid (∀ x ∈ (rdAll a).1, x.small) := rdAll_small a
  go_enter Tryz.func9, Tryz.ntmps9
  go_wp2_with fail
  refine (HC.out _).mono ?_
  rintro e w1 ⟨L, v, p, er, rfl, HE, HO, hb1⟩
  have a1 := cellTo hb1 HA.out (by show w.heap.size < _; simp)
  have HB1 : Hid (Below w.heap.size w w1) := below_then (below_one _) hb1
  have hz1 : w.heap.size < w1.heap.size := by have := hb1.size; simp at this; omega
  clear hb1
  go_wp2_with fail
  refine (HD.out _).mono ?_
  rintro e w2 ⟨L', v', p', er', rfl, HE', HO', hb2⟩
  have heq : (L, er, p) = (L', er', p') := by rw [← HE.out.1, ← HE'.out.1]
  have hL : L = L' := by injection heq
  have her : er = er' := by injection heq with _ h; injection h
  have hp : p = p' := by injection heq with _ h; injection h
  have hsm : ∀ x ∈ L, x.small := by have := HSM.out; rw [HE.out.1] at this; exact this
  subst hL
  subst her
  subst hp
  have hn : L.length ≤ 1000 := by have := HE.out.2; omega
  obtain ⟨ao, bo, co, hv, hin⟩ := rules_in (ownC_below HO.out hb2) hn hsm
  obtain ⟨ao', bo', co', hv', hin'⟩ := rules_in HO'.out hn hsm
  subst hv
  subst hv'
  have HIN : Hid (RulesIn w2.heap.size w2 ao L.length bo 0 (fun i => L.getD i default)) := hin
  have HIN' : Hid (RulesIn w2.heap.size w2 ao' L.length bo' 0 (fun i => L.getD i default)) := hin'
  have HB2 : Hid (Below w.heap.size w w2) := below_then HB1.out hb2
  obtain ⟨ln, hln⟩ : ∃ x, x = L.length := ⟨_, rfl⟩
  have HSR : Hid (Calls Tryz.prog 31 #[.slice ao L.length co, .slice ao' L.length co'] w2 fun e w' => e = .returned (.bool true) ∧ Below w2.heap.size w2 w') := sameRules_any _ _ _ _ _ _ _ _ _ _ w2 HIN.out HIN'.out
  clear heq hsm hn hin hin' hb2 a1
  rw [← hln] at HSR ⊢
  clear hln
  go_wp2_with fail
  refine Calls.mono HSR.out ?_
  rintro e w3 ⟨rfl, hb3⟩
  have he : (er == er) = true := by simp
  have he2 : ((p : Int) == (p : Int)) = true := by simp
  have HB3 : Hid (Below w.heap.size w w3) := below_then HB2.out hb3
  clear hb3
  go_wp2
  go_ret
  exact ⟨rfl, HB3.out⟩

set_option maxHeartbeats 400000 in
theorem plays_read (L : Lay) (a b : ByteArray) (lev : Int) (ra : Option Addr) (rn rc : Nat) (w : World) (ha : a.size ≤ 140737488351232) :
    Calls Tryz.prog 6 #[.agg #[.int .i64 7, .slice L.na L.n L.nc, .slice L.ea L.m L.ec, .string a, .string b, .int .i64 lev, .slice ra rn rc]] w fun e w' => e = .returned (.bool true) ∧ Below w.heap.size w w' := by
  go_enter Tryz.func6, Tryz.ntmps6
  go_wp2_with fail
  refine (reads_any _ _ _ _ _ _ _ _ _ _ _ _ _ _ ha).mono ?_
  rintro e w1 ⟨rfl, hb1⟩
  go_wp2
  go_ret
  exact ⟨rfl, below_then (below_one _) hb1⟩

end Go.Proofs.YtpclldccjpncdabGreat

namespace Go.Proofs.YtpclldccjpncdabGreat
open Go.RowKit

theorem infoRule : (Tryz.prog.info? 57).map (fun i => (i.zero, i.size, i.bytes)) = some (some (.agg #[.string ByteArray.empty, .int .i64 0, .int .i64 0, .string ByteArray.empty, .string ByteArray.empty]), 5, 64) := by kernel_rfl
theorem sizeRule : (Tryz.prog.info? 57).map (·.size) = some 5 := by kernel_rfl
/-- the cells of rules -/
def ruC (f : Nat → Rl) (c : Nat) : Value :=
  if c % 5 = 0 then .string (f (c / 5)).reset else if c % 5 = 1 then .int .i64 (f (c / 5)).before else if c % 5 = 2 then .int .i64 (f (c / 5)).level else if c % 5 = 3 then .string (f (c / 5)).text else .string (f (c / 5)).more
theorem ruC_0 (f : Nat → Rl) (i : Nat) : ruC f (i * 5) = .string (f i).reset := by
  have h1 : i * 5 % 5 = 0 := by omega
  have h2 : i * 5 / 5 = i := by omega
  simp [ruC, h1, h2]
theorem ruC_1 (f : Nat → Rl) (i : Nat) : ruC f (i * 5 + 1) = .int .i64 (f i).before := by
  have h1 : (i * 5 + 1) % 5 = 1 := by omega
  have h2 : (i * 5 + 1) / 5 = i := by omega
  simp [ruC, h1, h2]
theorem ruC_2 (f : Nat → Rl) (i : Nat) : ruC f (i * 5 + 2) = .int .i64 (f i).level := by
  have h1 : (i * 5 + 2) % 5 = 2 := by omega
  have h2 : (i * 5 + 2) / 5 = i := by omega
  simp [ruC, h1, h2]
theorem ruC_3 (f : Nat → Rl) (i : Nat) : ruC f (i * 5 + 3) = .string (f i).text := by
  have h1 : (i * 5 + 3) % 5 = 3 := by omega
  have h2 : (i * 5 + 3) / 5 = i := by omega
  simp [ruC, h1, h2]
theorem ruC_4 (f : Nat → Rl) (i : Nat) : ruC f (i * 5 + 4) = .string (f i).more := by
  have h1 : (i * 5 + 4) % 5 = 4 := by omega
  have h2 : (i * 5 + 4) / 5 = i := by omega
  simp [ruC, h1, h2]
theorem ruC_one (f : Nat → Rl) (c : Nat) : (ruC f c).oneCell' = true := by
  unfold ruC
  repeat' split
  all_goals rfl
theorem RulesIn.flat {B : Nat} {w : World} {ao : Option Addr} {n b off : Nat} {f : Nat → Rl} (h : RulesIn B w ao n b off f) (c : Nat) (hc : c < n * 5) : w.cell? ⟨b, off + c, none⟩ = some (ruC f c) := by
  have : c % 5 = 0 ∨ c % 5 = 1 ∨ c % 5 = 2 ∨ c % 5 = 3 ∨ c % 5 = 4 := by omega
  obtain ⟨i, hi⟩ : ∃ i, i = c / 5 := ⟨_, rfl⟩
  rcases this with h' | h' | h' | h' | h'
  · have e : c = i * 5 := by omega
    rw [e, ruC_0]; exact h.c0 i (by omega)
  · have e : c = i * 5 + 1 := by omega
    rw [e, ruC_1, ← Nat.add_assoc]; exact h.c1 i (by omega)
  · have e : c = i * 5 + 2 := by omega
    rw [e, ruC_2, ← Nat.add_assoc]; exact h.c2 i (by omega)
  · have e : c = i * 5 + 3 := by omega
    rw [e, ruC_3, ← Nat.add_assoc]; exact h.c3 i (by omega)
  · have e : c = i * 5 + 4 := by omega
    rw [e, ruC_4, ← Nat.add_assoc]; exact h.c4 i (by omega)
def beyR : Rl := ⟨ByteArray.empty, 0, 0, { data := #[98, 101, 121, 111, 110, 100] }, ByteArray.empty⟩
def nilR : Rl := ⟨ByteArray.empty, 0, 0, ByteArray.empty, ByteArray.empty⟩
def markR (f : Nat → Rl) (n j i : Nat) : Rl := if i < n then f i else if i < j then beyR else nilR
/-- a row of rules is rules in memory -/
theorem rules_row {w : World} {g n N : Nat} {f F : Nat → Rl} (h : w.rowIs g 57 (N * 5) (ruC F)) (hn : n ≤ N) (hF : ∀ i, i < n → F i = f i) (hle : n * 64 ≤ 140737488351232)
    (hfit : ∀ i, i < n → (f i).reset.size ≤ 140737488351232 ∧ (f i).text.size ≤ 140737488351232 ∧ (f i).more.size ≤ 140737488351232) : RulesIn w.heap.size w (some ⟨g, 0, none⟩) n g 0 f := by
  refine ⟨fun _ => rfl, fun _ => h.lt, fun i hi => ?_, fun i hi => ?_, fun i hi => ?_, fun i hi => ?_, fun i hi => ?_, hle, hfit⟩
  · rw [Nat.zero_add, h.cell (by omega), ruC_0, hF i hi]
  · rw [Nat.zero_add, h.cell (by omega), ruC_1, hF i hi]
  · rw [Nat.zero_add, h.cell (by omega), ruC_2, hF i hi]
  · rw [Nat.zero_add, h.cell (by omega), ruC_3, hF i hi]
  · rw [Nat.zero_add, h.cell (by omega), ruC_4, hF i hi]
/-- one rule more is the mark -/
theorem mark_rule {w : World} {g n j N : Nat} {f : Nat → Rl} (hj : n ≤ j) (h : w.rowIs g 57 (N * 5) (ruC (markR f n j))) :
    (((((w.setCell ⟨g, j * 5, none⟩ (.string ByteArray.empty)).setCell ⟨g, j * 5 + 1, none⟩ (.int .i64 0)).setCell ⟨g, j * 5 + 2, none⟩ (.int .i64 0)).setCell ⟨g, j * 5 + 3, none⟩ (.string { data := #[98, 101, 121, 111, 110, 100] })).setCell ⟨g, j * 5 + 4, none⟩ (.string ByteArray.empty)).rowIs g 57 (N * 5) (ruC (markR f n (j + 1))) := by
  have hs := ((((h.set (j * 5) (.string ByteArray.empty)).set (j * 5 + 1) (.int .i64 0)).set (j * 5 + 2) (.int .i64 0)).set (j * 5 + 3) (.string { data := #[98, 101, 121, 111, 110, 100] })).set (j * 5 + 4) (.string ByteArray.empty)
  refine hs.congr fun c hc => ?_
  have hm : markR f n (j + 1) j = beyR := by
    have h1 : ¬ j < n := by omega
    simp [markR, h1]
  by_cases e0 : c = j * 5
  · subst e0; rw [ruC_0 (markR f n (j + 1)), hm]; simp [beyR]
  by_cases e1 : c = j * 5 + 1
  · subst e1; rw [ruC_1 (markR f n (j + 1)), hm]; simp [beyR]
  by_cases e2 : c = j * 5 + 2
  · subst e2; rw [ruC_2 (markR f n (j + 1)), hm]; simp [beyR]
  by_cases e3 : c = j * 5 + 3
  · subst e3; rw [ruC_3 (markR f n (j + 1)), hm]; simp [beyR]
  by_cases e4 : c = j * 5 + 4
  · subst e4; rw [ruC_4 (markR f n (j + 1)), hm]; simp [beyR]
  rw [if_neg e4, if_neg e3, if_neg e2, if_neg e1, if_neg e0]
  have hq : c / 5 ≠ j := by omega
  have : markR f n (j + 1) (c / 5) = markR f n j (c / 5) := by
    unfold markR
    by_cases h1 : c / 5 < n
    · simp [h1]
    · have h2 : (c / 5 < j + 1) = (c / 5 < j) := by simp; omega
      simp [h1, h2]
  unfold ruC
  rw [this]

theorem made_rules (w : World) (N : Nat) : (w.alloc (.cells (madeCells #[.string ByteArray.empty, .int .i64 0, .int .i64 0, .string ByteArray.empty, .string ByteArray.empty] (N * 5)) 57)).rowIs w.heap.size 57 (N * 5) (ruC fun _ => nilR) := by
  refine ⟨_, heap_alloc_new _ _, size_madeCells _ _, fun i hi => ?_⟩
  have : i % 5 = 0 ∨ i % 5 = 1 ∨ i % 5 = 2 ∨ i % 5 = 3 ∨ i % 5 = 4 := by omega
  rcases this with h | h | h | h | h <;> simp [madeCells, hi, ruC, h, nilR]

set_option maxRecDepth 100000 in
set_option maxHeartbeats 2000000 in
theorem writes_of (hW : ∀ (wx : World) (ao : Option Addr) (n cap b off : Nat) (f : Nat → Rl), RulesIn wx.heap.size wx ao n b off f → Calls Tryz.prog 32 #[.slice ao n cap] wx fun e w' => e = .returned (.tuple #[.string (wrV f n), .int .i64 (wrE f n)]) ∧ Below wx.heap.size wx w')
    (kind : Int) (na : Option Addr) (n nc : Nat) (ea : Option Addr) (m ec : Nat) (a b : ByteArray) (lev : Int) (ra : Option Addr) (rn rc rb ro : Nat) (f : Nat → Rl) (w : World) (h : RulesIn w.heap.size w ra rn rb ro f) :
    Calls Tryz.prog 10 #[.agg #[.int .i64 kind, .slice na n nc, .slice ea m ec, .string a, .string b, .int .i64 lev, .slice ra rn rc]] w fun e w' => e = .returned (.bool true) ∧ Below w.heap.size w w' := by
  have HWR : Hid (∀ (wx : World) (ao : Option Addr) (n cap b off : Nat) (f : Nat → Rl), RulesIn wx.heap.size wx ao n b off f → Calls Tryz.prog 32 #[.slice ao n cap] wx fun e w' => e = .returned (.tuple #[.string (wrV f n), .int .i64 (wrE f n)]) ∧ Below wx.heap.size wx w') := hW
  have HR : Hid (RulesIn w.heap.size w ra rn rb ro f) := h
  have hle := h.le
  clear hW h
  have mk1 := run_made (P := Tryz.prog) 29 57 _ 5 64 Tryz.underlying29 infoRule (rn + 8) (by omega) (by omega)
  rw [show ((rn + 8 : Nat) : Int) = (rn : Int) + 8 by omega] at mk1
  obtain ⟨V, hV⟩ : ∃ V, V = w.alloc (.cells #[.int .i64 kind, .slice na n nc, .slice ea m ec, .string a, .string b, .int .i64 lev, .slice ra rn rc] 31) := ⟨_, rfl⟩
  have HVZ : Hid (V.heap.size = w.heap.size + 1) := by show _ = _; rw [hV]; exact size_one _ _
  have HVB : Hid (Below w.heap.size w V) := by show Below _ _ _; rw [hV]; exact below_one _
  have hmr := made_rules V (rn + 8)
  rw [HVZ.out] at hmr
  have HSRC : Hid (0 < rn → ∃ sb so, ra = some ⟨sb, so, none⟩ ∧ ∀ j, j < rn * 5 → (V.alloc (.cells (madeCells #[.string ByteArray.empty, .int .i64 0, .int .i64 0, .string ByteArray.empty, .string ByteArray.empty] ((rn + 8) * 5)) 57)).cell? ⟨sb, so + j, none⟩ = some (ruC f j)) := fun h0 =>
    ⟨_, _, HR.out.addr h0, fun j hj => cellTo (below_then HVB.out (below_one _)) (HR.out.flat j hj) (HR.out.lt h0)⟩
  obtain ⟨w1, hcp, hO1, hr1⟩ := run_copy_rows (P := Tryz.prog) (V.alloc (.cells (madeCells #[.string ByteArray.empty, .int .i64 0, .int .i64 0, .string ByteArray.empty, .string ByteArray.empty] ((rn + 8) * 5)) 57)) 29 29 3 57 5 (w.heap.size + 1) (rn + 8) (rn + 8) ra rn rc 57 ((rn + 8) * 5) _ (ruC f) Tryz.underlying29 sizeRule (by omega) hmr (by omega) HSRC.out (fun j _ => ruC_one f j)
  have HROW : Hid (w1.rowIs (w.heap.size + 1) 57 ((rn + 8) * 5) (ruC (markR f rn rn))) := hr1.congr fun c hc => by
    by_cases hcr : c < rn * 5
    · rw [if_pos hcr]
      have h1 : c / 5 < rn := by omega
      simp [ruC, markR, h1]
    · rw [if_neg hcr]
      have h1 : ¬ c / 5 < rn := by omega
      simp [ruC, markR, h1]
  have HO1 : Hid (OnlyRow (w.heap.size + 1) (V.alloc (.cells (madeCells #[.string ByteArray.empty, .int .i64 0, .int .i64 0, .string ByteArray.empty, .string ByteArray.empty] ((rn + 8) * 5)) 57)) w1) := hO1
  have HBOX : Hid (w1.rowIs w.heap.size 31 7 (fun j => #[Value.int .i64 kind, .slice na n nc, .slice ea m ec, .string a, .string b, .int .i64 lev, .slice ra rn rc].getD j undef)) := by
    show World.rowIs _ _ _ _ _
    refine hO1.row (World.rowIs.alloc ?_ _) (by omega)
    rw [hV]
    exact row_new _ _ _ 7 rfl
  have HB1 : Hid (Below w.heap.size w w1) := hO1.below (below_then HVB.out (below_one _)) (by omega)
  rw [hV] at hcp
  clear hmr hr1 hO1 HSRC HO1 hV
  go_enter Tryz.func10, Tryz.ntmps10
  go_wp2
  clear mk1 hcp
  go_loopw [5] (fun iv wr => ∃ j : Nat, rn ≤ j ∧ j ≤ rn + 8 ∧ iv = .int .i64 (j : Nat) ∧ Below w.heap.size w wr ∧ wr.rowIs w.heap.size 31 7 (fun j => #[Value.int .i64 kind, .slice na n nc, .slice ea m ec, .string a, .string b, .int .i64 lev, .slice ra rn rc].getD j undef) ∧ wr.rowIs (w.heap.size + 1) 57 ((rn + 8) * 5) (ruC (markR f rn j))) (fun iv _ => rn + 8 - (intOf iv).toNat)
  case atStart => exact ⟨rn, Nat.le_refl _, by omega, rfl, HB1.out, HBOX.out, HROW.out⟩
  case round =>
    clear HB1 HBOX HROW
    obtain ⟨j, hj1, hj2, rfl, hbel, hbox, hrow⟩ := hrel
    have HBR : Hid (Below w.heap.size w wr) := hbel
    have HBX : Hid (wr.rowIs w.heap.size 31 7 (fun j => #[Value.int .i64 kind, .slice na n nc, .slice ea m ec, .string a, .string b, .int .i64 lev, .slice ra rn rc].getD j undef)) := hbox
    have HRW : Hid (wr.rowIs (w.heap.size + 1) 57 ((rn + 8) * 5) (ruC (markR f rn j))) := hrow
    clear hbel hbox hrow
    by_cases hlt : j < rn + 8
    · have d0 := HRW.out.cell (i := j * 5) (by omega)
      have d1 := HRW.out.cell (i := j * 5 + 1) (by omega)
      have d2 := HRW.out.cell (i := j * 5 + 2) (by omega)
      have d3 := HRW.out.cell (i := j * 5 + 3) (by omega)
      have d4 := HRW.out.cell (i := j * 5 + 4) (by omega)
      have g0 := HRW.out.frozen (j * 5)
      have g1 := HRW.out.frozen (j * 5 + 1)
      have g2 := HRW.out.frozen (j * 5 + 2)
      have g3 := HRW.out.frozen (j * 5 + 3)
      have g4 := HRW.out.frozen (j * 5 + 4)
      go_wp2
      go_roundw
      case rel =>
        have hO : OnlyRow (w.heap.size + 1) wr (((((wr.setCell ⟨w.heap.size + 1, j * 5, none⟩ (.string ByteArray.empty)).setCell ⟨w.heap.size + 1, j * 5 + 1, none⟩ (.int .i64 0)).setCell ⟨w.heap.size + 1, j * 5 + 2, none⟩ (.int .i64 0)).setCell ⟨w.heap.size + 1, j * 5 + 3, none⟩ (.string { data := #[98, 101, 121, 111, 110, 100] })).setCell ⟨w.heap.size + 1, j * 5 + 4, none⟩ (.string ByteArray.empty)) :=
          ((((OnlyRow.setCell _ _ _ _).trans (OnlyRow.setCell _ _ _ _)).trans (OnlyRow.setCell _ _ _ _)).trans (OnlyRow.setCell _ _ _ _)).trans (OnlyRow.setCell _ _ _ _)
        exact ⟨j + 1, by omega, by omega, by go_num, hO.below HBR.out (by omega), hO.row HBX.out (by omega), mark_rule hj1 HRW.out⟩
      case measure => simp [intOf]; omega
    · have hje : j = rn + 8 := by omega
      subst hje
      have hR1 : RulesIn wr.heap.size wr (some ⟨w.heap.size + 1, 0, none⟩) rn (w.heap.size + 1) 0 f := rules_row (N := rn + 8) HRW.out (by omega) (fun i hi => by simp [markR, hi]) hle HR.out.fit
      have HR1 : Hid (∀ wx, Below wr.heap.size wr wx → RulesIn wx.heap.size wx (some ⟨w.heap.size + 1, 0, none⟩) rn (w.heap.size + 1) 0 f) := fun wx hx => hR1.later hx
      obtain ⟨ev, hev⟩ : ∃ x, x = wrV f rn := ⟨_, rfl⟩
      obtain ⟨er, her⟩ : ∃ x, x = wrE f rn := ⟨_, rfl⟩
      have HE : Hid (ev = wrV f rn ∧ er = wrE f rn) := ⟨hev, her⟩
      have HCW : Hid (Calls Tryz.prog 32 #[.slice (some ⟨w.heap.size + 1, 0, none⟩) rn (rn + 8)] wr fun e w' => e = .returned (.tuple #[.string ev, .int .i64 er]) ∧ Below wr.heap.size wr w') := by
        show Calls _ _ _ _ _
        rw [hev, her]
        exact HWR.out _ _ _ _ _ _ _ hR1
      have HCR : Hid (∀ wx, Below wr.heap.size wr wx → Calls Tryz.prog 33 #[.slice ra rn rc] wx fun e w' => e = .returned (.tuple #[.string ev, .int .i64 er]) ∧ Below wx.heap.size wx w') := fun wx hx => by
        rw [hev, her]
        exact refWrite_any _ _ _ _ _ _ _ (HR.out.later (below_then HBR.out hx))
      have HB6 : Hid (∀ wx, Below wr.heap.size wr wx → wx.cell? ⟨w.heap.size, 6, none⟩ = some (.slice ra rn rc)) := fun wx hx => cellTo hx (HBX.out.cell (i := 6) (by omega)) HBX.out.lt
      have b6 := HB6.out wr (Below.refl _ _)
      clear hR1 hev her
      go_wp2_with fail
      refine Calls.mono HCW.out ?_
      rintro e w2 ⟨rfl, hb2⟩
      have HB2 : Hid (Below wr.heap.size wr w2) := hb2
      have b6' := HB6.out w2 hb2
      clear hb2 b6 HCW
      go_wp2_with fail
      refine (HCR.out w2 HB2.out).mono ?_
      rintro e w3 ⟨rfl, hb3⟩
      have HB3 : Hid (Below wr.heap.size wr w3) := below_then HB2.out hb3
      have b6'' := HB6.out w3 HB3.out
      clear hb3 b6' HCR
      have hz3 : w.heap.size < w3.heap.size := by have := HB3.out.size; have := HBX.out.lt; omega
      have y6 := Wb.cell (w := w3) (B := w3.heap.size) (by show w.heap.size < _; omega) b6''
      have HI : Hid (∀ x : Wb w3.heap.size w3, RulesIn x.val.heap.size x.val (some ⟨w.heap.size + 1, 0, none⟩) rn (w.heap.size + 1) 0 f ∧ RulesIn x.val.heap.size x.val ra rn rb ro f) := fun x => ⟨HR1.out _ (below_then HB3.out x.below), HR.out.later (below_then HBR.out (below_then HB3.out x.below))⟩
      go_wp2
      refine wp_region_below w3.heap.size (by kernel_rfl) (by kernel_rfl) ?_
      repeat (go_big_quiet_step ((go_at_call 31; exact Wb.ofCall _ (Nat.le_refl _) (sameRules_any _ _ _ _ _ _ _ _ _ f _ (HI.out _).1 (HI.out _).2))))
      refine wpQuiet_nil ?_
      rintro _ ⟨xx, rfl⟩
      have hb4 := xx.below
      generalize xx.val = w4 at hb4
      have HB4 : Hid (Below wr.heap.size wr w4) := below_then HB3.out hb4
      have b6n := HB6.out w4 HB4.out
      clear hb4 b6'' y6 HI
      go_wp2
      go_loopw [10, 11] (fun wv iv wx => ∃ q : Nat, rn ≤ q ∧ q ≤ rn + 8 ∧ wv = .bool true ∧ iv = .int .i64 (q : Nat) ∧ Below wr.heap.size wr wx) (fun _ iv _ => rn + 8 - (intOf iv).toNat)
      case atStart => exact ⟨rn, Nat.le_refl _, by omega, rfl, rfl, HB4.out⟩
      case round =>
        rename World => wx
        clear b6n HB4
        obtain ⟨q, hq1, hq2, rfl, rfl, hbx⟩ := hrel
        have HBQ : Hid (Below wr.heap.size wr wx) := hbx
        have b6 := HB6.out wx hbx
        by_cases hql : q < rn + 8
        · have hd := cellTo hbx (HRW.out.cell (i := q * 5 + 3) (by omega)) HRW.out.lt
          have hm : markR f rn (rn + 8) q = beyR := by
            have h1 : ¬ q < rn := by omega
            simp [markR, h1, hql]
          rw [ruC_3, hm] at hd
          simp only [beyR] at hd
          clear hm hbx
          go_wp2
          go_roundw
          case rel => exact ⟨q + 1, by omega, by omega, by trivial, by go_num, HBQ.out⟩
          case measure => simp [intOf]; omega
        · have hqe : q = rn + 8 := by omega
          subst hqe
          have HBW : Hid (Below w.heap.size w wx) := below_then HBR.out hbx
          clear hbx
          go_wp2
          go_ret
          exact ⟨by first | rfl | simp, HBW.out⟩

end Go.Proofs.YtpclldccjpncdabGreat
