import Derived.Test.YtpclldccjpncdabGreatM01
namespace Go.Proofs.YtpclldccjpncdabGreat
open Go.RowKit

set_option maxHeartbeats 400000 in
theorem isEntry_any (tx : ByteArray) (k lc lb lo : Nat) (la : Option Addr) (z : Nat → Int) (n : Int) (w : World) (h : IntsIn w.heap.size w la k lb lo z) :
    Calls Tryz.prog 97 #[.agg #[.string tx, .slice la k lc], .int .i64 n] w fun e w' => e = .returned (.bool (entryB tx.size k z n)) ∧ Below w.heap.size w w' := by
  by_cases hs : (1 ≤ tx.size ∧ tx.size ≤ 3) ∧ (1 ≤ k ∧ k ≤ 4)
  · have hx := hs
    obtain ⟨⟨h1, h2⟩, h3, h4⟩ := hs
    have ha := h.addr (by omega)
    subst ha
    have hlt := h.lt (by omega)
    have hc : ∀ (o : Obj) (i : Nat), i < k → (w.alloc o).cell? ⟨lb, lo + i, none⟩ = some (.int .i64 (z i)) := fun o i hi => by
      rw [← h.cell i hi]; exact ((Below.refl w.heap.size w).alloc (Nat.le_refl _) o).cell (by exact hlt)
    clear h
    go_enter Tryz.func97, Tryz.ntmps97
    go_wp2
    go_loop [5] (fun i => ∃ j : Nat, j ≤ k ∧ i = .int .i64 j ∧ numsOk j z n) (fun i => k - (intOf i).toNat)
    case atStart => exact ⟨0, Nat.zero_le _, rfl, by intro j hj; omega⟩
    case round =>
      obtain ⟨j, hj, rfl, hok⟩ := hrel
      have HOK : Hid (numsOk j z n) := hok
      clear hok
      by_cases hjk : j < k
      · have hcj := fun o => hc o j hjk
        go_wp2
        · go_ret
          refine ⟨ret_bool (entryB_no ?_), (Below.refl _ _).alloc (Nat.le_refl _) _⟩
          intro H
          have := H.2.2 j hjk
          omega
        · go_round
          case rel => exact ⟨j + 1, by omega, by go_num, numsOk_step HOK.out (by omega) (by omega)⟩
          case measure => simp [intOf]; omega
        · go_ret
          refine ⟨ret_bool (entryB_no ?_), (Below.refl _ _).alloc (Nat.le_refl _) _⟩
          intro H
          have := H.2.2 j hjk
          omega
      · go_wp2
        go_ret
        have : j = k := by omega
        subst this
        exact ⟨ret_bool (entryB_yes ⟨hx.1, hx.2, HOK.out⟩), (Below.refl _ _).alloc (Nat.le_refl _) _⟩
  · have hno : ¬ entryOk tx.size k z n := fun H => hs ⟨H.1, H.2.1⟩
    have HN : Hid (¬ ((1 ≤ tx.size ∧ tx.size ≤ 3) ∧ (1 ≤ k ∧ k ≤ 4))) := hs
    have HO : Hid (¬ entryOk tx.size k z n) := hno
    clear h hs hno
    go_enter Tryz.func97, Tryz.ntmps97
    go_wp2
    all_goals first
      | (go_ret; exact ⟨ret_bool (entryB_no HO.out), (Below.refl _ _).alloc (Nat.le_refl _) _⟩)
      | (exfalso; have := HN.out; omega)

theorem less_no : ∀ a b : List UInt8, (Op.bytesLess a b = true ∨ a = b) → Op.bytesLess b a = false
  | [], [], _ => by simp [Op.bytesLess]
  | [], b :: bs, _ => by simp [Op.bytesLess]
  | a :: l, [], h => by simp [Op.bytesLess] at h
  | a :: l, b :: bs, h => by
    have ih := less_no l bs
    simp only [Op.bytesLess, Bool.or_eq_true, Bool.and_eq_true, decide_eq_true_eq, beq_iff_eq, List.cons.injEq, UInt8.lt_iff_toNat_lt, ← UInt8.toNat_inj, Bool.or_eq_false_iff, decide_eq_false_iff_not, Bool.and_eq_false_iff, beq_eq_false_iff_ne, ne_eq] at h ⊢
    rcases h with (h | ⟨h1, h2⟩) | ⟨h1, h2⟩
    · omega
    · exact ⟨by omega, .inr (ih (.inl h2))⟩
    · exact ⟨by omega, .inr (ih (.inr h2))⟩
theorem less_yes : ∀ a b : List UInt8, Op.bytesLess a b = false ∧ ¬ a = b → Op.bytesLess b a = true
  | [], [], h => absurd rfl h.2
  | [], b :: bs, h => by simp [Op.bytesLess] at h
  | a :: l, [], _ => by simp [Op.bytesLess]
  | a :: l, b :: bs, h => by
    have ih := less_yes l bs
    simp only [Op.bytesLess, Bool.or_eq_true, Bool.and_eq_true, decide_eq_true_eq, beq_iff_eq, List.cons.injEq, UInt8.lt_iff_toNat_lt, ← UInt8.toNat_inj, Bool.or_eq_false_iff, decide_eq_false_iff_not, Bool.and_eq_false_iff, beq_eq_false_iff_ne, ne_eq] at h ⊢
    obtain ⟨⟨h1, h2⟩, h3⟩ := h
    by_cases e : a.toNat = b.toNat
    · refine .inr ⟨e.symm, ih ⟨?_, fun h => h3 ⟨e, h⟩⟩⟩
      rcases h2 with h2 | h2
      · exact absurd e h2
      · exact h2
    · exact .inl (by omega)

set_option maxHeartbeats 400000 in
theorem validEntries_any (m cap b off : Nat) (ao : Option Addr) (tx : Nat → ByteArray) (la : Nat → Option Addr) (k lc lb lo : Nat → Nat) (z : Nat → Nat → Int) (n : Int) (w : World) (hm : m ≤ 48)
    (h : EntriesIn w.heap.size w ao m b off tx la k lc lb lo z) :
    Calls Tryz.prog 66 #[.slice ao m cap, .int .i64 n] w fun e w' => e = .returned (.bool (entriesB m tx k z n)) ∧ Below w.heap.size w w' := by
  go_enter Tryz.func66, Tryz.ntmps66
  go_wp2
  go_loopw [5] (fun i wr => ∃ j : Nat, j ≤ m ∧ i = .int .i64 j ∧ Below w.heap.size w wr ∧ entriesOk j tx k z n) (fun i _ => m - (intOf i).toNat)
  case atStart => exact ⟨0, Nat.zero_le _, rfl, Below.refl _ _, by intro j hj; omega⟩
  case round =>
    obtain ⟨j, hj, rfl, hbel, hok⟩ := hrel
    have HOK : Hid (entriesOk j tx k z n) := hok
    have HE : Hid (EntriesIn w.heap.size w ao m b off tx la k lc lb lo z) := h
    clear hok h
    by_cases hlt : j < m
    · have ha' := HE.out.addr (by omega)
      subst ha'
      have hbb := HE.out.lt (by omega)
      have hsz := hbel.size
      have c0 : wr.cell? ⟨b, off + j * 2, none⟩ = some (.string (tx j)) := (hbel.cell (by exact hbb)).trans (HE.out.text j hlt)
      have c1 : wr.cell? ⟨b, off + j * 2 + 1, none⟩ = some (.slice (la j) (k j) (lc j)) := (hbel.cell (by exact hbb)).trans (HE.out.list j hlt)
      have HI : Hid (IntsIn wr.heap.size wr (la j) (k j) (lb j) (lo j) (z j)) := ((HE.out.ints j hlt).below hbel).mono hsz
      go_wp2_with (go_at_call 97; refine (isEntry_any _ _ _ _ _ _ _ _ _ HI.out).mono ?_; rintro e w1 ⟨rfl, hb1⟩)
      · go_ret
        exact ⟨ret_bool (entriesB_no1 hlt (by simp_all)), hbel.trans (hb1.mono hsz)⟩
      · have hz1 := hb1.size
        by_cases h0 : 0 < j
        · have d0 := Wb.cell (w := w1) (B := wr.heap.size) (by show b < _; omega) ((hb1.cell (by show b < _; omega)).trans c0)
          have g0 := Wb.cell (w := w1) (B := wr.heap.size) (by show b < _; omega) ((hb1.cell (by show b < _; omega)).trans ((hbel.cell (by exact hbb)).trans (HE.out.text (j - 1) (by omega))))
          refine wp_region_below wr.heap.size (by kernel_rfl) (by kernel_rfl) ?_
          repeat (go_big_quiet_step (fail))
          refine wpQuiet_nil ?_
          rintro _ ⟨x, rfl⟩
          have hx := x.below
          generalize x.val = w2 at hx
          clear d0 g0
          go_wp2
          · go_ret
            refine ⟨ret_bool (entriesB_no2 hlt h0 ?_), hbel.trans ((hb1.trans hx).mono hsz)⟩
            refine less_no _ _ ?_
            simp_all
          · go_roundw
            case rel =>
              refine ⟨j + 1, by omega, by go_num, hbel.trans ((hb1.trans hx).mono hsz), entriesOk_step HOK.out (by simp_all) (fun _ => ?_)⟩
              refine less_yes _ _ ?_
              simp_all
            case measure => simp [intOf]; omega
        · have hd : decide (0 < j) = false := by simpa using h0
          refine wp_region_below wr.heap.size (by kernel_rfl) (by kernel_rfl) ?_
          repeat (go_big_quiet_step (fail))
          refine wpQuiet_nil ?_
          rintro _ ⟨x, rfl⟩
          have hx := x.below
          generalize x.val = w2 at hx
          go_wp2
          go_roundw
          case rel => exact ⟨j + 1, by omega, by go_num, hbel.trans ((hb1.trans hx).mono hsz), entriesOk_step HOK.out (by simp_all) (fun h => absurd h h0)⟩
          case measure => simp [intOf]; omega
    · go_wp2
      go_ret
      have : j = m := by omega
      subst this
      exact ⟨ret_bool (entriesB_yes HOK.out), hbel⟩

end Go.Proofs.YtpclldccjpncdabGreat

namespace Go.Proofs.YtpclldccjpncdabGreat
open Go.RowKit

/-- A table as it lies in memory. -/
structure Lay where
  n : Nat
  m : Nat
  na : Option Addr
  ea : Option Addr
  nc : Nat
  ec : Nat
  nb : Nat
  no : Nat
  eb : Nat
  eo : Nat
  p : Nat → Int
  s : Nat → Int
  t : Nat → Int
  tx : Nat → ByteArray
  la : Nat → Option Addr
  k : Nat → Nat
  lc : Nat → Nat
  lb : Nat → Nat
  lo : Nat → Nat
  z : Nat → Nat → Int

structure Lay.In (L : Lay) (B : Nat) (w : World) : Prop where
  nodes : NodesIn B w L.na L.n L.nb L.no L.p L.s L.t
  entries : EntriesIn B w L.ea L.m L.eb L.eo L.tx L.la L.k L.lc L.lb L.lo L.z
theorem Lay.In.below {L : Lay} {B : Nat} {w w' : World} (h : L.In B w) (hb : Below B w w') : L.In B w' := ⟨h.nodes.below hb, h.entries.below hb⟩
theorem Lay.In.mono {L : Lay} {B B' : Nat} {w : World} (h : L.In B w) (hB : B ≤ B') : L.In B' w := ⟨h.nodes.mono hB, h.entries.mono hB⟩
/-- the same, in a later world and below its own size -/
theorem Lay.In.later {L : Lay} {w w' : World} (h : L.In w.heap.size w) (hb : Below w.heap.size w w') : L.In w'.heap.size w' := (h.below hb).mono hb.size

noncomputable def Lay.err (L : Lay) : Int :=
  if 48 < L.n ∨ 48 < L.m then 1 else if nodesB L.n L.p L.s L.t = false then 2 else if entriesB L.m L.tx L.k L.z L.n = false then 3 else 0
theorem err_size {L : Lay} (h : 48 < L.n ∨ 48 < L.m) : 1 = L.err := by simp [Lay.err, h]
theorem err_node {L : Lay} (h : L.n ≤ 48) (h' : L.m ≤ 48) (h2 : nodesB L.n L.p L.s L.t = false) : 2 = L.err := by
  have : ¬ (48 < L.n ∨ 48 < L.m) := by omega
  simp [Lay.err, this, h2]
theorem err_entry {L : Lay} (h : L.n ≤ 48) (h' : L.m ≤ 48) (h2 : nodesB L.n L.p L.s L.t = true) (h3 : entriesB L.m L.tx L.k L.z L.n = false) : 3 = L.err := by
  have : ¬ (48 < L.n ∨ 48 < L.m) := by omega
  simp [Lay.err, this, h2, h3]
theorem err_ok {L : Lay} (h : L.n ≤ 48) (h' : L.m ≤ 48) (h2 : nodesB L.n L.p L.s L.t = true) (h3 : entriesB L.m L.tx L.k L.z L.n = true) : 0 = L.err := by
  have : ¬ (48 < L.n ∨ 48 < L.m) := by omega
  simp [Lay.err, this, h2, h3]

set_option maxHeartbeats 400000 in
theorem tableValid_any (L : Lay) (w : World) (h : L.In w.heap.size w) :
    Calls Tryz.prog 36 #[.agg #[.slice L.na L.n L.nc, .slice L.ea L.m L.ec]] w fun e w' => e = .returned (.int .i64 L.err) ∧ Below w.heap.size w w' := by
  by_cases hs : 48 < L.n ∨ 48 < L.m
  · have HS : Hid (1 = L.err) := err_size hs
    clear h
    rcases hs with hs | hs
    · go_enter Tryz.func36, Tryz.ntmps36
      go_wp2
      go_ret
      exact ⟨ret_int HS.out, (Below.refl _ _).alloc (Nat.le_refl _) _⟩
    · by_cases hs' : 48 < L.n
      all_goals
        go_enter Tryz.func36, Tryz.ntmps36
        go_wp2
        go_ret
        exact ⟨ret_int HS.out, (Below.refl _ _).alloc (Nat.le_refl _) _⟩
  · have h1 : L.n ≤ 48 := by omega
    have h2 : L.m ≤ 48 := by omega
    clear hs
    have HL : Hid (∀ w', Below w.heap.size w w' → L.In w'.heap.size w') := fun w' hb => h.later hb
    clear h
    go_enter Tryz.func36, Tryz.ntmps36
    go_wp2_with (first
      | (go_at_call 65; refine (validNodes_any _ _ _ _ _ _ _ _ _ h1 (HL.out _ (below_one _)).nodes).mono ?_; rintro e w1 ⟨rfl, hb1⟩; obtain ⟨hc, hf⟩ := bcell hb1; have hz1 := hb1.size)
      | (go_at_call 66; refine (validEntries_any _ _ _ _ _ _ _ _ _ _ _ _ _ _ h2 (HL.out _ (below_then (below_one _) hb1)).entries).mono ?_; rintro e w2 ⟨rfl, hb2⟩))
    · go_ret
      exact ⟨ret_int (err_node h1 h2 (by simp_all)), below_then (below_one _) hb1⟩
    · go_ret
      exact ⟨ret_int (err_entry h1 h2 (by simp_all) (by simp_all)), below_then (below_then (below_one _) hb1) hb2⟩
    · go_ret
      exact ⟨ret_int (err_ok h1 h2 (by simp_all) (by simp_all)), below_then (below_then (below_one _) hb1) hb2⟩

theorem valid_any (L : Lay) (w : World) (h : L.In w.heap.size w) :
    Calls Tryz.prog 13 #[.agg #[.slice L.na L.n L.nc, .slice L.ea L.m L.ec]] w fun e w' => e = .returned (.int .i64 L.err) ∧ Below w.heap.size w w' := by
  have HL : Hid (∀ w', Below w.heap.size w w' → L.In w'.heap.size w') := fun w' hb => h.later hb
  clear h
  go_enter Tryz.func13, Tryz.ntmps13
  go_wp2_with (go_at_call 36; refine (tableValid_any _ _ (HL.out _ (below_one _))).mono ?_; rintro e w1 ⟨rfl, hb1⟩)
  go_ret
  exact ⟨rfl, below_then (below_one _) hb1⟩

end Go.Proofs.YtpclldccjpncdabGreat

namespace Go.Proofs.YtpclldccjpncdabGreat
open Go.RowKit

set_option maxHeartbeats 400000 in
theorem refWeights_any (p s t : Int) (w : World) :
    Calls Tryz.prog 67 #[.agg #[.int .i64 p, .int .i64 s, .int .i64 t]] w fun e w' => e = .returned (.agg #[.int .i64 p, .int .i64 s, .int .i64 t]) ∧ (w.alloc (.cells #[.int .i64 p, .int .i64 s, .int .i64 t] 65)).alloc (.cells #[.int .i64 p, .int .i64 s, .int .i64 t] 95) = w' := by
  go_enter Tryz.func67, Tryz.ntmps67
  go_wp2
  exact bodyPost_ret (v := .agg #[.int .i64 p, .int .i64 s, .int .i64 t]) (by simp [results, Tryz.results67, go_sem]) rfl ⟨rfl, rfl⟩

theorem nodeB_no {p s t : Int} (h : ¬ ((0 ≤ p ∧ p ≤ 250) ∧ (0 ≤ s ∧ s ≤ 250) ∧ (1 ≤ t ∧ t ≤ 250) ∧ (p = 0 ∨ 0 < s))) : false = nodeB p s t := by simp [nodeB, h]
theorem nodeB_yes {p s t : Int} (h : (0 ≤ p ∧ p ≤ 250) ∧ (0 ≤ s ∧ s ≤ 250) ∧ (1 ≤ t ∧ t ≤ 250) ∧ (p = 0 ∨ 0 < s)) : true = nodeB p s t := by simp [nodeB, h]

set_option maxHeartbeats 400000 in
theorem refIsNode_any (p s t : Int) (w : World) :
    Calls Tryz.prog 37 #[.agg #[.int .i64 p, .int .i64 s, .int .i64 t]] w fun e w' => e = .returned (.bool (nodeB p s t)) ∧ Below w.heap.size w w' := by
  go_enter Tryz.func37, Tryz.ntmps37
  go_wp2_with (go_at_call 67; refine (refWeights_any _ _ _ _).mono ?_; rintro e _ ⟨rfl, rfl⟩)
  go_loop [4] (fun i => ∃ k : Nat, k ≤ 3 ∧ i = .int .i64 k ∧ (0 < k → 0 ≤ p ∧ p ≤ 250) ∧ (1 < k → 0 ≤ s ∧ s ≤ 250) ∧ (2 < k → 0 ≤ t ∧ t ≤ 250)) (fun i => 3 - (intOf i).toNat)
  case atStart => exact ⟨0, by omega, rfl, by omega, by omega, by omega⟩
  case round =>
    obtain ⟨k, hk, rfl, h1, h2, h3⟩ := hrel
    have HN : Hid ((0 < k → 0 ≤ p ∧ p ≤ 250) ∧ (1 < k → 0 ≤ s ∧ s ≤ 250) ∧ (2 < k → 0 ≤ t ∧ t ≤ 250)) := ⟨h1, h2, h3⟩
    clear h1 h2 h3
    have : k = 0 ∨ k = 1 ∨ k = 2 ∨ k = 3 := by omega
    rcases this with rfl | rfl | rfl | rfl
    all_goals go_wp2
    all_goals first
      | (go_round; (case rel => have := HN.out; first | exact ⟨1, by omega, rfl, by omega, by omega, by omega⟩ | exact ⟨2, by omega, rfl, by omega, by omega, by omega⟩ | exact ⟨3, by omega, rfl, by omega, by omega, by omega⟩); (case measure => simp [intOf]))
      | (go_ret; refine ⟨ret_bool ?_, below_then (below_then (below_then (below_one _) (below_one _)) (below_one _)) (below_one _)⟩; have := HN.out; first | exact nodeB_no (by omega) | exact nodeB_yes (by omega) | (rw [Bool.eq_iff_iff]; simp [nodeB]; omega))

def partsI (p s t p' s' t' : Int) : Int := if p ≠ p' then 1 else if s ≠ s' then 2 else if t ≠ t' then 3 else 0

set_option maxHeartbeats 800000 in
theorem refParts_any (p s t p' s' t' : Int) (w : World) :
    Calls Tryz.prog 68 #[.agg #[.int .i64 p, .int .i64 s, .int .i64 t], .agg #[.int .i64 p', .int .i64 s', .int .i64 t']] w fun e w' => e = .returned (.int .i64 (partsI p s t p' s' t')) ∧ Below w.heap.size w w' := by
  go_enter Tryz.func68, Tryz.ntmps68
  go_wp2_with (go_at_call 67; refine (refWeights_any _ _ _ _).mono ?_; rintro e _ ⟨rfl, rfl⟩)
  go_loopw [7] (fun i wr => ∃ k : Nat, k ≤ 3 ∧ i = .int .i64 k ∧ ((0 < k → p = p') ∧ (1 < k → s = s') ∧ (2 < k → t = t')) ∧ Below w.heap.size w wr ∧
      (wr.cell? ⟨w.heap.size + 1 + 1 + 1 + 1, 0, none⟩ = some (.int .i64 p) ∧ wr.cell? ⟨w.heap.size + 1 + 1 + 1 + 1, 1, none⟩ = some (.int .i64 s) ∧ wr.cell? ⟨w.heap.size + 1 + 1 + 1 + 1, 2, none⟩ = some (.int .i64 t)) ∧
      (wr.cell? ⟨w.heap.size + 1 + 1 + 1 + 1 + 1 + 1 + 1, 0, none⟩ = some (.int .i64 p') ∧ wr.cell? ⟨w.heap.size + 1 + 1 + 1 + 1 + 1 + 1 + 1, 1, none⟩ = some (.int .i64 s') ∧ wr.cell? ⟨w.heap.size + 1 + 1 + 1 + 1 + 1 + 1 + 1, 2, none⟩ = some (.int .i64 t')))
    (fun i _ => 3 - (intOf i).toNat)
  case atStart =>
    refine ⟨0, by omega, rfl, ⟨by omega, by omega, by omega⟩, ?_, ⟨?_, ?_, ?_⟩, ?_, ?_, ?_⟩
    · exact below_then (below_then (below_then (below_then (below_then (below_then (below_then (below_one _) (below_one _)) (below_one _)) (below_one _)) (below_one _)) (below_one _)) (below_one _)) (below_one _)
    all_goals go_simp
  case round =>
    obtain ⟨k, hk, rfl, hn, hbel, ⟨c0, c1, c2⟩, d0, d1, d2⟩ := hrel
    have HN : Hid ((0 < k → p = p') ∧ (1 < k → s = s') ∧ (2 < k → t = t')) := hn
    clear hn
    have : k = 0 ∨ k = 1 ∨ k = 2 ∨ k = 3 := by omega
    rcases this with rfl | rfl | rfl | rfl
    · go_wp2
      go_quiet (fail)
      go_wp2
      all_goals first
        | (go_roundw; (case rel => exact ⟨1, by omega, rfl, ⟨fun _ => by simp_all, by omega, by omega⟩, below_drewN hbel _, ⟨c0, c1, c2⟩, d0, d1, d2⟩); (case measure => simp [intOf]))
        | (go_ret; exact ⟨ret_int (by simp_all [partsI]), below_drewN hbel _⟩)
    · go_wp2
      go_quiet (fail)
      go_wp2
      all_goals first
        | (go_roundw; (case rel => exact ⟨2, by omega, rfl, ⟨fun _ => HN.out.1 (by omega), fun _ => by simp_all, by omega⟩, below_drewN hbel _, ⟨c0, c1, c2⟩, d0, d1, d2⟩); (case measure => simp [intOf]))
        | (go_ret; have e1 := HN.out.1 (by omega); exact ⟨ret_int (by simp_all [partsI]), below_drewN hbel _⟩)
    · go_wp2
      go_quiet (fail)
      go_wp2
      all_goals first
        | (go_roundw; (case rel => exact ⟨3, by omega, rfl, ⟨fun _ => HN.out.1 (by omega), fun _ => HN.out.2.1 (by omega), fun _ => by simp_all⟩, below_drewN hbel _, ⟨c0, c1, c2⟩, d0, d1, d2⟩); (case measure => simp [intOf]))
        | (go_ret; have e1 := HN.out.1 (by omega); have e2 := HN.out.2.1 (by omega); exact ⟨ret_int (by simp_all [partsI]), below_drewN hbel _⟩)
    · go_wp2
      go_ret
      have e1 := HN.out.1 (by omega)
      have e2 := HN.out.2.1 (by omega)
      have e3 := HN.out.2.2 (by omega)
      exact ⟨ret_int (by simp_all [partsI]), hbel⟩

end Go.Proofs.YtpclldccjpncdabGreat
