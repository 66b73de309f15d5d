import Derived.Test.YtpclldccjpncdaaSpec
namespace Go.Proofs.Ytpclldccjpncdaa
open Go.RowKit

set_option maxHeartbeats 400000 in
theorem isEntry_any (tx : ByteArray) (k lc lb lo : Nat) (la : Option Addr) (z : Nat → Int) (n : Int) (w : World) (h : IntsIn w.heap.size w la k lb lo z) :
    Calls Try.prog 69 #[.agg #[.string tx, .slice la k lc], .int .i64 n] w fun e w' => e = .returned (.bool (entryB tx.size k z n)) ∧ Below w.heap.size w w' := by
  by_cases hs : (1 ≤ tx.size ∧ tx.size ≤ 3) ∧ (1 ≤ k ∧ k ≤ 4)
  · have hx := hs
    obtain ⟨⟨h1, h2⟩, h3, h4⟩ := hs
    have ha := h.addr (by omega)
    subst ha
    have hlt := h.lt (by omega)
    have hc : ∀ (o : Obj) (i : Nat), i < k → (w.alloc o).cell? ⟨lb, lo + i, none⟩ = some (.int .i64 (z i)) := fun o i hi => by
      rw [← h.cell i hi]; exact ((Below.refl w.heap.size w).alloc (Nat.le_refl _) o).cell (by exact hlt)
    clear h
    go_enter Try.func69, Try.ntmps69
    go_wp2
    go_loop [5] (fun i => ∃ j : Nat, j ≤ k ∧ i = .int .i64 j ∧ numsOk j z n) (fun i => k - (intOf i).toNat)
    case atStart => exact ⟨0, Nat.zero_le _, rfl, by intro j hj; omega⟩
    case round =>
      obtain ⟨j, hj, rfl, hok⟩ := hrel
      have HOK : Hid (numsOk j z n) := hok
      clear hok
      by_cases hjk : j < k
      · have hcj := fun o => hc o j hjk
        go_wp2
        · go_ret
          refine ⟨ret_bool (entryB_no ?_), (Below.refl _ _).alloc (Nat.le_refl _) _⟩
          intro H
          have := H.2.2 j hjk
          omega
        · go_round
          case rel => exact ⟨j + 1, by omega, by go_num, numsOk_step HOK.out (by omega) (by omega)⟩
          case measure => simp [intOf]; omega
        · go_ret
          refine ⟨ret_bool (entryB_no ?_), (Below.refl _ _).alloc (Nat.le_refl _) _⟩
          intro H
          have := H.2.2 j hjk
          omega
      · go_wp2
        go_ret
        have : j = k := by omega
        subst this
        exact ⟨ret_bool (entryB_yes ⟨hx.1, hx.2, HOK.out⟩), (Below.refl _ _).alloc (Nat.le_refl _) _⟩
  · have hno : ¬ entryOk tx.size k z n := fun H => hs ⟨H.1, H.2.1⟩
    have HN : Hid (¬ ((1 ≤ tx.size ∧ tx.size ≤ 3) ∧ (1 ≤ k ∧ k ≤ 4))) := hs
    have HO : Hid (¬ entryOk tx.size k z n) := hno
    clear h hs hno
    go_enter Try.func69, Try.ntmps69
    go_wp2
    all_goals first
      | (go_ret; exact ⟨ret_bool (entryB_no HO.out), (Below.refl _ _).alloc (Nat.le_refl _) _⟩)
      | (exfalso; have := HN.out; omega)

theorem less_no : ∀ a b : List UInt8, (Op.bytesLess a b = true ∨ a = b) → Op.bytesLess b a = false
  | [], [], _ => by simp [Op.bytesLess]
  | [], b :: bs, _ => by simp [Op.bytesLess]
  | a :: l, [], h => by simp [Op.bytesLess] at h
  | a :: l, b :: bs, h => by
    have ih := less_no l bs
    simp only [Op.bytesLess, Bool.or_eq_true, Bool.and_eq_true, decide_eq_true_eq, beq_iff_eq, List.cons.injEq, UInt8.lt_iff_toNat_lt, ← UInt8.toNat_inj, Bool.or_eq_false_iff, decide_eq_false_iff_not, Bool.and_eq_false_iff, beq_eq_false_iff_ne, ne_eq] at h ⊢
    rcases h with (h | ⟨h1, h2⟩) | ⟨h1, h2⟩
    · omega
    · exact ⟨by omega, .inr (ih (.inl h2))⟩
    · exact ⟨by omega, .inr (ih (.inr h2))⟩
theorem less_yes : ∀ a b : List UInt8, Op.bytesLess a b = false ∧ ¬ a = b → Op.bytesLess b a = true
  | [], [], h => absurd rfl h.2
  | [], b :: bs, h => by simp [Op.bytesLess] at h
  | a :: l, [], _ => by simp [Op.bytesLess]
  | a :: l, b :: bs, h => by
    have ih := less_yes l bs
    simp only [Op.bytesLess, Bool.or_eq_true, Bool.and_eq_true, decide_eq_true_eq, beq_iff_eq, List.cons.injEq, UInt8.lt_iff_toNat_lt, ← UInt8.toNat_inj, Bool.or_eq_false_iff, decide_eq_false_iff_not, Bool.and_eq_false_iff, beq_eq_false_iff_ne, ne_eq] at h ⊢
    obtain ⟨⟨h1, h2⟩, h3⟩ := h
    by_cases e : a.toNat = b.toNat
    · refine .inr ⟨e.symm, ih ⟨?_, fun h => h3 ⟨e, h⟩⟩⟩
      rcases h2 with h2 | h2
      · exact absurd e h2
      · exact h2
    · exact .inl (by omega)

set_option maxHeartbeats 400000 in
theorem validEntries_any (m cap b off : Nat) (ao : Option Addr) (tx : Nat → ByteArray) (la : Nat → Option Addr) (k lc lb lo : Nat → Nat) (z : Nat → Nat → Int) (n : Int) (w : World) (hm : m ≤ 48)
    (h : EntriesIn w.heap.size w ao m b off tx la k lc lb lo z) :
    Calls Try.prog 53 #[.slice ao m cap, .int .i64 n] w fun e w' => e = .returned (.bool (entriesB m tx k z n)) ∧ Below w.heap.size w w' := by
  go_enter Try.func53, Try.ntmps53
  go_wp2
  go_loopw [5] (fun i wr => ∃ j : Nat, j ≤ m ∧ i = .int .i64 j ∧ Below w.heap.size w wr ∧ entriesOk j tx k z n) (fun i _ => m - (intOf i).toNat)
  case atStart => exact ⟨0, Nat.zero_le _, rfl, Below.refl _ _, by intro j hj; omega⟩
  case round =>
    obtain ⟨j, hj, rfl, hbel, hok⟩ := hrel
    have HOK : Hid (entriesOk j tx k z n) := hok
    have HE : Hid (EntriesIn w.heap.size w ao m b off tx la k lc lb lo z) := h
    clear hok h
    by_cases hlt : j < m
    · have ha' := HE.out.addr (by omega)
      subst ha'
      have hbb := HE.out.lt (by omega)
      have hsz := hbel.size
      have c0 : wr.cell? ⟨b, off + j * 2, none⟩ = some (.string (tx j)) := (hbel.cell (by exact hbb)).trans (HE.out.text j hlt)
      have c1 : wr.cell? ⟨b, off + j * 2 + 1, none⟩ = some (.slice (la j) (k j) (lc j)) := (hbel.cell (by exact hbb)).trans (HE.out.list j hlt)
      have HI : Hid (IntsIn wr.heap.size wr (la j) (k j) (lb j) (lo j) (z j)) := ((HE.out.ints j hlt).below hbel).mono hsz
      go_wp2_with (go_at_call 69; refine (isEntry_any _ _ _ _ _ _ _ _ _ HI.out).mono ?_; rintro e w1 ⟨rfl, hb1⟩)
      · go_ret
        exact ⟨ret_bool (entriesB_no1 hlt (by simp_all)), hbel.trans (hb1.mono hsz)⟩
      · have hz1 := hb1.size
        by_cases h0 : 0 < j
        · have d0 := Wb.cell (w := w1) (B := wr.heap.size) (by show b < _; omega) ((hb1.cell (by show b < _; omega)).trans c0)
          have g0 := Wb.cell (w := w1) (B := wr.heap.size) (by show b < _; omega) ((hb1.cell (by show b < _; omega)).trans ((hbel.cell (by exact hbb)).trans (HE.out.text (j - 1) (by omega))))
          refine wp_region_below wr.heap.size (by kernel_rfl) (by kernel_rfl) ?_
          repeat (go_big_quiet_step (fail))
          refine wpQuiet_nil ?_
          rintro _ ⟨x, rfl⟩
          have hx := x.below
          generalize x.val = w2 at hx
          clear d0 g0
          go_wp2
          · go_ret
            refine ⟨ret_bool (entriesB_no2 hlt h0 ?_), hbel.trans ((hb1.trans hx).mono hsz)⟩
            refine less_no _ _ ?_
            simp_all
          · go_roundw
            case rel =>
              refine ⟨j + 1, by omega, by go_num, hbel.trans ((hb1.trans hx).mono hsz), entriesOk_step HOK.out (by simp_all) (fun _ => ?_)⟩
              refine less_yes _ _ ?_
              simp_all
            case measure => simp [intOf]; omega
        · have hd : decide (0 < j) = false := by simpa using h0
          refine wp_region_below wr.heap.size (by kernel_rfl) (by kernel_rfl) ?_
          repeat (go_big_quiet_step (fail))
          refine wpQuiet_nil ?_
          rintro _ ⟨x, rfl⟩
          have hx := x.below
          generalize x.val = w2 at hx
          go_wp2
          go_roundw
          case rel => exact ⟨j + 1, by omega, by go_num, hbel.trans ((hb1.trans hx).mono hsz), entriesOk_step HOK.out (by simp_all) (fun h => absurd h h0)⟩
          case measure => simp [intOf]; omega
    · go_wp2
      go_ret
      have : j = m := by omega
      subst this
      exact ⟨ret_bool (entriesB_yes HOK.out), hbel⟩

end Go.Proofs.Ytpclldccjpncdaa
