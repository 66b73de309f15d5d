import Derived.Test.YtpclldccjpncdabGreatM17
namespace Go.Proofs.YtpclldccjpncdabGreat
open Go.RowKit

def thnI (st k : Nat) : Int := match thn st k with
  | none => -1
  | some x => (x : Nat)
set_option maxRecDepth 100000 in
set_option maxHeartbeats 4000000 in
theorem refThen_any (st k : Nat) (w : World) (hst : st ≤ 7) (hk1 : 1 ≤ k) (hk7 : k ≤ 7) :
    Calls Tryz.prog 55 #[.int .i64 (st : Nat), .int .i64 (k : Nat)] w fun e w' => e = .returned (.int .i64 (thnI st k)) ∧ w' = w := by
  have h1 : st = 0 ∨ st = 1 ∨ st = 2 ∨ st = 3 ∨ st = 4 ∨ st = 5 ∨ st = 6 ∨ st = 7 := by omega
  have h2 : k = 1 ∨ k = 2 ∨ k = 3 ∨ k = 4 ∨ k = 5 ∨ k = 6 ∨ k = 7 := by omega
  rcases h1 with rfl | rfl | rfl | rfl | rfl | rfl | rfl | rfl <;> rcases h2 with rfl | rfl | rfl | rfl | rfl | rfl | rfl
  all_goals
    go_enter Tryz.func55, Tryz.ntmps55
    go_wp2
    go_ret
    exact ⟨rfl, rfl⟩
theorem tk_k7 (s : ByteArray) (i : Nat) : 1 ≤ (tk s i).kind ∧ (tk s i).kind ≤ 7 := by
  have := tkA_kind s (skp s i)
  unfold tk
  omega
theorem thn_range {st k st' : Nat} (h : thn st k = some st') : st' = 1 ∨ st' = 2 ∨ st' = 3 ∨ st' = 4 ∨ st' = 5 ∨ st' = 6 ∨ st' = 7 ∨ st' = 8 := by
  unfold thn at h
  repeat' split at h
  all_goals first
    | (injection h with h; omega)
    | (cases h; done)
theorem thn_6 {st k : Nat} (h : thn st k = some 6) : st = 5 := by
  unfold thn at h
  repeat' split at h
  all_goals first
    | assumption
    | (injection h with h; omega)
    | (cases h; done)
theorem thn_7 {st k : Nat} (h : thn st k = some 7) : st = 6 := by
  unfold thn at h
  repeat' split at h
  all_goals first
    | assumption
    | (injection h with h; omega)
    | (cases h; done)
theorem tk_fin7 {s : ByteArray} {i : Nat} (h : (tk s i).kind = 7) : (tk s i).fin = (tk s i).at' := by
  have h1 := tkA_end.1 h
  unfold tk tkA
  rw [if_pos h1]
def rlF (x : Rl) : Nat → Value := fun j => #[Value.string x.reset, .int .i64 x.before, .int .i64 x.level, .string x.text, .string x.more].getD j undef
theorem own_setN {w : World} {base : Nat} {e : TypeId} {size g cap n : Nat} {xs : List Value} (h : w.ownsRow base e size (.slice (some ⟨g, 0, none⟩) n cap) n xs) {q : Nat} (x : Value) : (w.setCell ⟨g, q, none⟩ x).ownsRow base e size (.slice (some ⟨g, 0, none⟩) n cap) n (xs.set q x) := by
  obtain ⟨hl, h2⟩ := h
  rcases h2 with ⟨hv, _⟩ | ⟨g', cap', cur, hv, hbg, hg, hnc, hcm, hcs, htake⟩
  · cases hv
  · cases hv
    refine ⟨by simpa using hl, .inr ⟨g, cap, cur.setIfInBounds q x, rfl, hbg, ?_, hnc, hcm, by simpa using hcs, ?_⟩⟩
    · simp [World.setCell, Array.getElem?_modify, hg]
    · rw [← htake, Array.toList_setIfInBounds, List.take_set]
theorem own_frozenN {w : World} {base : Nat} {e : TypeId} {size g cap n : Nat} {xs : List Value} (h : w.ownsRow base e size (.slice (some ⟨g, 0, none⟩) n cap) n xs) (q : Nat) : w.frozen? ⟨g, q, none⟩ = false := by
  obtain ⟨hl, h2⟩ := h
  rcases h2 with ⟨hv, _⟩ | ⟨g', cap', cur, hv, hbg, hg, hnc, hcm, hcs, htake⟩
  · cases hv
  · cases hv
    simp [World.frozen?, hg]
theorem rulC_more (y : List Rl) (x : Rl) (m : ByteArray) : (rulC (y ++ [x])).set (y.length * 5 + 4) (.string m) = rulC (setMore (y ++ [x]) m) := by
  rw [setMore_snoc, rulC_snoc, rulC_snoc, List.set_append_right _ _ (by rw [rulC_len]; omega), rulC_len, Nat.add_sub_cancel_left]
  rfl

set_option maxRecDepth 100000 in
set_option maxHeartbeats 4000000 in
theorem refRead_any (s : ByteArray) (w : World) (hs : s.size ≤ 140737488351232) :
    Calls Tryz.prog 30 #[.string s] w fun e w' => ∃ (L : List Rl) (v : Value) (a : Nat) (er : Int), e = .returned (.tuple #[v, .int .i64 er, .int .i64 (a : Nat)]) ∧ Hid (rdAll s = (L, er, a) ∧ L.length ≤ 120) ∧ Hid (w'.ownsRow w.heap.size 57 5 v L.length (rulC L)) ∧ Below w.heap.size w w' := by
  obtain ⟨i0, hi0, hq0, hq1, hq2⟩ := info_parts infoRulC
  by_cases h120 : 120 < s.size
  · have HE : Hid (rdAll s = ([], 4, 0) ∧ ([] : List Rl).length ≤ 120) := ⟨by unfold rdAll; rw [if_pos h120], by simp⟩
    go_enter Tryz.func30, Tryz.ntmps30
    go_wp2
    go_ret3
    exact ⟨[], _, 0, 4, rfl, HE, World.ownsRow_nil _ _ _ _, Below.refl _ _⟩
  · have hsz : s.size ≤ 120 := by omega
    obtain ⟨W, hW⟩ : ∃ W, W = w.alloc (.cells #[.string ByteArray.empty, .int .i64 0, .int .i64 0, .string ByteArray.empty, .string ByteArray.empty] 57) := ⟨_, rfl⟩
    have HW : Hid (W = w.alloc (.cells #[.string ByteArray.empty, .int .i64 0, .int .i64 0, .string ByteArray.empty, .string ByteArray.empty] 57)) := hW
    have HR0 : Hid (W.rowIs w.heap.size 57 5 (rlF default)) := by show World.rowIs _ _ _ _ _; rw [hW]; exact row_new _ _ _ 5 rfl
    have HB0 : Hid (Below w.heap.size w W) := by show Below _ _ _; rw [hW]; exact below_one _
    have HI0 : Hid (rdAll s = if 0 = 8 then (([] : List Rl), (0 : Int), 0) else rd s ⟨0, 0, default, []⟩) := by show _ = _; unfold rdAll; rw [if_neg h120, if_neg (by decide)]
    have HS0 : Hid (w.heap.size + 1 ≤ W.heap.size) := by show _ ≤ _; rw [hW]; simp
    clear hW
    have d0 : decide (120 < s.size) = false := by simp; omega
    have d1 : decide ((120 : Int) < (s.size : Int)) = false := by simp; omega
    go_enter Tryz.func30, Tryz.ntmps30
    go_wp2
    go_loopw [5, 7, 8] (fun v sv iv wr => ∃ (st i : Nat) (nx : Rl) (out : List Rl), Hid (rdAll s = if st = 8 then (out, (0 : Int), 0) else rd s ⟨st, i, nx, out⟩) ∧ Hid ((st = 5 ∨ st = 6 ∨ st = 7) → out ≠ []) ∧ st ≤ 8 ∧ i ≤ s.size ∧ out.length ≤ i ∧ sv = .int .i64 (st : Nat) ∧ iv = .int .i64 (i : Nat) ∧ Below w.heap.size w wr ∧ Hid (wr.rowIs w.heap.size 57 5 (rlF nx)) ∧ wr.ownsRow (w.heap.size + 1) 57 5 v out.length (rulC out)) (fun _ sv iv _ => 2 * (s.size - (intOf iv).toNat) + (if intOf sv = 8 then 0 else 1))
    case atStart => exact ⟨0, 0, default, [], HI0, (fun h => by omega), by omega, by omega, by simp, rfl, rfl, by have h := HB0.out; rw [HW.out] at h; exact h, by have h := HR0.out; rw [HW.out] at h; exact h, World.ownsRow_nil _ _ _ _⟩
    case round =>
      obtain ⟨st, i, nx, out, HI, HOUTS, hst8, hi, hLi, rfl, rfl, hbel, HRN, hown⟩ := hrel
      obtain ⟨vo9, vc9, hv9⟩ := ownC_shape hown
      subst hv9
      have HOW : Hid (wr.ownsRow (w.heap.size + 1) 57 5 (.slice vo9 out.length vc9) out.length (rulC out)) := hown
      clear hown
      have hszw : w.heap.size + 1 ≤ wr.heap.size := HRN.out.lt
      by_cases h8 : st = 8
      · subst h8
        have HE : Hid (rdAll s = (out, 0, 0) ∧ out.length ≤ 120) := ⟨by rw [HI.out, if_pos rfl], by omega⟩
        go_wp2
        go_ret3
        exact ⟨out, _, 0, 0, rfl, HE, ownC_base HOW.out (by omega), hbel⟩
      · have HRD : Hid (rdAll s = rd s ⟨st, i, nx, out⟩) := by show _ = _; rw [HI.out, if_neg h8]
        have h8' : ((st : Int) == 8) = false := beq_eq_false_iff_ne.2 (by omega)
        have h8m : ¬ ((st : Int) = 8) := by omega
        have hk17 := tk_k7 s i
        obtain ⟨hl1, hl2, hl3, hl4, hl5⟩ := tk_lim hi
        obtain ⟨t, ht⟩ : ∃ t, t = tk s i := ⟨_, rfl⟩
        rw [← ht] at hk17 hl1 hl5
        obtain ⟨kd, hkd⟩ : ∃ x, x = t.kind := ⟨_, rfl⟩
        obtain ⟨ka, hka⟩ : ∃ x, x = t.at' := ⟨_, rfl⟩
        obtain ⟨kf, hkf0⟩ : ∃ x, x = t.fin := ⟨_, rfl⟩
        obtain ⟨kn, hkn⟩ : ∃ x, x = t.n := ⟨_, rfl⟩
        obtain ⟨tx, htx⟩ : ∃ x, x = strOfNums t.tx := ⟨_, rfl⟩
        have HTK : Hid (∀ wz, Calls Tryz.prog 54 #[.string s, .int .i64 (i : Nat)] wz fun e w' => e = .returned (.agg #[.int .i64 (kd : Nat), .int .i64 (ka : Nat), .int .i64 (kf : Nat), .int .i64 (kn : Nat), .string tx]) ∧ Below wz.heap.size wz w') := fun wz => by
          rw [hkd, hka, hkf0, hkn, htx, ht]
          exact refToken_any s i wz (by omega) hi
        obtain ⟨r, hr⟩ : ∃ x, x = thnI st kd := ⟨_, rfl⟩
        have HTH : Hid (∀ wz, Calls Tryz.prog 55 #[.int .i64 (st : Nat), .int .i64 (kd : Nat)] wz fun e w' => e = .returned (.int .i64 r) ∧ w' = wz) := fun wz => by
          rw [hr]
          exact refThen_any st kd wz (by omega) (by omega) (by omega)
        have htl : tx.size = t.tx.length := by rw [htx, strOfNums_size]
        have htl2 : tx.size ≤ 1000 := by omega
        have hn3 : kn ≤ 3 := by rw [hkn, ht]; exact hl4
        have hka2 : ka ≤ s.size := by rw [hka]; exact hl1
        cases hthn : thn st kd with
        | none =>
          have hr1 : r = -1 := by rw [hr]; unfold thnI; rw [hthn]
          subst hr1
          have HE : Hid (rdAll s = ([], 8, ka) ∧ ([] : List Rl).length ≤ 120) := ⟨by
            rw [HRD.out, rd_bad (S := ⟨st, i, nx, out⟩) (by show thn st (tk s i).kind = none; rw [← ht, ← hkd]; exact hthn)]
            show (_, _, (tk s i).at') = _
            rw [← ht, ← hka], by simp⟩
          clear hk17 hl2 hl3 ht hkd hka hkf0 hkn htx hr hthn
          go_wp2_with fail
          refine (HTK.out _).mono ?_
          rintro e w1 ⟨rfl, hb1⟩
          have hz1 : w.heap.size + 1 ≤ w1.heap.size := by have := hb1.size; omega
          have HB1 : Hid (Below w.heap.size w w1) := below_then hbel hb1
          have HR1 : Hid (w1.rowIs w.heap.size 57 5 (rlF nx)) := HRN.out.of_block (hb1.block _ (by omega))
          have HO1 : Hid (w1.ownsRow (w.heap.size + 1) 57 5 (.slice vo9 out.length vc9) out.length (rulC out)) := ownC_below HOW.out hb1
          clear hb1
          go_wp2_with fail
          refine (HTH.out _).mono ?_
          rintro e w2 ⟨rfl, hw2⟩
          have HR2 : Hid (w2.rowIs w.heap.size 57 5 (rlF nx)) := by show World.rowIs _ _ _ _ _; rw [hw2]; exact HR1.out.alloc _
          have HO2 : Hid (w2.ownsRow (w.heap.size + 1) 57 5 (.slice vo9 out.length vc9) out.length (rulC out)) := by show World.ownsRow _ _ _ _ _ _ _; rw [hw2]; exact HO1.out.alloc _
          have HB2 : Hid (Below w.heap.size w w2) := by show Below _ _ _; rw [hw2]; exact below_then HB1.out (below_one _)
          have HT2 : Hid (w2.rowIs w1.heap.size 82 5 (fun j => (#[.int .i64 (kd : Nat), .int .i64 (ka : Nat), .int .i64 (kf : Nat), .int .i64 (kn : Nat), .string tx] : Array Value).getD j undef)) := by show World.rowIs _ _ _ _ _; rw [hw2]; exact row_new _ _ _ 5 rfl
          have hz2 : w2.heap.size = w1.heap.size + 1 := by rw [hw2]; simp
          obtain ⟨⟨t0, t1, t2, t3, t4⟩, _⟩ := row5F HT2.out
          have HZ2 : Hid (w2.heap.size = w1.heap.size + 1) := hz2
          clear hw2 hz2
          go_wp2
          go_region
          go_wp2
          go_ret3
          exact ⟨[], _, ka, 8, rfl, HE, World.ownsRow_nil _ _ _ _, HB2.out.drew⟩
        | some st' =>
          have hr1 : r = (st' : Nat) := by rw [hr]; unfold thnI; rw [hthn]
          subst hr1
          have hthn2 : thn (St.mk st i nx out).st (tk s (St.mk st i nx out).i).kind = some st' := by show thn st (tk s i).kind = _; rw [← ht, ← hkd]; exact hthn
          obtain ⟨lm, hlm⟩ : ∃ x, x = lim st' := ⟨_, rfl⟩
          by_cases hlong : lm < tx.size
          · have HE : Hid (rdAll s = ([], 9, ka) ∧ ([] : List Rl).length ≤ 120) := ⟨by
              rw [HRD.out, rd_part hthn2 (by show lim st' < (tk s i).tx.length; rw [← hlm, ← ht]; omega)]
              show (_, _, (tk s i).at') = _
              rw [← ht, ← hka], by simp⟩
            by_cases h5 : st' = 5
            · subst h5
              have hlm' : lm = 3 := hlm
              subst hlm'
              clear hk17 hl2 hl3 ht hkd hka hkf0 hkn htx hr hthn hthn2 hlm
              go_wp2_with fail
              refine (HTK.out _).mono ?_
              rintro e w1 ⟨rfl, hb1⟩
              have hz1 : w.heap.size + 1 ≤ w1.heap.size := by have := hb1.size; omega
              have HB1 : Hid (Below w.heap.size w w1) := below_then hbel hb1
              have HR1 : Hid (w1.rowIs w.heap.size 57 5 (rlF nx)) := HRN.out.of_block (hb1.block _ (by omega))
              have HO1 : Hid (w1.ownsRow (w.heap.size + 1) 57 5 (.slice vo9 out.length vc9) out.length (rulC out)) := ownC_below HOW.out hb1
              clear hb1
              go_wp2_with fail
              refine (HTH.out _).mono ?_
              rintro e w2 ⟨rfl, hw2⟩
              have HR2 : Hid (w2.rowIs w.heap.size 57 5 (rlF nx)) := by show World.rowIs _ _ _ _ _; rw [hw2]; exact HR1.out.alloc _
              have HO2 : Hid (w2.ownsRow (w.heap.size + 1) 57 5 (.slice vo9 out.length vc9) out.length (rulC out)) := by show World.ownsRow _ _ _ _ _ _ _; rw [hw2]; exact HO1.out.alloc _
              have HB2 : Hid (Below w.heap.size w w2) := by show Below _ _ _; rw [hw2]; exact below_then HB1.out (below_one _)
              have HT2 : Hid (w2.rowIs w1.heap.size 82 5 (fun j => (#[.int .i64 (kd : Nat), .int .i64 (ka : Nat), .int .i64 (kf : Nat), .int .i64 (kn : Nat), .string tx] : Array Value).getD j undef)) := by show World.rowIs _ _ _ _ _; rw [hw2]; exact row_new _ _ _ 5 rfl
              have hz2 : w2.heap.size = w1.heap.size + 1 := by rw [hw2]; simp
              obtain ⟨⟨t0, t1, t2, t3, t4⟩, _⟩ := row5F HT2.out
              have HZ2 : Hid (w2.heap.size = w1.heap.size + 1) := hz2
              clear hw2 hz2
              go_wp2
              go_region
              go_wp2
              go_ret3
              exact ⟨[], _, ka, 9, rfl, HE, World.ownsRow_nil _ _ _ _, HB2.out.drew⟩
            · have hlm' : lm = 6 := by rw [hlm]; unfold lim; rw [if_neg h5]
              subst hlm'
              have h5' : ((st' : Int) == 5) = false := beq_eq_false_iff_ne.2 (by omega)
              clear hk17 hl2 hl3 ht hkd hka hkf0 hkn htx hr hthn hthn2 hlm h5
              go_wp2_with fail
              refine (HTK.out _).mono ?_
              rintro e w1 ⟨rfl, hb1⟩
              have hz1 : w.heap.size + 1 ≤ w1.heap.size := by have := hb1.size; omega
              have HB1 : Hid (Below w.heap.size w w1) := below_then hbel hb1
              have HR1 : Hid (w1.rowIs w.heap.size 57 5 (rlF nx)) := HRN.out.of_block (hb1.block _ (by omega))
              have HO1 : Hid (w1.ownsRow (w.heap.size + 1) 57 5 (.slice vo9 out.length vc9) out.length (rulC out)) := ownC_below HOW.out hb1
              clear hb1
              go_wp2_with fail
              refine (HTH.out _).mono ?_
              rintro e w2 ⟨rfl, hw2⟩
              have HR2 : Hid (w2.rowIs w.heap.size 57 5 (rlF nx)) := by show World.rowIs _ _ _ _ _; rw [hw2]; exact HR1.out.alloc _
              have HO2 : Hid (w2.ownsRow (w.heap.size + 1) 57 5 (.slice vo9 out.length vc9) out.length (rulC out)) := by show World.ownsRow _ _ _ _ _ _ _; rw [hw2]; exact HO1.out.alloc _
              have HB2 : Hid (Below w.heap.size w w2) := by show Below _ _ _; rw [hw2]; exact below_then HB1.out (below_one _)
              have HT2 : Hid (w2.rowIs w1.heap.size 82 5 (fun j => (#[.int .i64 (kd : Nat), .int .i64 (ka : Nat), .int .i64 (kf : Nat), .int .i64 (kn : Nat), .string tx] : Array Value).getD j undef)) := by show World.rowIs _ _ _ _ _; rw [hw2]; exact row_new _ _ _ 5 rfl
              have hz2 : w2.heap.size = w1.heap.size + 1 := by rw [hw2]; simp
              obtain ⟨⟨t0, t1, t2, t3, t4⟩, _⟩ := row5F HT2.out
              have HZ2 : Hid (w2.heap.size = w1.heap.size + 1) := hz2
              clear hw2 hz2
              go_wp2
              go_region
              go_wp2
              go_ret3
              exact ⟨[], _, ka, 9, rfl, HE, World.ownsRow_nil _ _ _ _, HB2.out.drew⟩
          · have hst' : st' = 1 ∨ st' = 2 ∨ st' = 3 ∨ st' = 4 ∨ st' = 5 ∨ st' = 6 ∨ st' = 7 ∨ st' = 8 := thn_range hthn
            by_cases he8 : st' = 8
            · have hkf : kf ≤ s.size := by
                have hk7 := thn_end (by rw [← he8]; exact hthn)
                have h7 : (tk s i).kind = 7 := by rw [← ht, ← hkd]; exact hk7
                have hfin : (tk s i).fin = (tk s i).at' := tk_fin7 h7
                rw [hkf0, ht, hfin, ← ht]
                exact hl1
              have HNX : Hid (rdAll s = if 8 = 8 then (out, (0 : Int), 0) else rd s ⟨8, kf, nx, out⟩) := by
                show _ = _
                rw [if_pos rfl, HRD.out, rd_end (by rw [hthn2, he8])]
              have HOUT : Hid ((8 = 5 ∨ 8 = 6 ∨ 8 = 7) → out ≠ []) := fun h => by omega
              have hkfi : i ≤ kf := by
                have hk7 := thn_end (by rw [← he8]; exact hthn)
                have h7 : (tk s i).kind = 7 := by rw [← ht, ← hkd]; exact hk7
                have hfin : (tk s i).fin = (tk s i).at' := tk_fin7 h7
                rw [hkf0, ht, hfin, tk_at]
                exact skp_ge s i
              subst he8
              have hlm' : lm = 6 := hlm
              subst hlm'
              clear hk17 hl2 hl3 ht hkd hka hkf0 hkn htx hr hthn hthn2 hlm hst'
              go_wp2_with fail
              refine (HTK.out _).mono ?_
              rintro e w1 ⟨rfl, hb1⟩
              have hz1 : w.heap.size + 1 ≤ w1.heap.size := by have := hb1.size; omega
              have HB1 : Hid (Below w.heap.size w w1) := below_then hbel hb1
              have HR1 : Hid (w1.rowIs w.heap.size 57 5 (rlF nx)) := HRN.out.of_block (hb1.block _ (by omega))
              have HO1 : Hid (w1.ownsRow (w.heap.size + 1) 57 5 (.slice vo9 out.length vc9) out.length (rulC out)) := ownC_below HOW.out hb1
              clear hb1
              go_wp2_with fail
              refine (HTH.out _).mono ?_
              rintro e w2 ⟨rfl, hw2⟩
              have HR2 : Hid (w2.rowIs w.heap.size 57 5 (rlF nx)) := by show World.rowIs _ _ _ _ _; rw [hw2]; exact HR1.out.alloc _
              have HO2 : Hid (w2.ownsRow (w.heap.size + 1) 57 5 (.slice vo9 out.length vc9) out.length (rulC out)) := by show World.ownsRow _ _ _ _ _ _ _; rw [hw2]; exact HO1.out.alloc _
              have HB2 : Hid (Below w.heap.size w w2) := by show Below _ _ _; rw [hw2]; exact below_then HB1.out (below_one _)
              have HT2 : Hid (w2.rowIs w1.heap.size 82 5 (fun j => (#[.int .i64 (kd : Nat), .int .i64 (ka : Nat), .int .i64 (kf : Nat), .int .i64 (kn : Nat), .string tx] : Array Value).getD j undef)) := by show World.rowIs _ _ _ _ _; rw [hw2]; exact row_new _ _ _ 5 rfl
              have hz2 : w2.heap.size = w1.heap.size + 1 := by rw [hw2]; simp
              obtain ⟨⟨t0, t1, t2, t3, t4⟩, _⟩ := row5F HT2.out
              have HZ2 : Hid (w2.heap.size = w1.heap.size + 1) := hz2
              clear hw2 hz2
              go_wp2
              go_roundw
              case rel => exact ⟨8, kf, nx, out, HNX, (fun h => by omega), by omega, hkf, by omega, by rfl, rfl, HB2.out, HR2, HO2.out⟩
              case measure => simp [intOf, h8m]; omega
            · have hgo := thn_go hthn he8
              have hto := tk_to (s := s) (i := i) (by rw [← ht, ← hkd]; exact hgo.1)
              rw [← ht, ← hkf0] at hto
              obtain ⟨hkfi, hkf, _⟩ := hto
              have hstep : rdAll s = rd s (adv ⟨st, i, nx, out⟩ st' t) := by
                rw [HRD.out, rd_step hthn2 (by show ¬ lim st' < (tk s i).tx.length; rw [← hlm, ← ht, ← htl]; exact hlong) he8]
                show rd s (adv _ st' (tk s i)) = _
                rw [← ht]
              have HSTEP : Hid (∀ q, st' = q → rdAll s = rd s (adv ⟨st, i, nx, out⟩ q t)) := fun q hq => by rw [← hq]; exact hstep
              clear hstep
              rcases hst' with h1 | h1 | h1 | h1 | h1 | h1 | h1 | h1
              · have HNX : Hid (rdAll s = if 1 = 8 then (out, (0 : Int), 0) else rd s ⟨1, kf, nx, out⟩) := by
                  show _ = _
                  rw [if_neg (by decide), HSTEP.out 1 h1, hkf0]
                  rfl
                have hlm' : lm = 6 := by rw [hlm, h1]; rfl
                subst h1
                subst hlm'
                clear hk17 hl2 hl3 ht hkd hka hkf0 hkn htx hr hthn hthn2 hlm he8 hgo
                go_wp2_with fail
                refine (HTK.out _).mono ?_
                rintro e w1 ⟨rfl, hb1⟩
                have hz1 : w.heap.size + 1 ≤ w1.heap.size := by have := hb1.size; omega
                have HB1 : Hid (Below w.heap.size w w1) := below_then hbel hb1
                have HR1 : Hid (w1.rowIs w.heap.size 57 5 (rlF nx)) := HRN.out.of_block (hb1.block _ (by omega))
                have HO1 : Hid (w1.ownsRow (w.heap.size + 1) 57 5 (.slice vo9 out.length vc9) out.length (rulC out)) := ownC_below HOW.out hb1
                clear hb1
                go_wp2_with fail
                refine (HTH.out _).mono ?_
                rintro e w2 ⟨rfl, hw2⟩
                have HR2 : Hid (w2.rowIs w.heap.size 57 5 (rlF nx)) := by show World.rowIs _ _ _ _ _; rw [hw2]; exact HR1.out.alloc _
                have HO2 : Hid (w2.ownsRow (w.heap.size + 1) 57 5 (.slice vo9 out.length vc9) out.length (rulC out)) := by show World.ownsRow _ _ _ _ _ _ _; rw [hw2]; exact HO1.out.alloc _
                have HB2 : Hid (Below w.heap.size w w2) := by show Below _ _ _; rw [hw2]; exact below_then HB1.out (below_one _)
                have HT2 : Hid (w2.rowIs w1.heap.size 82 5 (fun j => (#[.int .i64 (kd : Nat), .int .i64 (ka : Nat), .int .i64 (kf : Nat), .int .i64 (kn : Nat), .string tx] : Array Value).getD j undef)) := by show World.rowIs _ _ _ _ _; rw [hw2]; exact row_new _ _ _ 5 rfl
                have hz2 : w2.heap.size = w1.heap.size + 1 := by rw [hw2]; simp
                obtain ⟨⟨t0, t1, t2, t3, t4⟩, _⟩ := row5F HT2.out
                have HZ2 : Hid (w2.heap.size = w1.heap.size + 1) := hz2
                clear hw2 hz2
                go_wp2
                go_roundw
                case rel => exact ⟨1, kf, nx, out, HNX, (fun h => by omega), by omega, hkf, by omega, by rfl, rfl, HB2.out, HR2, HO2.out⟩
                case measure => simp [intOf, h8m]; omega
              · have HNX : Hid (rdAll s = if 2 = 8 then (out, (0 : Int), 0) else rd s ⟨2, kf, { nx with before := (kn : Nat) }, out⟩) := by
                  show _ = _
                  rw [if_neg (by decide), HSTEP.out 2 h1, hkf0, hkn]
                  rfl
                have hlm' : lm = 6 := by rw [hlm, h1]; rfl
                subst h1
                subst hlm'
                clear hk17 hl2 hl3 ht hkd hka hkf0 hkn htx hr hthn hthn2 hlm he8 hgo
                go_wp2_with fail
                refine (HTK.out _).mono ?_
                rintro e w1 ⟨rfl, hb1⟩
                have hz1 : w.heap.size + 1 ≤ w1.heap.size := by have := hb1.size; omega
                have HB1 : Hid (Below w.heap.size w w1) := below_then hbel hb1
                have HR1 : Hid (w1.rowIs w.heap.size 57 5 (rlF nx)) := HRN.out.of_block (hb1.block _ (by omega))
                have HO1 : Hid (w1.ownsRow (w.heap.size + 1) 57 5 (.slice vo9 out.length vc9) out.length (rulC out)) := ownC_below HOW.out hb1
                clear hb1
                go_wp2_with fail
                refine (HTH.out _).mono ?_
                rintro e w2 ⟨rfl, hw2⟩
                have HR2 : Hid (w2.rowIs w.heap.size 57 5 (rlF nx)) := by show World.rowIs _ _ _ _ _; rw [hw2]; exact HR1.out.alloc _
                have HO2 : Hid (w2.ownsRow (w.heap.size + 1) 57 5 (.slice vo9 out.length vc9) out.length (rulC out)) := by show World.ownsRow _ _ _ _ _ _ _; rw [hw2]; exact HO1.out.alloc _
                have HB2 : Hid (Below w.heap.size w w2) := by show Below _ _ _; rw [hw2]; exact below_then HB1.out (below_one _)
                have HT2 : Hid (w2.rowIs w1.heap.size 82 5 (fun j => (#[.int .i64 (kd : Nat), .int .i64 (ka : Nat), .int .i64 (kf : Nat), .int .i64 (kn : Nat), .string tx] : Array Value).getD j undef)) := by show World.rowIs _ _ _ _ _; rw [hw2]; exact row_new _ _ _ 5 rfl
                have hz2 : w2.heap.size = w1.heap.size + 1 := by rw [hw2]; simp
                obtain ⟨⟨t0, t1, t2, t3, t4⟩, _⟩ := row5F HT2.out
                have HZ2 : Hid (w2.heap.size = w1.heap.size + 1) := hz2
                clear hw2 hz2
                have HNE : Hid (w1.heap.size ≠ w.heap.size) := by show _ ≠ _; omega
                obtain ⟨⟨c0, c1, c2, c3, c4⟩, f0, f1, f2, f3, f4⟩ := row5F HR2.out
                have y2 : (w2.setCell ⟨w.heap.size, 1, none⟩ (.int .i64 (kn : Nat))).cell? ⟨w1.heap.size, 2, none⟩ = some (.int .i64 (kf : Nat)) := ((OnlyRow.setCell _ _ _ _).row HT2.out HNE.out).cell (i := 2) (by omega)
                have HB3 : Hid (Below w.heap.size w (w2.setCell ⟨w.heap.size, 1, none⟩ (.int .i64 (kn : Nat)))) := (OnlyRow.setCell _ _ _ _).below HB2.out (Nat.le_refl _)
                have HR3 : Hid ((w2.setCell ⟨w.heap.size, 1, none⟩ (.int .i64 (kn : Nat))).rowIs w.heap.size 57 5 (rlF { nx with before := (kn : Nat) })) := (HR2.out.set 1 (.int .i64 (kn : Nat))).congr fun j hj => by
                  have : j = 0 ∨ j = 1 ∨ j = 2 ∨ j = 3 ∨ j = 4 := by omega
                  rcases this with rfl | rfl | rfl | rfl | rfl <;> rfl
                have HO3 : Hid ((w2.setCell ⟨w.heap.size, 1, none⟩ (.int .i64 (kn : Nat))).ownsRow (w.heap.size + 1) 57 5 (.slice vo9 out.length vc9) out.length (rulC out)) := own_only (OnlyRow.setCell _ _ _ _) HO2.out (fun hx => by have := (ownC_lt HO2.out hx).2; omega)
                go_wp2
                go_roundw
                case rel => exact ⟨2, kf, { nx with before := (kn : Nat) }, out, HNX, (fun h => by omega), by omega, hkf, by omega, by rfl, rfl, HB3.out, HR3, HO3.out⟩
                case measure => simp [intOf, h8m]; omega
              · have HNX : Hid (rdAll s = if 3 = 8 then (out, (0 : Int), 0) else rd s ⟨3, kf, { nx with reset := tx }, out⟩) := by
                  show _ = _
                  rw [if_neg (by decide), HSTEP.out 3 h1, hkf0, htx]
                  rfl
                have hlm' : lm = 6 := by rw [hlm, h1]; rfl
                subst h1
                subst hlm'
                clear hk17 hl2 hl3 ht hkd hka hkf0 hkn htx hr hthn hthn2 hlm he8 hgo
                go_wp2_with fail
                refine (HTK.out _).mono ?_
                rintro e w1 ⟨rfl, hb1⟩
                have hz1 : w.heap.size + 1 ≤ w1.heap.size := by have := hb1.size; omega
                have HB1 : Hid (Below w.heap.size w w1) := below_then hbel hb1
                have HR1 : Hid (w1.rowIs w.heap.size 57 5 (rlF nx)) := HRN.out.of_block (hb1.block _ (by omega))
                have HO1 : Hid (w1.ownsRow (w.heap.size + 1) 57 5 (.slice vo9 out.length vc9) out.length (rulC out)) := ownC_below HOW.out hb1
                clear hb1
                go_wp2_with fail
                refine (HTH.out _).mono ?_
                rintro e w2 ⟨rfl, hw2⟩
                have HR2 : Hid (w2.rowIs w.heap.size 57 5 (rlF nx)) := by show World.rowIs _ _ _ _ _; rw [hw2]; exact HR1.out.alloc _
                have HO2 : Hid (w2.ownsRow (w.heap.size + 1) 57 5 (.slice vo9 out.length vc9) out.length (rulC out)) := by show World.ownsRow _ _ _ _ _ _ _; rw [hw2]; exact HO1.out.alloc _
                have HB2 : Hid (Below w.heap.size w w2) := by show Below _ _ _; rw [hw2]; exact below_then HB1.out (below_one _)
                have HT2 : Hid (w2.rowIs w1.heap.size 82 5 (fun j => (#[.int .i64 (kd : Nat), .int .i64 (ka : Nat), .int .i64 (kf : Nat), .int .i64 (kn : Nat), .string tx] : Array Value).getD j undef)) := by show World.rowIs _ _ _ _ _; rw [hw2]; exact row_new _ _ _ 5 rfl
                have hz2 : w2.heap.size = w1.heap.size + 1 := by rw [hw2]; simp
                obtain ⟨⟨t0, t1, t2, t3, t4⟩, _⟩ := row5F HT2.out
                have HZ2 : Hid (w2.heap.size = w1.heap.size + 1) := hz2
                clear hw2 hz2
                have HNE : Hid (w1.heap.size ≠ w.heap.size) := by show _ ≠ _; omega
                obtain ⟨⟨c0, c1, c2, c3, c4⟩, f0, f1, f2, f3, f4⟩ := row5F HR2.out
                have y2 : (w2.setCell ⟨w.heap.size, 0, none⟩ (.string tx)).cell? ⟨w1.heap.size, 2, none⟩ = some (.int .i64 (kf : Nat)) := ((OnlyRow.setCell _ _ _ _).row HT2.out HNE.out).cell (i := 2) (by omega)
                have HB3 : Hid (Below w.heap.size w (w2.setCell ⟨w.heap.size, 0, none⟩ (.string tx))) := (OnlyRow.setCell _ _ _ _).below HB2.out (Nat.le_refl _)
                have HR3 : Hid ((w2.setCell ⟨w.heap.size, 0, none⟩ (.string tx)).rowIs w.heap.size 57 5 (rlF { nx with reset := tx })) := (HR2.out.set 0 (.string tx)).congr fun j hj => by
                  have : j = 0 ∨ j = 1 ∨ j = 2 ∨ j = 3 ∨ j = 4 := by omega
                  rcases this with rfl | rfl | rfl | rfl | rfl <;> rfl
                have HO3 : Hid ((w2.setCell ⟨w.heap.size, 0, none⟩ (.string tx)).ownsRow (w.heap.size + 1) 57 5 (.slice vo9 out.length vc9) out.length (rulC out)) := own_only (OnlyRow.setCell _ _ _ _) HO2.out (fun hx => by have := (ownC_lt HO2.out hx).2; omega)
                go_wp2
                go_roundw
                case rel => exact ⟨3, kf, { nx with reset := tx }, out, HNX, (fun h => by omega), by omega, hkf, by omega, by rfl, rfl, HB3.out, HR3, HO3.out⟩
                case measure => simp [intOf, h8m]; omega
              · have HNX : Hid (rdAll s = if 4 = 8 then (out, (0 : Int), 0) else rd s ⟨4, kf, { nx with level := (kn : Nat) }, out⟩) := by
                  show _ = _
                  rw [if_neg (by decide), HSTEP.out 4 h1, hkf0, hkn]
                  rfl
                have hlm' : lm = 6 := by rw [hlm, h1]; rfl
                subst h1
                subst hlm'
                clear hk17 hl2 hl3 ht hkd hka hkf0 hkn htx hr hthn hthn2 hlm he8 hgo
                go_wp2_with fail
                refine (HTK.out _).mono ?_
                rintro e w1 ⟨rfl, hb1⟩
                have hz1 : w.heap.size + 1 ≤ w1.heap.size := by have := hb1.size; omega
                have HB1 : Hid (Below w.heap.size w w1) := below_then hbel hb1
                have HR1 : Hid (w1.rowIs w.heap.size 57 5 (rlF nx)) := HRN.out.of_block (hb1.block _ (by omega))
                have HO1 : Hid (w1.ownsRow (w.heap.size + 1) 57 5 (.slice vo9 out.length vc9) out.length (rulC out)) := ownC_below HOW.out hb1
                clear hb1
                go_wp2_with fail
                refine (HTH.out _).mono ?_
                rintro e w2 ⟨rfl, hw2⟩
                have HR2 : Hid (w2.rowIs w.heap.size 57 5 (rlF nx)) := by show World.rowIs _ _ _ _ _; rw [hw2]; exact HR1.out.alloc _
                have HO2 : Hid (w2.ownsRow (w.heap.size + 1) 57 5 (.slice vo9 out.length vc9) out.length (rulC out)) := by show World.ownsRow _ _ _ _ _ _ _; rw [hw2]; exact HO1.out.alloc _
                have HB2 : Hid (Below w.heap.size w w2) := by show Below _ _ _; rw [hw2]; exact below_then HB1.out (below_one _)
                have HT2 : Hid (w2.rowIs w1.heap.size 82 5 (fun j => (#[.int .i64 (kd : Nat), .int .i64 (ka : Nat), .int .i64 (kf : Nat), .int .i64 (kn : Nat), .string tx] : Array Value).getD j undef)) := by show World.rowIs _ _ _ _ _; rw [hw2]; exact row_new _ _ _ 5 rfl
                have hz2 : w2.heap.size = w1.heap.size + 1 := by rw [hw2]; simp
                obtain ⟨⟨t0, t1, t2, t3, t4⟩, _⟩ := row5F HT2.out
                have HZ2 : Hid (w2.heap.size = w1.heap.size + 1) := hz2
                clear hw2 hz2
                have HNE : Hid (w1.heap.size ≠ w.heap.size) := by show _ ≠ _; omega
                obtain ⟨⟨c0, c1, c2, c3, c4⟩, f0, f1, f2, f3, f4⟩ := row5F HR2.out
                have y2 : (w2.setCell ⟨w.heap.size, 2, none⟩ (.int .i64 (kn : Nat))).cell? ⟨w1.heap.size, 2, none⟩ = some (.int .i64 (kf : Nat)) := ((OnlyRow.setCell _ _ _ _).row HT2.out HNE.out).cell (i := 2) (by omega)
                have HB3 : Hid (Below w.heap.size w (w2.setCell ⟨w.heap.size, 2, none⟩ (.int .i64 (kn : Nat)))) := (OnlyRow.setCell _ _ _ _).below HB2.out (Nat.le_refl _)
                have HR3 : Hid ((w2.setCell ⟨w.heap.size, 2, none⟩ (.int .i64 (kn : Nat))).rowIs w.heap.size 57 5 (rlF { nx with level := (kn : Nat) })) := (HR2.out.set 2 (.int .i64 (kn : Nat))).congr fun j hj => by
                  have : j = 0 ∨ j = 1 ∨ j = 2 ∨ j = 3 ∨ j = 4 := by omega
                  rcases this with rfl | rfl | rfl | rfl | rfl <;> rfl
                have HO3 : Hid ((w2.setCell ⟨w.heap.size, 2, none⟩ (.int .i64 (kn : Nat))).ownsRow (w.heap.size + 1) 57 5 (.slice vo9 out.length vc9) out.length (rulC out)) := own_only (OnlyRow.setCell _ _ _ _) HO2.out (fun hx => by have := (ownC_lt HO2.out hx).2; omega)
                go_wp2
                go_roundw
                case rel => exact ⟨4, kf, { nx with level := (kn : Nat) }, out, HNX, (fun h => by omega), by omega, hkf, by omega, by rfl, rfl, HB3.out, HR3, HO3.out⟩
                case measure => simp [intOf, h8m]; omega
              · have HNX : Hid (rdAll s = if 5 = 8 then ((out ++ [{ nx with text := tx }]), (0 : Int), 0) else rd s ⟨5, kf, default, (out ++ [{ nx with text := tx }])⟩) := by
                  show _ = _
                  rw [if_neg (by decide), HSTEP.out 5 h1, hkf0, htx]
                  rfl
                have hlm' : lm = 3 := by rw [hlm, h1]; rfl
                subst h1
                subst hlm'
                clear hk17 hl2 hl3 ht hkd hka hkf0 hkn htx hr hthn hthn2 hlm he8 hgo
                go_wp2_with fail
                refine (HTK.out _).mono ?_
                rintro e w1 ⟨rfl, hb1⟩
                have hz1 : w.heap.size + 1 ≤ w1.heap.size := by have := hb1.size; omega
                have HB1 : Hid (Below w.heap.size w w1) := below_then hbel hb1
                have HR1 : Hid (w1.rowIs w.heap.size 57 5 (rlF nx)) := HRN.out.of_block (hb1.block _ (by omega))
                have HO1 : Hid (w1.ownsRow (w.heap.size + 1) 57 5 (.slice vo9 out.length vc9) out.length (rulC out)) := ownC_below HOW.out hb1
                clear hb1
                go_wp2_with fail
                refine (HTH.out _).mono ?_
                rintro e w2 ⟨rfl, hw2⟩
                have HR2 : Hid (w2.rowIs w.heap.size 57 5 (rlF nx)) := by show World.rowIs _ _ _ _ _; rw [hw2]; exact HR1.out.alloc _
                have HO2 : Hid (w2.ownsRow (w.heap.size + 1) 57 5 (.slice vo9 out.length vc9) out.length (rulC out)) := by show World.ownsRow _ _ _ _ _ _ _; rw [hw2]; exact HO1.out.alloc _
                have HB2 : Hid (Below w.heap.size w w2) := by show Below _ _ _; rw [hw2]; exact below_then HB1.out (below_one _)
                have HT2 : Hid (w2.rowIs w1.heap.size 82 5 (fun j => (#[.int .i64 (kd : Nat), .int .i64 (ka : Nat), .int .i64 (kf : Nat), .int .i64 (kn : Nat), .string tx] : Array Value).getD j undef)) := by show World.rowIs _ _ _ _ _; rw [hw2]; exact row_new _ _ _ 5 rfl
                have hz2 : w2.heap.size = w1.heap.size + 1 := by rw [hw2]; simp
                obtain ⟨⟨t0, t1, t2, t3, t4⟩, _⟩ := row5F HT2.out
                have HZ2 : Hid (w2.heap.size = w1.heap.size + 1) := hz2
                clear hw2 hz2
                have HNE : Hid (w1.heap.size ≠ w.heap.size) := by show _ ≠ _; omega
                obtain ⟨⟨c0, c1, c2, c3, c4⟩, f0, f1, f2, f3, f4⟩ := row5F HR2.out
                have HR3 : Hid ((w2.setCell ⟨w.heap.size, 3, none⟩ (.string tx)).rowIs w.heap.size 57 5 (rlF { nx with text := tx })) := (HR2.out.set 3 (.string tx)).congr fun j hj => by
                  have : j = 0 ∨ j = 1 ∨ j = 2 ∨ j = 3 ∨ j = 4 := by omega
                  rcases this with rfl | rfl | rfl | rfl | rfl <;> rfl
                have HB3 : Hid (Below w.heap.size w (w2.setCell ⟨w.heap.size, 3, none⟩ (.string tx))) := (OnlyRow.setCell _ _ _ _).below HB2.out (Nat.le_refl _)
                have HO3 : Hid ((w2.setCell ⟨w.heap.size, 3, none⟩ (.string tx)).ownsRow (w.heap.size + 1) 57 5 (.slice vo9 out.length vc9) out.length (rulC out)) := own_only (OnlyRow.setCell _ _ _ _) HO2.out (fun hx => by have := (ownC_lt HO2.out hx).2; omega)
                have HT3 : Hid ((w2.setCell ⟨w.heap.size, 3, none⟩ (.string tx)).rowIs w1.heap.size 82 5 (fun j => (#[.int .i64 (kd : Nat), .int .i64 (ka : Nat), .int .i64 (kf : Nat), .int .i64 (kn : Nat), .string tx] : Array Value).getD j undef)) := (OnlyRow.setCell _ _ _ _).row HT2.out HNE.out
                have HS3 : Hid ((w2.setCell ⟨w.heap.size, 3, none⟩ (.string tx)).heap.size = w1.heap.size + 1) := by
                  show _ = _
                  rw [← HZ2.out]
                  simp [World.setCell]
                obtain ⟨⟨x0, x1, x2, x3, x4⟩, g0, g1, g2, g3, g4⟩ := row5F HR3.out
                clear c0 c1 c2 c4 f0 f1 f2 f4
                go_wp2_with (first
                  | (at_builtin; refine wpList_append_lies _ (by rfl) (.tmp 57) (.tmp 59) 29 (by rfl) (w.heap.size + 1) 57 i0 (.agg #[.string ByteArray.empty, .int .i64 0, .int .i64 0, .string ByteArray.empty, .string ByteArray.empty]) 5 64 Tryz.underlying29 hi0 hq0 hq1 hq2 rfl (by omega) _ out.length _ (by rfl) (HO3.out.alloc _) ⟨w2.heap.size, 0, none⟩ 1 1 [.string nx.reset, .int .i64 nx.before, .int .i64 nx.level, .string tx, .string nx.more] ?d0 (by rfl) ?d1 ?d2 (by omega) ?d3 ?d5 ?d4 (w2.heap.size + 1) ?d6 ?_))
                case d0 => rfl
                case d1 => exact newC5 _ (by simp [World.setCell]) _ _ _ _ _ _
                case d2 => intro u hu; simp at hu; rcases hu with rfl | rfl | rfl | rfl | rfl <;> rfl
                case d3 => unfold maxLen; omega
                case d5 => omega
                case d4 => rw [size_one, HS3.out]; omega
                case d6 => rw [size_one, HS3.out, HZ2.out]
                · intro g3 cap3 w4 hown4 hgrow4 _ _
                  have HZ4 : Hid (w1.heap.size + 2 ≤ w4.heap.size) := by
                    have := hgrow4.size
                    rw [size_one, HS3.out] at this
                    exact this
                  have HB4 : Hid (Below w.heap.size w w4) := ownC_grown_below (below_then HB3.out (below_one _)) (by rw [size_one, HS3.out]; omega) (HO3.out.alloc _) (by omega) hgrow4
                  have HR4 : Hid (w4.rowIs w.heap.size 57 5 (rlF { nx with text := tx })) := (HR3.out.alloc _).of_block (hgrow4.block _ (by rw [size_one, HS3.out]; omega) (fun hx => by have := (ownC_lt HO3.out hx.symm).2; omega))
                  have HT4 : Hid (w4.rowIs w1.heap.size 82 5 (fun j => (#[.int .i64 (kd : Nat), .int .i64 (ka : Nat), .int .i64 (kf : Nat), .int .i64 (kn : Nat), .string tx] : Array Value).getD j undef)) := (HT3.out.alloc _).of_block (hgrow4.block _ (by rw [size_one, HS3.out]; omega) (fun hx => by have := (ownC_lt HO1.out hx.symm).1; omega))
                  have HO4 : Hid (w4.ownsRow (w.heap.size + 1) 57 5 (.slice (some ⟨g3, 0, none⟩) (out.length + 1) cap3) (out ++ [Rl.mk nx.reset nx.before nx.level tx nx.more]).length (rulC (out ++ [Rl.mk nx.reset nx.before nx.level tx nx.more]))) := by
                    show World.ownsRow _ _ _ _ _ _ _
                    rw [rulC_snoc, List.length_append]
                    exact hown4
                  obtain ⟨⟨z0, z1, z2, z3, z4⟩, k0, k1, k2, k3, k4⟩ := row5F HR4.out
                  have y2 : (((((w4.setCell ⟨w.heap.size, 0, none⟩ (.string { data := #[] })).setCell ⟨w.heap.size, 1, none⟩ (.int .i64 0)).setCell ⟨w.heap.size, 2, none⟩ (.int .i64 0)).setCell ⟨w.heap.size, 3, none⟩ (.string { data := #[] })).setCell ⟨w.heap.size, 4, none⟩ (.string { data := #[] })).cell? ⟨w1.heap.size, 2, none⟩ = some (.int .i64 (kf : Nat)) := ((set5_only w4 w.heap.size _ _ _ _ _).row HT4.out HNE.out).cell (i := 2) (by omega)
                  have HB5 : Hid (Below w.heap.size w (((((w4.setCell ⟨w.heap.size, 0, none⟩ (.string { data := #[] })).setCell ⟨w.heap.size, 1, none⟩ (.int .i64 0)).setCell ⟨w.heap.size, 2, none⟩ (.int .i64 0)).setCell ⟨w.heap.size, 3, none⟩ (.string { data := #[] })).setCell ⟨w.heap.size, 4, none⟩ (.string { data := #[] }))) := (set5_only w4 w.heap.size _ _ _ _ _).below HB4.out (Nat.le_refl _)
                  have HR5 : Hid ((((((w4.setCell ⟨w.heap.size, 0, none⟩ (.string { data := #[] })).setCell ⟨w.heap.size, 1, none⟩ (.int .i64 0)).setCell ⟨w.heap.size, 2, none⟩ (.int .i64 0)).setCell ⟨w.heap.size, 3, none⟩ (.string { data := #[] })).setCell ⟨w.heap.size, 4, none⟩ (.string { data := #[] })).rowIs w.heap.size 57 5 (rlF default)) := (((((HR4.out.set 0 (.string { data := #[] })).set 1 (.int .i64 0)).set 2 (.int .i64 0)).set 3 (.string { data := #[] })).set 4 (.string { data := #[] })).congr fun j hj => by
                    have : j = 0 ∨ j = 1 ∨ j = 2 ∨ j = 3 ∨ j = 4 := by omega
                    rcases this with rfl | rfl | rfl | rfl | rfl <;> rfl
                  have HO5 : Hid ((((((w4.setCell ⟨w.heap.size, 0, none⟩ (.string { data := #[] })).setCell ⟨w.heap.size, 1, none⟩ (.int .i64 0)).setCell ⟨w.heap.size, 2, none⟩ (.int .i64 0)).setCell ⟨w.heap.size, 3, none⟩ (.string { data := #[] })).setCell ⟨w.heap.size, 4, none⟩ (.string { data := #[] })).ownsRow (w.heap.size + 1) 57 5 (.slice (some ⟨g3, 0, none⟩) (out.length + 1) cap3) (out ++ [Rl.mk nx.reset nx.before nx.level tx nx.more]).length (rulC (out ++ [Rl.mk nx.reset nx.before nx.level tx nx.more]))) := own_only (set5_only w4 w.heap.size _ _ _ _ _) HO4.out (fun hx => by have := (ownC_lt HO4.out hx).2; omega)
                  clear hown4 hgrow4 x0 x1 x2 x3 x4 g0 g1 g2 g4 c3 f3 t0 t1 t2 t3 t4
                  go_wp2
                  go_roundw
                  case rel => exact ⟨5, kf, default, out ++ [Rl.mk nx.reset nx.before nx.level tx nx.more], HNX, (fun _ => by simp), by omega, hkf, by simp; omega, by rfl, rfl, HB5.out, HR5, HO5.out⟩
                  case measure => simp [intOf, h8m]; omega
              · have HNX : Hid (rdAll s = if 6 = 8 then (out, (0 : Int), 0) else rd s ⟨6, kf, nx, out⟩) := by
                  show _ = _
                  rw [if_neg (by decide), HSTEP.out 6 h1, hkf0]
                  rfl
                have HOUT : Hid (out ≠ []) := HOUTS.out (.inl (thn_6 (h1 ▸ hthn)))
                have hlm' : lm = 6 := by rw [hlm, h1]; rfl
                subst h1
                subst hlm'
                clear hk17 hl2 hl3 ht hkd hka hkf0 hkn htx hr hthn hthn2 hlm he8 hgo
                go_wp2_with fail
                refine (HTK.out _).mono ?_
                rintro e w1 ⟨rfl, hb1⟩
                have hz1 : w.heap.size + 1 ≤ w1.heap.size := by have := hb1.size; omega
                have HB1 : Hid (Below w.heap.size w w1) := below_then hbel hb1
                have HR1 : Hid (w1.rowIs w.heap.size 57 5 (rlF nx)) := HRN.out.of_block (hb1.block _ (by omega))
                have HO1 : Hid (w1.ownsRow (w.heap.size + 1) 57 5 (.slice vo9 out.length vc9) out.length (rulC out)) := ownC_below HOW.out hb1
                clear hb1
                go_wp2_with fail
                refine (HTH.out _).mono ?_
                rintro e w2 ⟨rfl, hw2⟩
                have HR2 : Hid (w2.rowIs w.heap.size 57 5 (rlF nx)) := by show World.rowIs _ _ _ _ _; rw [hw2]; exact HR1.out.alloc _
                have HO2 : Hid (w2.ownsRow (w.heap.size + 1) 57 5 (.slice vo9 out.length vc9) out.length (rulC out)) := by show World.ownsRow _ _ _ _ _ _ _; rw [hw2]; exact HO1.out.alloc _
                have HB2 : Hid (Below w.heap.size w w2) := by show Below _ _ _; rw [hw2]; exact below_then HB1.out (below_one _)
                have HT2 : Hid (w2.rowIs w1.heap.size 82 5 (fun j => (#[.int .i64 (kd : Nat), .int .i64 (ka : Nat), .int .i64 (kf : Nat), .int .i64 (kn : Nat), .string tx] : Array Value).getD j undef)) := by show World.rowIs _ _ _ _ _; rw [hw2]; exact row_new _ _ _ 5 rfl
                have hz2 : w2.heap.size = w1.heap.size + 1 := by rw [hw2]; simp
                obtain ⟨⟨t0, t1, t2, t3, t4⟩, _⟩ := row5F HT2.out
                have HZ2 : Hid (w2.heap.size = w1.heap.size + 1) := hz2
                clear hw2 hz2
                go_wp2
                go_roundw
                case rel => exact ⟨6, kf, nx, out, HNX, (fun _ => HOUT.out), by omega, hkf, by omega, by rfl, rfl, HB2.out, HR2, HO2.out⟩
                case measure => simp [intOf, h8m]; omega
              · have HNX : Hid (rdAll s = if 7 = 8 then ((setMore out tx), (0 : Int), 0) else rd s ⟨7, kf, nx, (setMore out tx)⟩) := by
                  show _ = _
                  rw [if_neg (by decide), HSTEP.out 7 h1, hkf0, htx]
                  rfl
                have HOUT : Hid (out ≠ []) := HOUTS.out (.inr (.inl (thn_7 (h1 ▸ hthn))))
                have hlm' : lm = 6 := by rw [hlm, h1]; rfl
                subst h1
                subst hlm'
                clear hk17 hl2 hl3 ht hkd hka hkf0 hkn htx hr hthn hthn2 hlm he8 hgo
                obtain ⟨y, x, hyx⟩ : ∃ (y : List Rl) (x : Rl), out = y ++ [x] := ⟨out.dropLast, out.getLast HOUT.out, (List.dropLast_concat_getLast HOUT.out).symm⟩
                obtain ⟨q, hq⟩ : ∃ q, q = y.length := ⟨_, rfl⟩
                have hlen : out.length = q + 1 := by rw [hyx, hq]; simp
                have HSM : Hid ((rulC out).set (q * 5 + 4) (.string tx) = rulC (setMore out tx)) := by show _ = _; rw [hyx, hq]; exact rulC_more y x tx
                have HLS : Hid ((setMore out tx).length = q + 1) := by show _ = _; rw [hyx, setMore_snoc, hq]; simp
                have HNS : Hid (setMore out tx ≠ []) := by show _ ≠ _; rw [hyx, setMore_snoc]; simp
                have HCL : Hid ((rulC out)[q * 5 + 4]? = some (.string x.more)) := by
                  show _ = _
                  rw [hyx, rulC_snoc, List.getElem?_append_right (by rw [rulC_len]; omega), rulC_len, hq, Nat.add_sub_cancel_left]
                  rfl
                obtain ⟨mo, hmo⟩ : ∃ z, z = x.more := ⟨_, rfl⟩
                rw [← hmo] at HCL
                rw [hlen] at HOW hLi
                rw [hlen]
                clear hyx hq hlen hmo
                obtain ⟨vo, vc, gv, hv2, hva, hvc⟩ := ownC_cells HOW.out
                have hvo := (hva (by omega)).1
                injection hv2 with hv3 hv4 hv5
                subst hv3
                subst hvo
                clear hva hvc hv4 hv5
                go_wp2_with fail
                refine (HTK.out _).mono ?_
                rintro e w1 ⟨rfl, hb1⟩
                have hz1 : w.heap.size + 1 ≤ w1.heap.size := by have := hb1.size; omega
                have HB1 : Hid (Below w.heap.size w w1) := below_then hbel hb1
                have HR1 : Hid (w1.rowIs w.heap.size 57 5 (rlF nx)) := HRN.out.of_block (hb1.block _ (by omega))
                have HO1 : Hid (w1.ownsRow (w.heap.size + 1) 57 5 (.slice (some ⟨gv, 0, none⟩) (q + 1) vc9) (q + 1) (rulC out)) := ownC_below HOW.out hb1
                clear hb1
                go_wp2_with fail
                refine (HTH.out _).mono ?_
                rintro e w2 ⟨rfl, hw2⟩
                have HR2 : Hid (w2.rowIs w.heap.size 57 5 (rlF nx)) := by show World.rowIs _ _ _ _ _; rw [hw2]; exact HR1.out.alloc _
                have HO2 : Hid (w2.ownsRow (w.heap.size + 1) 57 5 (.slice (some ⟨gv, 0, none⟩) (q + 1) vc9) (q + 1) (rulC out)) := by show World.ownsRow _ _ _ _ _ _ _; rw [hw2]; exact HO1.out.alloc _
                have HB2 : Hid (Below w.heap.size w w2) := by show Below _ _ _; rw [hw2]; exact below_then HB1.out (below_one _)
                have HT2 : Hid (w2.rowIs w1.heap.size 82 5 (fun j => (#[.int .i64 (kd : Nat), .int .i64 (ka : Nat), .int .i64 (kf : Nat), .int .i64 (kn : Nat), .string tx] : Array Value).getD j undef)) := by show World.rowIs _ _ _ _ _; rw [hw2]; exact row_new _ _ _ 5 rfl
                have hz2 : w2.heap.size = w1.heap.size + 1 := by rw [hw2]; simp
                obtain ⟨⟨t0, t1, t2, t3, t4⟩, _⟩ := row5F HT2.out
                have HZ2 : Hid (w2.heap.size = w1.heap.size + 1) := hz2
                clear hw2 hz2
                have HNE : Hid (w1.heap.size ≠ gv ∧ w.heap.size ≠ gv) := by
                  have h1 := ownC_lt HO1.out (b := gv) rfl
                  exact ⟨by omega, by omega⟩
                have f4 := own_frozenN HO2.out (q * 5 + 4)
                have c4 : w2.cell? ⟨gv, q * 5 + 4, none⟩ = some (.string mo) := by
                  obtain ⟨_, _, gv', hv6, hva6, hvc6⟩ := ownC_cells HO2.out
                  have hvo6 := (hva6 (by omega)).1
                  injection hv6 with hv7 _ _
                  rw [← hv7] at hvo6
                  have hg : gv = gv' := by injection hvo6 with h; injection h
                  rw [hg]
                  exact hvc6 _ _ (by omega) HCL.out
                have y2 : (w2.setCell ⟨gv, q * 5 + 4, none⟩ (.string tx)).cell? ⟨w1.heap.size, 2, none⟩ = some (.int .i64 (kf : Nat)) := ((OnlyRow.setCell _ _ _ _).row HT2.out HNE.out.1).cell (i := 2) (by omega)
                have HB3 : Hid (Below w.heap.size w (w2.setCell ⟨gv, q * 5 + 4, none⟩ (.string tx))) := (OnlyRow.setCell _ _ _ _).below HB2.out (by have := (ownC_lt HO2.out (b := gv) rfl).2; omega)
                have HR3 : Hid ((w2.setCell ⟨gv, q * 5 + 4, none⟩ (.string tx)).rowIs w.heap.size 57 5 (rlF nx)) := (OnlyRow.setCell _ _ _ _).row HR2.out HNE.out.2
                have HO3 : Hid ((w2.setCell ⟨gv, q * 5 + 4, none⟩ (.string tx)).ownsRow (w.heap.size + 1) 57 5 (.slice (some ⟨gv, 0, none⟩) (q + 1) vc9) (setMore out tx).length (rulC (setMore out tx))) := by
                  show World.ownsRow _ _ _ _ _ _ _
                  rw [HLS.out, ← HSM.out]
                  exact own_setN HO2.out (.string tx)
                have q1 : ((q : Int) + 1 - 1).toNat = q := by omega
                have q2 : (q : Int) + 1 - 1 = q := by omega
                go_wp2
                go_roundw
                case rel => exact ⟨7, kf, nx, setMore out tx, HNX, (fun _ => HNS.out), by omega, hkf, by rw [HLS.out]; omega, by rfl, rfl, HB3.out, HR3, HO3.out⟩
                case measure => simp [intOf, h8m]; omega
              · exact absurd h1 he8

end Go.Proofs.YtpclldccjpncdabGreat

namespace Go.Proofs.YtpclldccjpncdabGreat
open Go.RowKit

/-- the weights of a node of the list, behind one with the weights p, s, t -/
def wgt (p s t : Int) (x : Sp) : Sp :=
  if x.old = true then x
  else if x.str = 1 then { x with p := p + 1, s := 8, t := 8 }
  else if x.str = 2 then { x with p := p, s := s + 1, t := 8 }
  else if x.str = 3 then { x with p := p, s := s, t := t + 1 }
  else x
def okW (p s t : Int) (y : Sp) : Bool := aboveB y.p y.s y.t p s t && decide (stI p s t y.p y.s y.t = y.str) && nodeB y.p y.s y.t
/-- the list with its weights; none: there is no room -/
def weigh : List Sp → Int → Int → Int → Option (List Sp)
  | [], _, _, _ => some []
  | x :: r, p, s, t => if okW p s t (wgt p s t x) = true then (weigh r (wgt p s t x).p (wgt p s t x).s (wgt p s t x).t).map (wgt p s t x :: ·) else none
theorem set_mid {α : Type} (a b : List α) (k : Nat) (v : α) (_hk : k < b.length) : (a ++ b).set (a.length + k) v = a ++ b.set k v := by
  rw [List.set_append_right _ _ (by omega), Nat.add_sub_cancel_left]
theorem spsC_set (d : List Sp) (x : Sp) (r : List Sp) (p s t : Int) : (((spsC (d ++ x :: r)).set (d.length * 6 + 3) (.int .i64 p)).set (d.length * 6 + 4) (.int .i64 s)).set (d.length * 6 + 5) (.int .i64 t) = spsC (d ++ { x with p := p, s := s, t := t } :: r) := by
  have e : ∀ y : Sp, spsC (d ++ y :: r) = spsC d ++ (y.cs ++ spsC r) := fun y => by rw [spsC_app]; rfl
  rw [e, e, ← spsC_len d, set_mid _ _ 3 _ (by rw [List.length_append]; show 3 < 6 + _; omega), set_mid _ _ 4 _ (by rw [List.length_set, List.length_append]; show 4 < 6 + _; omega), set_mid _ _ 5 _ (by rw [List.length_set, List.length_set, List.length_append]; show 5 < 6 + _; omega)]
  rfl
/-- three weights are written into the list -/
theorem WkA.setX {B g : Nat} {K : Wk} {ea sa : Option Addr} {lc ec sc gv : Nat} {vs : Nat → Option Addr} {cs : Nat → Nat} {w : World} {d : List Sp} {x : Sp} {r : List Sp} (h : WkA B g { K with ls := d ++ x :: r } (some ⟨gv, 0, none⟩) ea sa lc ec sc vs cs w) (p s t : Int) :
    WkA B g { K with ls := d ++ { x with p := p, s := s, t := t } :: r } (some ⟨gv, 0, none⟩) ea sa lc ec sc vs cs (((w.setCell ⟨gv, d.length * 6 + 3, none⟩ (.int .i64 p)).setCell ⟨gv, d.length * 6 + 4, none⟩ (.int .i64 s)).setCell ⟨gv, d.length * 6 + 5, none⟩ (.int .i64 t)) := by
  have hO : OnlyRow gv w (((w.setCell ⟨gv, d.length * 6 + 3, none⟩ (.int .i64 p)).setCell ⟨gv, d.length * 6 + 4, none⟩ (.int .i64 s)).setCell ⟨gv, d.length * 6 + 5, none⟩ (.int .i64 t)) := ((OnlyRow.setCell _ _ _ _).trans (OnlyRow.setCell _ _ _ _)).trans (OnlyRow.setCell _ _ _ _)
  have hl := h.list
  have hn : (d ++ { x with p := p, s := s, t := t } :: r).length = (d ++ x :: r).length := by simp
  have hgg : g ≠ gv := fun e => own_far h.row hl (by decide) (by rw [e]; rfl)
  have far : ∀ {e : TypeId} {size : Nat} {v : Value} {m : Nat} {xs : List Value}, w.ownsRow B e size v m xs → e ≠ 129 → v.ownBlock ≠ some gv := fun ho ht hb => ownC_two ho hl ht hb rfl
  refine ⟨?_, h.base, ?_, own_only hO h.ents (far h.ents (by decide)), fun j hj => own_only hO (h.ints j hj) (far (h.ints j hj) (by decide)), own_only hO h.stem (far h.stem (by decide))⟩
  · show World.rowIs _ _ _ _ (wkF _ (d ++ { x with p := p, s := s, t := t } :: r).length _ _ _ _ _ _ _ _ _)
    rw [hn]
    exact hO.row h.row hgg
  · show World.ownsRow _ _ _ _ (.slice _ (d ++ { x with p := p, s := s, t := t } :: r).length _) (d ++ { x with p := p, s := s, t := t } :: r).length _
    rw [hn, ← spsC_set]
    exact own_setN (own_setN (own_setN hl _) _) _
theorem WkA.below {B g : Nat} {K : Wk} {la ea sa : Option Addr} {lc ec sc : Nat} {vs : Nat → Option Addr} {cs : Nat → Nat} {w w' : World} (h : WkA B g K la ea sa lc ec sc vs cs w) (hb : Below w.heap.size w w') : WkA B g K la ea sa lc ec sc vs cs w' :=
  ⟨h.row.of_block (hb.block _ h.row.lt), h.base, ownC_below h.list hb, ownC_below h.ents hb, fun j hj => ownC_below (h.ints j hj) hb, ownC_below h.stem hb⟩
theorem OnlyRow.row6 {g : Nat} {w w' : World} (h : OnlyRow g w w') {b : Nat} {t : TypeId} {n : Nat} {f : Nat → Value} (hr : w.rowIs b t n f) (hb : b ≠ g) : w'.rowIs b t n f := h.row hr hb
theorem WkA.drew {B g : Nat} {K : Wk} {la ea sa : Option Addr} {lc ec sc : Nat} {vs : Nat → Option Addr} {cs : Nat → Nat} {w : World} (h : WkA B g K la ea sa lc ec sc vs cs w) : WkA B g K la ea sa lc ec sc vs cs w.drew :=
  ⟨h.row.drew, h.base, h.list.drew, h.ents.drew, fun j hj => (h.ints j hj).drew, h.stem.drew⟩
theorem WkA.node {B g : Nat} {K : Wk} {la ea sa : Option Addr} {lc ec sc : Nat} {vs : Nat → Option Addr} {cs : Nat → Nat} {w w' : World} (h : WkA B g K la ea sa lc ec sc vs cs w) {b n : Nat} {f : Nat → Value} (hr : w.rowIs b 65 n f) (hO : OnlyRow b w w') : WkA B g K la ea sa lc ec sc vs cs w' :=
  ⟨hO.row h.row (fun e => row_ne h.row hr (by decide) e), h.base, own_only hO h.list (own_far hr h.list (by decide)), own_only hO h.ents (own_far hr h.ents (by decide)), fun j hj => own_only hO (h.ints j hj) (own_far hr (h.ints j hj) (by decide)), own_only hO h.stem (own_far hr h.stem (by decide))⟩
def spF (x : Sp) : Nat → Value := fun j => #[Value.int .i64 x.name, .int .i64 x.str, .bool x.old, .int .i64 x.p, .int .i64 x.s, .int .i64 x.t].getD j undef
def ndF (p s t : Int) : Nat → Value := fun j => #[Value.int .i64 p, .int .i64 s, .int .i64 t].getD j undef

set_option maxRecDepth 100000 in
set_option maxHeartbeats 4000000 in
theorem weighed_any (B g : Nat) (K : Wk) (la ea sa : Option Addr) (lc ec sc : Nat) (vs : Nat → Option Addr) (cs : Nat → Nat) (w : World) (h : WkA B g K la ea sa lc ec sc vs cs w) (hn : K.ls.length ≤ 1000) (hstr : ∀ x ∈ K.ls, x.str = 1 ∨ x.str = 2 ∨ x.str = 3) :
    Calls Tryz.prog 63 #[.pointer (some ⟨g, 0, none⟩)] w fun e w' => ∃ v, e = .returned v ∧ Hid ((weigh K.ls 0 0 0 = none ∧ v = .bool false) ∨ (∃ ls', weigh K.ls 0 0 0 = some ls' ∧ v = .bool true ∧ WkA B g { K with ls := ls' } la ea sa lc ec sc vs cs w')) ∧ Below B w w' := by
  obtain ⟨n, hnn⟩ : ∃ n, n = K.ls.length := ⟨_, rfl⟩
  rw [← hnn] at hn
  have hgl : g < w.heap.size := h.row.lt
  have hBw : B ≤ w.heap.size := by have := h.base; omega
  have HK0 : Hid (WkA B g { K with ls := [] ++ K.ls } la ea sa lc ec sc vs cs (w.alloc (.cells #[.int .i64 0, .int .i64 0, .int .i64 0] 65))) := h.below (below_one _)
  have HL0 : Hid ((w.alloc (.cells #[.int .i64 0, .int .i64 0, .int .i64 0] 65)).rowIs w.heap.size 65 3 (ndF 0 0 0)) := row_new _ _ _ 3 rfl
  have HB0 : Hid (Below B w (w.alloc (.cells #[.int .i64 0, .int .i64 0, .int .i64 0] 65))) := (below_one _).mono hBw
  have HS0 : Hid (∀ x ∈ K.ls, x.str = 1 ∨ x.str = 2 ∨ x.str = 3) := hstr
  have HN0 : Hid (n = K.ls.length) := hnn
  clear h hstr hnn
  go_enter Tryz.func63, Tryz.ntmps63
  go_wp2
  go_loopw [4] (fun iv wr => ∃ (d r : List Sp) (p s t : Int), Hid (weigh K.ls 0 0 0 = (weigh r p s t).map (d ++ ·)) ∧ Hid (WkA B g { K with ls := d ++ r } la ea sa lc ec sc vs cs wr) ∧ Hid (wr.rowIs w.heap.size 65 3 (ndF p s t)) ∧ ((0 ≤ p ∧ p ≤ 250) ∧ (0 ≤ s ∧ s ≤ 250) ∧ (0 ≤ t ∧ t ≤ 250)) ∧ d.length ≤ n ∧ Hid ((d ++ r).length = n) ∧ Hid (∀ x ∈ r, x.str = 1 ∨ x.str = 2 ∨ x.str = 3) ∧ iv = .int .i64 (d.length : Nat) ∧ Below B w wr) (fun iv _ => n - (intOf iv).toNat)
  case atStart => exact ⟨[], K.ls, 0, 0, 0, (by show _ = _; cases weigh K.ls 0 0 0 <;> rfl), HK0, HL0, by omega, Nat.zero_le _, HN0.out.symm, HS0, rfl, HB0.out⟩
  case round =>
    obtain ⟨d, r0, p, s, t, HWE, HWK, HLA, hbd, hdn, HDR, HST, rfl, hbel⟩ := hrel
    obtain ⟨⟨hp0, hp1⟩, ⟨hs0, hs1⟩, ht0, ht1⟩ := hbd
    have HNN : Hid (n = (d ++ r0).length) := HDR.out.symm
    obtain ⟨⟨g0, _⟩, _⟩ := row5K HWK.out.row
    have g0' : wr.cell? ⟨g, 0, none⟩ = some (.slice la n lc) := by rw [HNN.out]; exact g0
    clear g0
    have hgr : g < wr.heap.size := HWK.out.row.lt
    have hwr : w.heap.size < wr.heap.size := HLA.out.lt
    cases r0 with
    | nil =>
      have hdl : d.length = n := by have := HDR.out; simpa using this
      have HE : Hid (weigh K.ls 0 0 0 = some (d ++ []) ∧ WkA B g { K with ls := d ++ [] } la ea sa lc ec sc vs cs wr) := ⟨by rw [HWE.out]; rfl, HWK.out⟩
      have hge : (n : Int) ≤ (d.length : Int) := by omega
      clear hdl
      go_wp2
      go_ret
      exact ⟨_, rfl, .inr ⟨_, HE.out.1, rfl, HE.out.2⟩, hbel⟩
    | cons x r =>
      have hlt : d.length < n := by have := HDR.out; simp at this; omega
      have hlt' : (d.length : Int) < (n : Int) := by omega
      obtain ⟨gv, hli⟩ := list_in HWK.out.list
      have had := hli.addr (by simp; omega)
      subst had
      have hdx : (d ++ x :: r).getD d.length default = x := by rw [List.getD_eq_getElem?_getD, List.getElem?_append_right (Nat.le_refl _), Nat.sub_self]; rfl
      have hin : d.length < (d ++ x :: r).length := by simp
      have c0 := hli.name d.length hin
      have c1 := hli.str d.length hin
      have c2 := hli.old d.length hin
      have c3 := hli.p d.length hin
      have c4 := hli.s d.length hin
      have c5 := hli.t d.length hin
      rw [hdx] at c0 c1 c2 c3 c4 c5
      have hgvl : gv < wr.heap.size := (ownC_lt HWK.out.list (b := gv) rfl).1
      have hgvB : B ≤ gv := (ownC_lt HWK.out.list (b := gv) rfl).2
      have hxs := HST.out x (by simp)
      obtain ⟨nm, st, ol, xp, xs, xt⟩ := x
      simp only at c0 c1 c2 c3 c4 c5 hxs
      clear hli hdx hin
      obtain ⟨i, hi⟩ : ∃ i, i = d.length := ⟨_, rfl⟩
      go_upto_if 28 with (fail)
      go_cut [26] from 26 to 66 (fun _ wc => ∃ p' s' t' : Int, Hid (wgt p s t ⟨nm, st, ol, xp, xs, xt⟩ = ⟨nm, st, ol, p', s', t'⟩) ∧ Hid (WkA B g { K with ls := d ++ (⟨nm, st, ol, p', s', t'⟩ : Sp) :: r } (some ⟨gv, 0, none⟩) ea sa lc ec sc vs cs wc) ∧ Hid (wc.rowIs wr.heap.size 129 6 (spF ⟨nm, st, ol, p', s', t'⟩)) ∧ Hid (wc.rowIs w.heap.size 65 3 (ndF p s t)) ∧ Hid (Below B w wc))
      case first =>
        by_cases hol : ol = true
        · subst hol
          go_wp2
          go_meet
          exact ⟨xp, xs, xt, rfl, HWK.out.below (below_one _), row_new _ _ _ 6 rfl, HLA.out.alloc _, hbel.trans ((below_one _).mono (by omega))⟩
        · have hol' : ol = false := by simpa using hol
          subst hol'
          clear hol
          have l0 := (HLA.out.alloc (.cells #[.int .i64 nm, .int .i64 st, .bool false, .int .i64 xp, .int .i64 xs, .int .i64 xt] 129)).cell (i := 0) (by omega)
          have l1 := (HLA.out.alloc (.cells #[.int .i64 nm, .int .i64 st, .bool false, .int .i64 xp, .int .i64 xs, .int .i64 xt] 129)).cell (i := 1) (by omega)
          have l2 := (HLA.out.alloc (.cells #[.int .i64 nm, .int .i64 st, .bool false, .int .i64 xp, .int .i64 xs, .int .i64 xt] 129)).cell (i := 2) (by omega)
          simp only [ndF] at l0 l1 l2
          rcases hxs with hs1 | hs1 | hs1
          · subst hs1
            have HWG : Hid (wgt p s t ⟨nm, 1, false, xp, xs, xt⟩ = ⟨nm, 1, false, (p + 1), 8, 8⟩) := rfl
            have HX : Hid (WkA B g { K with ls := d ++ (⟨nm, 1, false, xp, xs, xt⟩ : Sp) :: r } (some ⟨gv, 0, none⟩) ea sa lc ec sc vs cs (wr.alloc (.cells #[.int .i64 nm, .int .i64 1, .bool false, .int .i64 (p + 1), .int .i64 8, .int .i64 8] 129))) := HWK.out.below (below_one _)
            have HXS : Hid (WkA B g { K with ls := d ++ (⟨nm, 1, false, (p + 1), 8, 8⟩ : Sp) :: r } (some ⟨gv, 0, none⟩) ea sa lc ec sc vs cs ((((wr.setCell ⟨gv, d.length * 6 + 3, none⟩ (.int .i64 (p + 1))).setCell ⟨gv, d.length * 6 + 3 + 1, none⟩ (.int .i64 8)).setCell ⟨gv, d.length * 6 + 3 + 2, none⟩ (.int .i64 8)).alloc (.cells #[.int .i64 nm, .int .i64 1, .bool false, .int .i64 (p + 1), .int .i64 8, .int .i64 8] 129))) := (HWK.out.setX (p + 1) 8 8).below (below_one _)
            have HON : Hid (OnlyRow gv wr (((wr.setCell ⟨gv, d.length * 6 + 3, none⟩ (.int .i64 (p + 1))).setCell ⟨gv, d.length * 6 + 3 + 1, none⟩ (.int .i64 8)).setCell ⟨gv, d.length * 6 + 3 + 2, none⟩ (.int .i64 8))) := ((OnlyRow.setCell _ _ _ _).trans (OnlyRow.setCell _ _ _ _)).trans (OnlyRow.setCell _ _ _ _)
            have HSZ : Hid ((((wr.setCell ⟨gv, d.length * 6 + 3, none⟩ (.int .i64 (p + 1))).setCell ⟨gv, d.length * 6 + 3 + 1, none⟩ (.int .i64 8)).setCell ⟨gv, d.length * 6 + 3 + 2, none⟩ (.int .i64 8)).heap.size = wr.heap.size) := by show _ = _; simp [World.setCell]
            have HRS : Hid (((((wr.setCell ⟨gv, d.length * 6 + 3, none⟩ (.int .i64 (p + 1))).setCell ⟨gv, d.length * 6 + 3 + 1, none⟩ (.int .i64 8)).setCell ⟨gv, d.length * 6 + 3 + 2, none⟩ (.int .i64 8)).alloc (.cells #[.int .i64 nm, .int .i64 1, .bool false, .int .i64 (p + 1), .int .i64 8, .int .i64 8] 129)).rowIs wr.heap.size 129 6 (spF ⟨nm, 1, false, (p + 1), 8, 8⟩)) := row_at (row_new _ _ _ 6 rfl) HSZ.out (fun _ _ => rfl)
            obtain ⟨⟨k0, _⟩, _⟩ := row5K HX.out.row
            have fz3 := own_frozenN HWK.out.list (d.length * 6 + 3)
            have fz4 : wr.frozen? ⟨gv, d.length * 6 + 3 + 1, none⟩ = false := own_frozenN HWK.out.list _
            have fz5 : wr.frozen? ⟨gv, d.length * 6 + 3 + 2, none⟩ = false := own_frozenN HWK.out.list _
            have v4 : wr.cell? ⟨gv, d.length * 6 + 3 + 1, none⟩ = some (.int .i64 xs) := c4
            have v5 : wr.cell? ⟨gv, d.length * 6 + 3 + 2, none⟩ = some (.int .i64 xt) := c5
            have hgne : gv ≠ wr.heap.size := by omega
            have hk0 : (wr.alloc (.cells #[.int .i64 nm, .int .i64 1, .bool false, .int .i64 (p + 1), .int .i64 8, .int .i64 8] 129)).cell? ⟨g, 0, none⟩ = some (.slice (some ⟨gv, 0, none⟩) n lc) := by rw [HNN.out]; exact k0
            clear k0
            go_wp2
            go_region
            go_wp2
            go_meet
            have hne2 : w.heap.size ≠ gv := fun e => own_far HLA.out HWK.out.list (by decide) (by rw [e]; rfl)
            exact ⟨_, _, _, HWG, HXS.out.drew, HRS.out.drew, ((HON.out.row HLA.out hne2).alloc _).drew, ((HON.out.below hbel hgvB).trans ((below_one _).mono (by rw [HSZ.out]; omega))).drew⟩
          · subst hs1
            have HWG : Hid (wgt p s t ⟨nm, 2, false, xp, xs, xt⟩ = ⟨nm, 2, false, p, (s + 1), 8⟩) := rfl
            have HX : Hid (WkA B g { K with ls := d ++ (⟨nm, 2, false, xp, xs, xt⟩ : Sp) :: r } (some ⟨gv, 0, none⟩) ea sa lc ec sc vs cs (wr.alloc (.cells #[.int .i64 nm, .int .i64 2, .bool false, .int .i64 p, .int .i64 (s + 1), .int .i64 8] 129))) := HWK.out.below (below_one _)
            have HXS : Hid (WkA B g { K with ls := d ++ (⟨nm, 2, false, p, (s + 1), 8⟩ : Sp) :: r } (some ⟨gv, 0, none⟩) ea sa lc ec sc vs cs ((((wr.setCell ⟨gv, d.length * 6 + 3, none⟩ (.int .i64 p)).setCell ⟨gv, d.length * 6 + 3 + 1, none⟩ (.int .i64 (s + 1))).setCell ⟨gv, d.length * 6 + 3 + 2, none⟩ (.int .i64 8)).alloc (.cells #[.int .i64 nm, .int .i64 2, .bool false, .int .i64 p, .int .i64 (s + 1), .int .i64 8] 129))) := (HWK.out.setX p (s + 1) 8).below (below_one _)
            have HON : Hid (OnlyRow gv wr (((wr.setCell ⟨gv, d.length * 6 + 3, none⟩ (.int .i64 p)).setCell ⟨gv, d.length * 6 + 3 + 1, none⟩ (.int .i64 (s + 1))).setCell ⟨gv, d.length * 6 + 3 + 2, none⟩ (.int .i64 8))) := ((OnlyRow.setCell _ _ _ _).trans (OnlyRow.setCell _ _ _ _)).trans (OnlyRow.setCell _ _ _ _)
            have HSZ : Hid ((((wr.setCell ⟨gv, d.length * 6 + 3, none⟩ (.int .i64 p)).setCell ⟨gv, d.length * 6 + 3 + 1, none⟩ (.int .i64 (s + 1))).setCell ⟨gv, d.length * 6 + 3 + 2, none⟩ (.int .i64 8)).heap.size = wr.heap.size) := by show _ = _; simp [World.setCell]
            have HRS : Hid (((((wr.setCell ⟨gv, d.length * 6 + 3, none⟩ (.int .i64 p)).setCell ⟨gv, d.length * 6 + 3 + 1, none⟩ (.int .i64 (s + 1))).setCell ⟨gv, d.length * 6 + 3 + 2, none⟩ (.int .i64 8)).alloc (.cells #[.int .i64 nm, .int .i64 2, .bool false, .int .i64 p, .int .i64 (s + 1), .int .i64 8] 129)).rowIs wr.heap.size 129 6 (spF ⟨nm, 2, false, p, (s + 1), 8⟩)) := row_at (row_new _ _ _ 6 rfl) HSZ.out (fun _ _ => rfl)
            obtain ⟨⟨k0, _⟩, _⟩ := row5K HX.out.row
            have fz3 := own_frozenN HWK.out.list (d.length * 6 + 3)
            have fz4 : wr.frozen? ⟨gv, d.length * 6 + 3 + 1, none⟩ = false := own_frozenN HWK.out.list _
            have fz5 : wr.frozen? ⟨gv, d.length * 6 + 3 + 2, none⟩ = false := own_frozenN HWK.out.list _
            have v4 : wr.cell? ⟨gv, d.length * 6 + 3 + 1, none⟩ = some (.int .i64 xs) := c4
            have v5 : wr.cell? ⟨gv, d.length * 6 + 3 + 2, none⟩ = some (.int .i64 xt) := c5
            have hgne : gv ≠ wr.heap.size := by omega
            have hk0 : (wr.alloc (.cells #[.int .i64 nm, .int .i64 2, .bool false, .int .i64 p, .int .i64 (s + 1), .int .i64 8] 129)).cell? ⟨g, 0, none⟩ = some (.slice (some ⟨gv, 0, none⟩) n lc) := by rw [HNN.out]; exact k0
            clear k0
            go_wp2
            go_region
            go_wp2
            go_meet
            have hne2 : w.heap.size ≠ gv := fun e => own_far HLA.out HWK.out.list (by decide) (by rw [e]; rfl)
            exact ⟨_, _, _, HWG, HXS.out.drew, HRS.out.drew, ((HON.out.row HLA.out hne2).alloc _).drew, ((HON.out.below hbel hgvB).trans ((below_one _).mono (by rw [HSZ.out]; omega))).drew⟩
          · subst hs1
            have HWG : Hid (wgt p s t ⟨nm, 3, false, xp, xs, xt⟩ = ⟨nm, 3, false, p, s, (t + 1)⟩) := rfl
            have HX : Hid (WkA B g { K with ls := d ++ (⟨nm, 3, false, xp, xs, xt⟩ : Sp) :: r } (some ⟨gv, 0, none⟩) ea sa lc ec sc vs cs (wr.alloc (.cells #[.int .i64 nm, .int .i64 3, .bool false, .int .i64 p, .int .i64 s, .int .i64 (t + 1)] 129))) := HWK.out.below (below_one _)
            have HXS : Hid (WkA B g { K with ls := d ++ (⟨nm, 3, false, p, s, (t + 1)⟩ : Sp) :: r } (some ⟨gv, 0, none⟩) ea sa lc ec sc vs cs ((((wr.setCell ⟨gv, d.length * 6 + 3, none⟩ (.int .i64 p)).setCell ⟨gv, d.length * 6 + 3 + 1, none⟩ (.int .i64 s)).setCell ⟨gv, d.length * 6 + 3 + 2, none⟩ (.int .i64 (t + 1))).alloc (.cells #[.int .i64 nm, .int .i64 3, .bool false, .int .i64 p, .int .i64 s, .int .i64 (t + 1)] 129))) := (HWK.out.setX p s (t + 1)).below (below_one _)
            have HON : Hid (OnlyRow gv wr (((wr.setCell ⟨gv, d.length * 6 + 3, none⟩ (.int .i64 p)).setCell ⟨gv, d.length * 6 + 3 + 1, none⟩ (.int .i64 s)).setCell ⟨gv, d.length * 6 + 3 + 2, none⟩ (.int .i64 (t + 1)))) := ((OnlyRow.setCell _ _ _ _).trans (OnlyRow.setCell _ _ _ _)).trans (OnlyRow.setCell _ _ _ _)
            have HSZ : Hid ((((wr.setCell ⟨gv, d.length * 6 + 3, none⟩ (.int .i64 p)).setCell ⟨gv, d.length * 6 + 3 + 1, none⟩ (.int .i64 s)).setCell ⟨gv, d.length * 6 + 3 + 2, none⟩ (.int .i64 (t + 1))).heap.size = wr.heap.size) := by show _ = _; simp [World.setCell]
            have HRS : Hid (((((wr.setCell ⟨gv, d.length * 6 + 3, none⟩ (.int .i64 p)).setCell ⟨gv, d.length * 6 + 3 + 1, none⟩ (.int .i64 s)).setCell ⟨gv, d.length * 6 + 3 + 2, none⟩ (.int .i64 (t + 1))).alloc (.cells #[.int .i64 nm, .int .i64 3, .bool false, .int .i64 p, .int .i64 s, .int .i64 (t + 1)] 129)).rowIs wr.heap.size 129 6 (spF ⟨nm, 3, false, p, s, (t + 1)⟩)) := row_at (row_new _ _ _ 6 rfl) HSZ.out (fun _ _ => rfl)
            obtain ⟨⟨k0, _⟩, _⟩ := row5K HX.out.row
            have fz3 := own_frozenN HWK.out.list (d.length * 6 + 3)
            have fz4 : wr.frozen? ⟨gv, d.length * 6 + 3 + 1, none⟩ = false := own_frozenN HWK.out.list _
            have fz5 : wr.frozen? ⟨gv, d.length * 6 + 3 + 2, none⟩ = false := own_frozenN HWK.out.list _
            have v4 : wr.cell? ⟨gv, d.length * 6 + 3 + 1, none⟩ = some (.int .i64 xs) := c4
            have v5 : wr.cell? ⟨gv, d.length * 6 + 3 + 2, none⟩ = some (.int .i64 xt) := c5
            have hgne : gv ≠ wr.heap.size := by omega
            have hk0 : (wr.alloc (.cells #[.int .i64 nm, .int .i64 3, .bool false, .int .i64 p, .int .i64 s, .int .i64 (t + 1)] 129)).cell? ⟨g, 0, none⟩ = some (.slice (some ⟨gv, 0, none⟩) n lc) := by rw [HNN.out]; exact k0
            clear k0
            go_wp2
            go_region
            go_wp2
            go_meet
            have hne2 : w.heap.size ≠ gv := fun e => own_far HLA.out HWK.out.list (by decide) (by rw [e]; rfl)
            exact ⟨_, _, _, HWG, HXS.out.drew, HRS.out.drew, ((HON.out.row HLA.out hne2).alloc _).drew, ((HON.out.below hbel hgvB).trans ((below_one _).mono (by rw [HSZ.out]; omega))).drew⟩
      case rest =>
        rename World => wc
        obtain ⟨p', s', t', HWG, HWC, HRS, HRL, HBC⟩ := hcut
        clear c0 c1 c2 c3 c4 c5 g0'
        have l0 : wc.cell? ⟨w.heap.size, 0, none⟩ = some (.int .i64 p) := HRL.out.cell (i := 0) (by omega)
        have l1 : wc.cell? ⟨w.heap.size, 1, none⟩ = some (.int .i64 s) := HRL.out.cell (i := 1) (by omega)
        have l2 : wc.cell? ⟨w.heap.size, 2, none⟩ = some (.int .i64 t) := HRL.out.cell (i := 2) (by omega)
        have m3 : wc.cell? ⟨wr.heap.size, 3, none⟩ = some (.int .i64 p') := HRS.out.cell (i := 3) (by omega)
        have m4 : wc.cell? ⟨wr.heap.size, 3 + 1, none⟩ = some (.int .i64 s') := HRS.out.cell (i := 4) (by omega)
        have m5 : wc.cell? ⟨wr.heap.size, 3 + 2, none⟩ = some (.int .i64 t') := HRS.out.cell (i := 5) (by omega)
        obtain ⟨ab, hab⟩ : ∃ x, x = aboveB p' s' t' p s t := ⟨_, rfl⟩
        obtain ⟨sg, hsg⟩ : ∃ x, x = stI p s t p' s' t' := ⟨_, rfl⟩
        obtain ⟨nb, hnb⟩ : ∃ x, x = nodeB p' s' t' := ⟨_, rfl⟩
        have HCA : Hid (∀ wz, Calls Tryz.prog 38 #[.agg #[.int .i64 p, .int .i64 s, .int .i64 t], .agg #[.int .i64 p', .int .i64 s', .int .i64 t']] wz fun e w' => e = .returned (.bool ab) ∧ Below wz.heap.size wz w') := fun wz => by rw [hab]; exact refAbove_any p s t p' s' t' wz
        have HCS : Hid (∀ wz, Calls Tryz.prog 89 #[.agg #[.int .i64 p, .int .i64 s, .int .i64 t], .agg #[.int .i64 p', .int .i64 s', .int .i64 t']] wz fun e w' => e = .returned (.int .i64 sg) ∧ Below wz.heap.size wz w') := fun wz => by rw [hsg]; exact strength_any p s t p' s' t' wz
        have HCN : Hid (∀ wz, Calls Tryz.prog 37 #[.agg #[.int .i64 p', .int .i64 s', .int .i64 t']] wz fun e w' => e = .returned (.bool nb) ∧ Below wz.heap.size wz w') := fun wz => by rw [hnb]; exact refIsNode_any p' s' t' wz
        have HOKW : Hid (okW p s t ⟨nm, st, ol, p', s', t'⟩ = (ab && decide (sg = st) && nb)) := by show _ = _; unfold okW; rw [hab, hsg, hnb]
        have HNB : Hid (nb = true → (0 ≤ p' ∧ p' ≤ 250) ∧ (0 ≤ s' ∧ s' ≤ 250) ∧ (0 ≤ t' ∧ t' ≤ 250)) := fun hh => by
          rw [hnb] at hh
          unfold nodeB at hh
          have := of_decide_eq_true hh
          omega
        have HWS : Hid (weigh (⟨nm, st, ol, xp, xs, xt⟩ :: r) p s t = if okW p s t ⟨nm, st, ol, p', s', t'⟩ = true then (weigh r p' s' t').map ((⟨nm, st, ol, p', s', t'⟩ : Sp) :: ·) else none) := by
          show _ = _
          rw [weigh, HWG.out]
        clear hab hsg hnb hi
        go_wp2_with fail
        refine (HCA.out _).mono ?_
        rintro e w1 ⟨rfl, hb1⟩
        have HB1 : Hid (Below wc.heap.size wc w1) := hb1
        have hz1 := hb1.size
        have hzl := HRL.out.lt
        have hzs := HRS.out.lt
        have l0' := cellTo hb1 l0 hzl
        have l1' := cellTo hb1 l1 hzl
        have l2' := cellTo hb1 l2 hzl
        have m3' := cellTo hb1 m3 hzs
        have m4' := cellTo hb1 m4 hzs
        have m5' := cellTo hb1 m5 hzs
        clear hb1
        go_wp2_with fail
        refine (HCS.out _).mono ?_
        rintro e w2 ⟨rfl, hb2⟩
        have HB2 : Hid (Below wc.heap.size wc w2) := below_then HB1.out hb2
        have m3b := cellTo HB2.out m3 hzs
        have m4b := cellTo HB2.out m4 hzs
        have m5b := cellTo HB2.out m5 hzs
        have hz2 := hb2.size
        clear hb2 l0' l1' l2' m3' m4' m5'
        go_wp2_with fail
        refine (HCN.out _).mono ?_
        rintro e w3 ⟨rfl, hb3⟩
        have HB3 : Hid (Below wc.heap.size wc w3) := below_then HB2.out hb3
        have m1 : w3.cell? ⟨wr.heap.size, 1, none⟩ = some (.int .i64 st) := (HRS.out.of_block (HB3.out.block _ hzs)).cell (i := 1) (by omega)
        have m3c := cellTo HB3.out m3 hzs
        have m4c := cellTo HB3.out m4 hzs
        have m5c := cellTo HB3.out m5 hzs
        have hz3 := hb3.size
        have HBW : Hid (Below B w w3) := HBC.out.trans (HB3.out.mono (by have := HBC.out.size; omega))
        have HW3 : Hid (WkA B g { K with ls := d ++ (⟨nm, st, ol, p', s', t'⟩ : Sp) :: r } (some ⟨gv, 0, none⟩) ea sa lc ec sc vs cs w3) := HWC.out.below HB3.out
        have HL3 : Hid (w3.rowIs w.heap.size 65 3 (ndF p s t)) := HRL.out.of_block (HB3.out.block _ hzl)
        clear hb3 m3b m4b m5b l0 l1 l2 m3 m4 m5
        by_cases hok : (ab && decide (sg = st) && nb) = true
        · rw [Bool.and_eq_true, Bool.and_eq_true] at hok
          obtain ⟨⟨ha1, hs2⟩, hn1⟩ := hok
          have hs3 := of_decide_eq_true hs2
          subst ha1
          subst hn1
          subst hs3
          have HWN : Hid (weigh K.ls 0 0 0 = (weigh r p' s' t').map ((d ++ [(⟨nm, sg, ol, p', s', t'⟩ : Sp)]) ++ ·)) := by
            show _ = _
            rw [HWE.out, HWS.out, if_pos (by rw [HOKW.out]; simp)]
            cases weigh r p' s' t' <;> simp
          have hbd' := HNB.out rfl
          have HRN : Hid ((((w3.setCell ⟨w.heap.size, 0, none⟩ (.int .i64 p')).setCell ⟨w.heap.size, 1, none⟩ (.int .i64 s')).setCell ⟨w.heap.size, 2, none⟩ (.int .i64 t')).rowIs w.heap.size 65 3 (ndF p' s' t')) := (((HL3.out.set 0 _).set 1 _).set 2 _).congr fun j hj => by
            have : j = 0 ∨ j = 1 ∨ j = 2 := by omega
            rcases this with rfl | rfl | rfl <;> rfl
          have HOn : Hid (OnlyRow w.heap.size w3 (((w3.setCell ⟨w.heap.size, 0, none⟩ (.int .i64 p')).setCell ⟨w.heap.size, 1, none⟩ (.int .i64 s')).setCell ⟨w.heap.size, 2, none⟩ (.int .i64 t'))) := ((OnlyRow.setCell _ _ _ _).trans (OnlyRow.setCell _ _ _ _)).trans (OnlyRow.setCell _ _ _ _)
          have HWF : Hid (WkA B g { K with ls := (d ++ [(⟨nm, sg, ol, p', s', t'⟩ : Sp)]) ++ r } (some ⟨gv, 0, none⟩) ea sa lc ec sc vs cs (((w3.setCell ⟨w.heap.size, 0, none⟩ (.int .i64 p')).setCell ⟨w.heap.size, 1, none⟩ (.int .i64 s')).setCell ⟨w.heap.size, 2, none⟩ (.int .i64 t'))) := by
            have := HW3.out.node HL3.out HOn.out
            show WkA _ _ _ _ _ _ _ _ _ _ _ _
            rw [List.append_assoc]
            exact this
          have HBF : Hid (Below B w (((w3.setCell ⟨w.heap.size, 0, none⟩ (.int .i64 p')).setCell ⟨w.heap.size, 1, none⟩ (.int .i64 s')).setCell ⟨w.heap.size, 2, none⟩ (.int .i64 t'))) := HOn.out.below HBW.out hBw
          have q0 := HL3.out.cell (i := 0) (by omega)
          have q1 := HL3.out.cell (i := 1) (by omega)
          have q2 := HL3.out.cell (i := 2) (by omega)
          have z0 := HL3.out.frozen 0
          have z1 := HL3.out.frozen 1
          have z2 := HL3.out.frozen 2
          have HLN : Hid (((d ++ [(⟨nm, sg, ol, p', s', t'⟩ : Sp)]) ++ r).length = n) := by
            have := HDR.out
            show _ = _
            simp at this ⊢
            omega
          have HDL : Hid ((d ++ [(⟨nm, sg, ol, p', s', t'⟩ : Sp)]).length = d.length + 1) := by show _ = _; simp
          have HST' : Hid (∀ x ∈ r, x.str = 1 ∨ x.str = 2 ∨ x.str = 3) := fun x hx => HST.out x (by simp [hx])
          simp only [ndF] at q0 q1 q2
          clear hs2
          go_wp2
          go_roundw
          case rel => exact ⟨d ++ [(⟨nm, sg, ol, p', s', t'⟩ : Sp)], r, p', s', t', HWN, HWF, HRN, hbd', by rw [HDL.out]; omega, HLN, HST', by rw [HDL.out]; rfl, HBF.out⟩
          case measure => simp [intOf]; omega
        · have HWN : Hid (weigh K.ls 0 0 0 = none) := by
            show _ = _
            rw [HWE.out, HWS.out, if_neg (by rw [HOKW.out]; exact hok)]
            rfl
          cases ab with
          | false =>
            clear hok
            go_wp2
            go_ret
            exact ⟨_, rfl, .inl ⟨HWN.out, rfl⟩, HBW.out⟩
          | true =>
            by_cases hsq : sg = st
            · subst hsq
              have hnf : nb = false := by simpa using hok
              subst hnf
              clear hok
              go_wp2
              go_ret
              exact ⟨_, rfl, .inl ⟨HWN.out, rfl⟩, HBW.out⟩
            · have hsq' : (sg == st) = false := beq_eq_false_iff_ne.2 hsq
              have hsq2 : (sg != st) = true := by simp [bne, hsq']
              have hsq3 : ¬ (sg = st) := hsq
              clear hok hsq hxs
              go_wp2
              go_ret
              exact ⟨_, rfl, .inl ⟨HWN.out, rfl⟩, HBW.out⟩

end Go.Proofs.YtpclldccjpncdabGreat

namespace Go.Proofs.YtpclldccjpncdabGreat
open Go.RowKit

theorem less_trans : ∀ a b c : List UInt8, Op.bytesLess a b = true → Op.bytesLess b c = true → Op.bytesLess a c = true
  | a, b, [], _, h => by cases b <;> simp [Op.bytesLess] at h
  | a, [], c :: cs, h, _ => by cases a <;> simp [Op.bytesLess] at h
  | [], b :: bs, c :: cs, _, _ => by simp [Op.bytesLess]
  | a :: l, b :: bs, c :: cs, h, h' => by
    have ih := less_trans l bs cs
    simp only [Op.bytesLess, Bool.or_eq_true, Bool.and_eq_true, decide_eq_true_eq, beq_iff_eq, UInt8.lt_iff_toNat_lt, ← UInt8.toNat_inj] at h h' ⊢
    rcases h with h | ⟨h1, h2⟩ <;> rcases h' with h' | ⟨h3, h4⟩
    · exact .inl (by omega)
    · exact .inl (by omega)
    · exact .inl (by omega)
    · exact .inr ⟨by omega, ih h2 h4⟩
theorem lessB_trans {a b c : ByteArray} (h : lessB a b = true) (h' : lessB b c = true) : lessB a c = true := less_trans _ _ _ h h'

end Go.Proofs.YtpclldccjpncdabGreat
