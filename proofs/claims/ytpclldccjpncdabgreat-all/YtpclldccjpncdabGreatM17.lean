import Derived.Test.YtpclldccjpncdabGreatM16
namespace Go.Proofs.YtpclldccjpncdabGreat
open Go.RowKit

/-- lists of numbers that are one's own, each in a block of its own -/
structure EntsO (B : Nat) (k : Nat → Nat) (z : Nat → Nat → Int) (i : Nat) (vs : Nat → Option Addr) (cs : Nat → Nat) (w : World) : Prop where
  own : ∀ j, j < i → w.ownsRow B 3 1 (.slice (vs j) (k j) (cs j)) (k j) ((List.range (k j)).map fun q => Value.int .i64 (z j q))
  apart : ∀ a b x, a < b → b < i → (vs a).map (·.block) = some x → (vs b).map (·.block) ≠ some x
def entC (tx : Nat → ByteArray) (k : Nat → Nat) (vs : Nat → Option Addr) (cs : Nat → Nat) (i : Nat) : List Value := (List.range i).flatMap fun j => [.string (tx j), .slice (vs j) (k j) (cs j)]
theorem entC_snoc (tx : Nat → ByteArray) (k : Nat → Nat) (vs : Nat → Option Addr) (cs : Nat → Nat) (i : Nat) : entC tx k vs cs (i + 1) = entC tx k vs cs i ++ [.string (tx i), .slice (vs i) (k i) (cs i)] := by simp [entC, List.range_succ]
theorem entC_congr (tx : Nat → ByteArray) (k : Nat → Nat) (vs vs' : Nat → Option Addr) (cs cs' : Nat → Nat) (i : Nat) (h : ∀ j, j < i → vs j = vs' j ∧ cs j = cs' j) : entC tx k vs cs i = entC tx k vs' cs' i := by
  induction i with
  | zero => rfl
  | succ i ih => rw [entC_snoc, entC_snoc, ih fun j hj => h j (by omega), (h i (by omega)).1, (h i (by omega)).2]
def upd {α : Type} (f : Nat → α) (i : Nat) (x : α) : Nat → α := fun j => if j = i then x else f j
theorem upd_at {α : Type} (f : Nat → α) (i : Nat) (x : α) : upd f i x i = x := by simp [upd]
theorem upd_ne {α : Type} (f : Nat → α) (i : Nat) (x : α) {j : Nat} (h : j ≠ i) : upd f i x j = f j := by simp [upd, h]
theorem slice_own (vo : Option Addr) (n c : Nat) : (Value.slice vo n c).ownBlock = vo.map (·.block) := by cases vo <;> rfl

theorem EntsO.nil (B : Nat) (k : Nat → Nat) (z : Nat → Nat → Int) (vs : Nat → Option Addr) (cs : Nat → Nat) (w : World) : EntsO B k z 0 vs cs w := ⟨fun j h => by omega, fun a b x _ h => by omega⟩
theorem EntsO.below {B : Nat} {k : Nat → Nat} {z : Nat → Nat → Int} {i : Nat} {vs : Nat → Option Addr} {cs : Nat → Nat} {w w' : World} (h : EntsO B k z i vs cs w) (hb : Below w.heap.size w w') : EntsO B k z i vs cs w' :=
  ⟨fun j hj => ownC_below (h.own j hj) hb, h.apart⟩
theorem EntsO.base {B B' : Nat} {k : Nat → Nat} {z : Nat → Nat → Int} {i : Nat} {vs : Nat → Option Addr} {cs : Nat → Nat} {w : World} (h : EntsO B k z i vs cs w) (hB : B' ≤ B) : EntsO B' k z i vs cs w :=
  ⟨fun j hj => ownC_base (h.own j hj) hB, h.apart⟩
/-- behind an append to a row of another type -/
theorem EntsO.grown {B : Nat} {k : Nat → Nat} {z : Nat → Nat → Int} {i : Nat} {vs : Nat → Option Addr} {cs : Nat → Nat} {w w' : World} (h : EntsO B k z i vs cs w) {base : Nat} {e : TypeId} {size : Nat} {v : Value} {n : Nat} {xs : List Value} (ho : w.ownsRow base e size v n xs) (ht : 3 ≠ e) (hg : w.grownBy w' v.ownBlock) : EntsO B k z i vs cs w' :=
  ⟨fun j hj => ownC_grown (h.own j hj) ho ht hg, h.apart⟩
/-- one more list, which is younger than the others -/
theorem EntsO.add {B : Nat} {k : Nat → Nat} {z : Nat → Nat → Int} {i : Nat} {vs : Nat → Option Addr} {cs : Nat → Nat} {w w' : World} (h : EntsO B k z i vs cs w) (hb : Below w.heap.size w w') {vo : Option Addr} {vc : Nat} (hB : B ≤ w.heap.size)
    (ho : w'.ownsRow w.heap.size 3 1 (.slice vo (k i) vc) (k i) ((List.range (k i)).map fun q => Value.int .i64 (z i q))) : EntsO B k z (i + 1) (upd vs i vo) (upd cs i vc) w' := by
  refine ⟨fun j hj => ?_, fun a b x hab hbi => ?_⟩
  · by_cases e : j = i
    · subst e
      rw [upd_at, upd_at]
      exact ownC_base ho hB
    · rw [upd_ne _ _ _ e, upd_ne _ _ _ e]
      exact ownC_below (h.own j (by omega)) hb
  · by_cases e : b = i
    · subst e
      rw [upd_at, upd_ne _ _ _ (by omega)]
      intro h1 h2
      have l1 := (ownC_lt (h.own a (by omega)) (b := x) (by rw [slice_own]; exact h1)).1
      have l2 := (ownC_lt ho (b := x) (by rw [slice_own]; exact h2)).2
      omega
    · rw [upd_ne _ _ _ e, upd_ne _ _ _ (by omega)]
      exact h.apart a b x hab (by omega)

/-- the numbers of an entry that is read -/
theorem nums_entry (s : ByteArray) (p h : Nat) (hp : p + h ≤ s.size) : (nums' (sub s p h) (sub s p h).size).map (Value.int .i64) = (List.range h).map fun q => Value.int .i64 ((bt s (p + q) : Nat) : Int) := by
  have hsz : (sub s p h).size = h := by simp [sub, ByteArray.size_extract]; omega
  rw [hsz, nums', List.map_map]
  refine List.map_congr_left fun q hq => ?_
  have hq := List.mem_range.1 hq
  have : bt (sub s p h) q = bt s (p + q) := by
    rw [bt_in (by rw [hsz]; exact hq), bt_in (by omega)]
    simp [sub, ByteArray.getElem_extract]
  simp [this]
theorem sub_size (s : ByteArray) (p h : Nat) (hp : p + h ≤ s.size) : (sub s p h).size = h := by simp [sub, ByteArray.size_extract]; omega

theorem counted_yes (s : ByteArray) (p z : Nat) (w : World) (hs : s.size ≤ 140737488351232) (hz : z = 1 ∨ z = 3) (h1 : p < s.size) (h2 : p + 1 + bt s p * z ≤ s.size) :
    Calls Tryz.prog 101 #[.string s, .int .i64 p, .int .i64 z] w fun e w' => e = .returned (.tuple #[.string (sub s (p + 1) (bt s p * z)), .int .i64 ((p + 1 + bt s p * z : Nat) : Int), .bool true]) ∧ w' = w :=
  (counted_any s p z w hs hz (by omega)).mono fun e w' ⟨hw, h⟩ => by
    rcases h with ⟨_, _, he⟩ | ⟨h, _⟩
    · exact ⟨he, hw⟩
    · omega
theorem counted_no (s : ByteArray) (p z : Nat) (w : World) (hs : s.size ≤ 140737488351232) (hz : z = 1 ∨ z = 3) (hp : p ≤ 140737488351232) (h : s.size ≤ p ∨ s.size < p + 1 + bt s p * z) :
    Calls Tryz.prog 101 #[.string s, .int .i64 p, .int .i64 z] w fun e w' => e = .returned (.tuple #[.string ByteArray.empty, .int .i64 0, .bool false]) ∧ w' = w :=
  (counted_any s p z w hs hz hp).mono fun e w' ⟨hw, h'⟩ => by
    rcases h' with ⟨_, _, he⟩ | ⟨_, he⟩
    · omega
    · exact ⟨he, hw⟩

set_option maxRecDepth 100000 in
set_option maxHeartbeats 1000000 in
theorem readEntry_any (s : ByteArray) (p : Nat) (w : World) (hs : s.size ≤ 140737488351232) (hp : p ≤ 140737488351232) :
    Calls Tryz.prog 121 #[.string s, .int .i64 p] w fun e w' => Below w.heap.size w w' ∧
      ((nxt s p ≤ s.size ∧ ∃ vo vc, e = .returned (.tuple #[.agg #[.string (sub s (p + 1) (bt s p)), .slice vo (bt s (p + 1 + bt s p)) vc], .int .i64 ((nxt s p : Nat) : Int), .bool true]) ∧
          w'.ownsRow w.heap.size 3 1 (.slice vo (bt s (p + 1 + bt s p)) vc) (bt s (p + 1 + bt s p)) ((List.range (bt s (p + 1 + bt s p))).map fun q => Value.int .i64 ((bt s (p + 1 + bt s p + 1 + q) : Nat) : Int))) ∨
       (s.size < nxt s p ∧ e = .returned (.tuple #[.agg #[.string ByteArray.empty, .slice none 0 0], .int .i64 0, .bool false]))) := by
  have hb1 := bt_le s p
  have hb2 := bt_le s (p + 1 + bt s p)
  obtain ⟨k, hk⟩ : ∃ k, k = bt s p := ⟨_, rfl⟩
  obtain ⟨b, hb⟩ : ∃ b, b = p + 1 + k := ⟨_, rfl⟩
  obtain ⟨h, hh⟩ : ∃ h, h = bt s b := ⟨_, rfl⟩
  obtain ⟨nx, hnx⟩ : ∃ nx, nx = nxt s p := ⟨_, rfl⟩
  have hnx' : nx = b + 1 + h := by rw [hnx, nxt, ← hk, ← hb, ← hh]
  rw [← hk, ← hb, ← hh] at hb2
  rw [← hk] at hb1
  rw [← hnx, ← hk, ← hb, ← hh]
  clear hnx
  have HB : Hid (b = p + 1 + k) := hb
  have HNX : Hid (nx = b + 1 + h) := hnx'
  have HR : Hid ((w.alloc (.cells #[.string ByteArray.empty, .slice none 0 0] 63)).rowIs w.heap.size 63 2 (fun i => #[Value.string ByteArray.empty, .slice none 0 0].getD i undef)) := row_new _ _ _ 2 rfl
  by_cases h1 : s.size ≤ p ∨ s.size < b
  · have HC : ∀ w, Calls Tryz.prog 101 #[.string s, .int .i64 p, .int .i64 1] w fun e w' => e = .returned (.tuple #[.string ByteArray.empty, .int .i64 0, .bool false]) ∧ w' = w := fun w => counted_no s p 1 w hs (.inl rfl) hp (by rw [← hk]; omega)
    have HC' : Hid _ := HC
    have HLT : Hid (s.size < nx) := by show _ < _; omega
    clear HC hb hnx' hk hh h1
    go_enter Tryz.func121, Tryz.ntmps121
    go_wp2_with fail
    refine (HC'.out _).mono ?_
    rintro e w1 ⟨rfl, rfl⟩
    go_wp2
    refine bodyPost_ret (resC3 rfl _ w.heap.size _ _ (by rfl) HR.out Tryz.underlying63 rfl sizeEntC) rfl ?_
    exact ⟨below_one _, .inr ⟨HLT.out, rfl⟩⟩
  · have HC : ∀ w, Calls Tryz.prog 101 #[.string s, .int .i64 p, .int .i64 1] w fun e w' => e = .returned (.tuple #[.string (sub s (p + 1) k), .int .i64 (b : Nat), .bool true]) ∧ w' = w := fun w => by
      have := counted_yes s p 1 w hs (.inl rfl) (by omega) (by rw [← hk]; omega)
      rw [← hk, Nat.mul_one, ← hb] at this
      exact this
    have HC' : Hid _ := HC
    obtain ⟨tx, htx⟩ : ∃ tx, tx = sub s (p + 1) k := ⟨_, rfl⟩
    rw [← htx] at HC HC' ⊢
    clear HC htx
    by_cases h2 : s.size ≤ b ∨ s.size < b + 1 + h
    · have HD : ∀ w, Calls Tryz.prog 101 #[.string s, .int .i64 b, .int .i64 1] w fun e w' => e = .returned (.tuple #[.string ByteArray.empty, .int .i64 0, .bool false]) ∧ w' = w := fun w => counted_no s b 1 w hs (.inl rfl) (by omega) (by rw [← hh]; omega)
      have HD' : Hid _ := HD
      have HLT : Hid (s.size < nx) := by show _ < _; omega
      clear HD hb hnx' hk hh h1 h2
      go_enter Tryz.func121, Tryz.ntmps121
      go_wp2_with fail
      refine (HC'.out _).mono ?_
      rintro e w1 ⟨rfl, rfl⟩
      go_wp2_with fail
      refine (HD'.out _).mono ?_
      rintro e w1 ⟨rfl, rfl⟩
      go_wp2
      refine bodyPost_ret (resC3 rfl _ w.heap.size _ _ (by rfl) HR.out Tryz.underlying63 rfl sizeEntC) rfl ?_
      exact ⟨below_one _, .inr ⟨HLT.out, rfl⟩⟩
    · have HD : ∀ w, Calls Tryz.prog 101 #[.string s, .int .i64 b, .int .i64 1] w fun e w' => e = .returned (.tuple #[.string (sub s (b + 1) h), .int .i64 (nx : Nat), .bool true]) ∧ w' = w := fun w => by
        have := counted_yes s b 1 w hs (.inl rfl) (by omega) (by rw [← hh]; omega)
        rw [← hh, Nat.mul_one, ← hnx'] at this
        exact this
      have HD' : Hid _ := HD
      have hsz : (sub s (b + 1) h).size = h := sub_size _ _ _ (by omega)
      have HN : Hid ((nums' (sub s (b + 1) h) (sub s (b + 1) h).size).map (Value.int .i64) = (List.range h).map fun q => Value.int .i64 ((bt s (b + 1 + q) : Nat) : Int)) := nums_entry s _ h (by omega)
      obtain ⟨u, hu⟩ : ∃ u, u = sub s (b + 1) h := ⟨_, rfl⟩
      have HU : Hid (u.size = h) := by show _ = _; rw [hu]; exact hsz
      rw [← hu] at HD HD' HN
      have HLE : Hid (nx ≤ s.size) := by show _ ≤ _; omega
      clear HD hb hnx' hk hh h1 h2 hsz hu
      have hul : u.size ≤ 255 := by rw [HU.out]; omega
      go_enter Tryz.func121, Tryz.ntmps121
      go_wp2_with fail
      refine (HC'.out _).mono ?_
      rintro e w1 ⟨rfl, rfl⟩
      go_wp2_with fail
      refine (HD'.out _).mono ?_
      rintro e w1 ⟨rfl, rfl⟩
      go_wp2_with fail
      refine (numbersFrom_any u _ hul).mono ?_
      rintro e w1 ⟨v, rfl, hown, hb⟩
      rw [HN.out, HU.out] at hown
      obtain ⟨vo, vc, hv⟩ := ownC_shape hown
      subst hv
      have hr1 : w1.rowIs w.heap.size 63 2 (fun i => #[Value.string ByteArray.empty, .slice none 0 0].getD i undef) := HR.out.of_block (hb.block _ (by simp))
      have HR1 : Hid (w1.rowIs w.heap.size 63 2 (fun i => #[Value.string ByteArray.empty, .slice none 0 0].getD i undef)) := hr1
      have c0 := hr1.cell (i := 0) (by omega)
      have c1 := hr1.cell (i := 1) (by omega)
      have f0 := hr1.frozen 0
      have f1 := hr1.frozen 1
      simp only [size_one] at hown
      have HOW : Hid (w1.ownsRow (w.heap.size + 1) 3 1 (.slice vo h vc) h ((List.range h).map fun q => Value.int .i64 ((bt s (b + 1 + q) : Nat) : Int))) := hown
      have HBW : Hid (Below w.heap.size w w1) := below_then (below_one _) hb
      clear hown hb hr1
      go_wp2
      refine bodyPost_ret (resC3 rfl _ w.heap.size _ _ (by rfl) ((HR1.out.set 0 (.string tx)).set 1 (.slice vo h vc)) Tryz.underlying63 rfl sizeEntC) rfl ?_
      have hO : OnlyRow w.heap.size w1 ((w1.setCell ⟨w.heap.size, 0, none⟩ (.string tx)).setCell ⟨w.heap.size, 1, none⟩ (.slice vo h vc)) := (OnlyRow.setCell _ _ _ _).trans (OnlyRow.setCell _ _ _ _)
      refine ⟨hO.below HBW.out (Nat.le_refl _), .inl ⟨HLE.out, vo, vc, rfl, ?_⟩⟩
      refine ownC_base (own_only hO HOW.out ?_) (by omega)
      intro hx
      have := (ownC_lt HOW.out hx).2
      omega

def entZ (k : Nat → Nat) (z : Nat → Nat → Int) (j : Nat) : List Value := (List.range (k j)).map fun q => Value.int .i64 (z j q)

theorem tak_in {s : ByteArray} {p k : Nat} (h : p + k ≤ s.size) : tak s p k = sub s p k := by simp [tak, h]
/-- the i-th entry -/
theorem readEntry_i (s : ByteArray) (i p : Nat) (w : World) (hs : s.size ≤ 140737488351232) (hp : p ≤ 140737488351232) (hpe : p = epos s i) :
    Calls Tryz.prog 121 #[.string s, .int .i64 p] w fun e w' => Below w.heap.size w w' ∧
      ((epos s (i + 1) ≤ s.size ∧ ∃ vo vc, e = .returned (.tuple #[.agg #[.string (dtx s i), .slice vo (dk s i) vc], .int .i64 ((epos s (i + 1) : Nat) : Int), .bool true]) ∧
          w'.ownsRow w.heap.size 3 1 (.slice vo (dk s i) vc) (dk s i) ((List.range (dk s i)).map fun q => Value.int .i64 (dz s i q))) ∨
       (s.size < epos s (i + 1) ∧ e = .returned (.tuple #[.agg #[.string ByteArray.empty, .slice none 0 0], .int .i64 0, .bool false]))) := by
  refine (readEntry_any s p w hs hp).mono ?_
  subst hpe
  rintro e w' ⟨hb, h⟩
  refine ⟨hb, ?_⟩
  rcases h with ⟨h1, vo, vc, he, ho⟩ | ⟨h1, he⟩
  · refine .inl ⟨h1, vo, vc, ?_, ho⟩
    have : dtx s i = sub s (epos s i + 1) (bt s (epos s i)) := tak_in (by unfold nxt at h1; omega)
    rw [this]
    exact he
  · exact .inr ⟨h1, he⟩

set_option maxRecDepth 100000 in
set_option maxHeartbeats 1000000 in
theorem readEntries_any (s : ByteArray) (w : World) (hs : s.size ≤ 140737488351232) (hq : q0 s ≤ 140737488351232) :
    Calls Tryz.prog 102 #[.string s, .int .i64 (q0 s : Nat)] w fun e w' => Below w.heap.size w w' ∧
      ((epos s (dm s) ≤ s.size ∧ ∃ v vs cs, e = .returned (.tuple #[v, .int .i64 (epos s (dm s) : Nat), .bool true]) ∧ w'.ownsRow w.heap.size 63 2 v (dm s) (entC (dtx s) (dk s) vs cs (dm s)) ∧ EntsO w.heap.size (dk s) (dz s) (dm s) vs cs w') ∨
       (¬ good s ∧ e = .returned (.tuple #[.slice none 0 0, .int .i64 0, .bool false]))) := by
  obtain ⟨i0, hi0, hq0, hq1, hq2⟩ := info_parts infoEntC
  obtain ⟨q, hqq⟩ : ∃ q, q = q0 s := ⟨_, rfl⟩
  rw [← hqq] at hq ⊢
  by_cases hlt : q < s.size
  · have hxb := bt_le s q
    have hbi := bt_in hlt
    obtain ⟨m, hm⟩ : ∃ m, m = dm s := ⟨_, rfl⟩
    have hmb : m = bt s q := by rw [hm, dm, hqq]
    rw [← hmb] at hxb
    have hxs : ((s[q]'hlt).toNat : Int) = m := by rw [hmb, hbi]
    have HM : Hid (m = dm s) := hm
    have HQ : Hid (epos s 0 = q + 1) := by show _ = _; rw [hqq]; rfl
    rw [← hm]
    clear hbi hmb hm hqq
    have d1 : decide ((q : Int) < 0) = false := by simp
    have d2 : decide (s.size ≤ q) = false := by simp; omega
    go_enter Tryz.func102, Tryz.ntmps102
    go_wp2
    go_loopw [9, 8, 10] (fun v nv iv wr => ∃ (i p : Nat) (vs : Nat → Option Addr) (cs : Nat → Nat), Hid (p = epos s i) ∧ i ≤ m ∧ p ≤ s.size ∧ iv = .int .i64 (i : Nat) ∧ nv = .int .i64 (p : Nat) ∧ Below w.heap.size w wr ∧ wr.ownsRow w.heap.size 63 2 v i (entC (dtx s) (dk s) vs cs i) ∧ EntsO w.heap.size (dk s) (dz s) i vs cs wr) (fun _ _ iv _ => m - (intOf iv).toNat)
    case atStart => exact ⟨0, q + 1, fun _ => none, fun _ => 0, HQ.out.symm, Nat.zero_le _, by omega, rfl, rfl, Below.refl _ _, World.ownsRow_nil _ _ _ _, EntsO.nil _ _ _ _ _ _⟩
    case round =>
      obtain ⟨i, p, vs, cs, HP, hi, hp, rfl, rfl, hbel, hown, hent⟩ := hrel
      have HOWN : Hid (wr.ownsRow w.heap.size 63 2 _ i (entC (dtx s) (dk s) vs cs i)) := hown
      have HENT : Hid (EntsO w.heap.size (dk s) (dz s) i vs cs wr) := hent
      clear hown hent
      have hsz := hbel.size
      by_cases him : i < m
      · obtain ⟨tx, htx⟩ : ∃ tx, tx = dtx s i := ⟨_, rfl⟩
        obtain ⟨k, hk⟩ : ∃ k, k = dk s i := ⟨_, rfl⟩
        obtain ⟨nx, hnx⟩ : ∃ nx, nx = epos s (i + 1) := ⟨_, rfl⟩
        have hc := readEntry_i s i p wr hs (by omega) HP.out
        rw [← htx, ← hk, ← hnx] at hc
        have HC : Hid _ := hc
        have HTX : Hid (tx = dtx s i) := htx
        have HK : Hid (k = dk s i) := hk
        have HNX : Hid (nx = epos s (i + 1)) := hnx
        clear hc htx hk hnx
        go_wp2_with fail
        refine Calls.mono HC.out ?_
        rintro e w1 ⟨hb1, ⟨hnx, vo, vc, rfl, ho1⟩ | ⟨hnx, rfl⟩⟩
        · have HO1 : Hid (w1.ownsRow wr.heap.size 3 1 (.slice vo k vc) k ((List.range k).map fun q => Value.int .i64 (dz s i q))) := ho1
          have hz1 := hb1.size
          have HOA : Hid (w1.ownsRow w.heap.size 63 2 _ i (entC (dtx s) (dk s) vs cs i)) := ownC_below HOWN.out hb1
          clear ho1 HC
          go_wp2_with (first
            | (at_builtin; refine wpList_append_lies _ (by rfl) (.tmp 42) (.tmp 44) 26 (by rfl) w.heap.size 63 i0 (.agg #[.string ByteArray.empty, .slice none 0 0]) 2 40 Tryz.underlying26 hi0 hq0 hq1 hq2 rfl (by omega) _ i _ (by rfl) ((HOA.out.alloc _).alloc _) ⟨w1.heap.size + 1, 0, none⟩ 1 1 [.string tx, .slice vo k vc] (by rfl) (by rfl) ?c1 ?c2 (by omega) ?c3 ?c5 ?c4 (w1.heap.size + 2) (by simp) ?_))
          case c1 => exact newC2 _ (by simp) _ _ _
          case c2 => intro u hu; simp at hu; rcases hu with rfl | rfl <;> rfl
          case c3 => unfold maxLen; omega
          case c5 => omega
          case c4 => simp; omega
          · intro gv cap2 w2 hown2 hgrow _ _
            have hba : Below w1.heap.size w1 ((w1.alloc (.cells #[.string tx, .slice vo k vc] 63)).alloc (.cells #[.string tx, .slice vo k vc] 63)) := below_then (below_one _) (below_one _)
            have HBN : Hid (Below w.heap.size w w2) := ownC_grown_below (below_then (below_then hbel hb1) hba) (by simp; omega) ((HOA.out.alloc _).alloc _) (Nat.le_refl _) hgrow
            have ho1 := HO1.out
            rw [HK.out] at ho1
            have hent1 := HENT.out.add hb1 hsz ho1
            have HE2 : Hid (EntsO w.heap.size (dk s) (dz s) (i + 1) (upd vs i vo) (upd cs i vc) w2) := (hent1.below hba).grown ((HOA.out.alloc _).alloc _) (by decide) hgrow
            have HO2 : Hid (w2.ownsRow w.heap.size 63 2 (.slice (some ⟨gv, 0, none⟩) (i + 1) cap2) (i + 1) (entC (dtx s) (dk s) (upd vs i vo) (upd cs i vc) (i + 1))) := by
              show _
              rw [entC_snoc, upd_at, upd_at, entC_congr (dtx s) (dk s) (upd vs i vo) vs (upd cs i vc) cs i fun j hj => ⟨upd_ne _ _ _ (by omega), upd_ne _ _ _ (by omega)⟩, ← HK.out, ← HTX.out]
              exact hown2
            clear hown2 hgrow hent1 ho1 hba
            go_wp2
            go_roundw
            case rel => exact ⟨i + 1, nx, _, _, HNX.out, by omega, hnx, by go_num, rfl, HBN.out, HO2.out, HE2.out⟩
            case measure => simp [intOf]; omega
        · have HB : Hid (¬ good s) := bad_entry (i := i) (by rw [← HM.out]; exact him) (by rw [← HNX.out]; exact hnx)
          clear HC
          go_wp2
          go_ret3
          exact ⟨below_then (below_then hbel hb1) (below_one _), .inr ⟨HB.out, rfl⟩⟩
      · have hie : i = m := by omega
        subst hie
        have HPE : Hid (p = epos s i) := HP
        go_wp2
        go_ret3
        refine ⟨hbel, .inl ⟨by rw [← HPE.out]; exact hp, _, vs, cs, ?_, HOWN.out, HENT.out⟩⟩
        rw [← HPE.out]
        rfl
  · have HB : Hid (¬ good s) := bad_nodes (by omega)
    clear hqq
    go_enter Tryz.func102, Tryz.ntmps102
    go_wp2
    go_ret3
    exact ⟨Below.refl _ _, .inr ⟨HB.out, rfl⟩⟩

end Go.Proofs.YtpclldccjpncdabGreat

namespace Go.Proofs.YtpclldccjpncdabGreat
open Go.RowKit

def ndL (s : ByteArray) (k : Nat) : List Value := (List.range k).flatMap fun i => [.int .i64 (dp s i), .int .i64 (ds s i), .int .i64 (dt s i)]
theorem ndL_snoc (s : ByteArray) (k : Nat) : ndL s (k + 1) = ndL s k ++ [.int .i64 (dp s k), .int .i64 (ds s k), .int .i64 (dt s k)] := by simp [ndL, List.range_succ]
theorem bt_sub {s : ByteArray} {p h q : Nat} (hp : p + h ≤ s.size) (hq : q < h) : bt (sub s p h) q = bt s (p + q) := by
  rw [bt_in (by rw [sub_size _ _ _ hp]; exact hq), bt_in (by omega)]
  simp [sub, ByteArray.getElem_extract]
theorem nodes3_sub {s : ByteArray} (n : Nat) (h : 1 + n * 3 ≤ s.size) : ∀ k, k ≤ n → nodes3 (sub s 1 (n * 3)) k = ndL s k
  | 0, _ => rfl
  | k + 1, hk => by
    rw [nodes3_snoc, ndL_snoc, nodes3_sub n h k (by omega), bt_sub h (by omega), bt_sub h (by omega), bt_sub h (by omega)]
    rfl

/-- a table that was read, in lists of one's own -/
structure Told (s : ByteArray) (B : Nat) (vn ve : Value) (vs : Nat → Option Addr) (cs : Nat → Nat) (w : World) : Prop where
  nodes : w.ownsRow B 65 3 vn (dn s) (ndL s (dn s))
  row : w.ownsRow B 63 2 ve (dm s) (entC (dtx s) (dk s) vs cs (dm s))
  ents : EntsO B (dk s) (dz s) (dm s) vs cs w
theorem Told.only {s : ByteArray} {B g : Nat} {vn ve : Value} {vs : Nat → Option Addr} {cs : Nat → Nat} {w w' : World} (h : Told s B vn ve vs cs w) (hO : OnlyRow g w w') (hg : g < B) : Told s B vn ve vs cs w' := by
  refine ⟨own_only hO h.nodes fun e => ?_, own_only hO h.row fun e => ?_, fun j hj => own_only hO (h.ents.own j hj) fun e => ?_, h.ents.apart⟩
  · have := (ownC_lt h.nodes e).2; omega
  · have := (ownC_lt h.row e).2; omega
  · have := (ownC_lt (h.ents.own j hj) e).2; omega
theorem Told.base {s : ByteArray} {B B' : Nat} {vn ve : Value} {vs : Nat → Option Addr} {cs : Nat → Nat} {w : World} (h : Told s B vn ve vs cs w) (hB : B' ≤ B) : Told s B' vn ve vs cs w := ⟨ownC_base h.nodes hB, ownC_base h.row hB, h.ents.base hB⟩
theorem Told.below {s : ByteArray} {B : Nat} {vn ve : Value} {vs : Nat → Option Addr} {cs : Nat → Nat} {w w' : World} (h : Told s B vn ve vs cs w) (hb : Below w.heap.size w w') : Told s B vn ve vs cs w' := ⟨ownC_below h.nodes hb, ownC_below h.row hb, h.ents.below hb⟩

set_option maxRecDepth 100000 in
set_option maxHeartbeats 1000000 in
theorem readTable_any (s : ByteArray) (w : World) (hs : s.size ≤ 140737488351232) :
    Calls Tryz.prog 77 #[.string s] w fun e w' => Below w.heap.size w w' ∧
      ((good s ∧ ∃ vn ve vs cs, e = .returned (.tuple #[.agg #[vn, ve], .bool true]) ∧ Told s w.heap.size vn ve vs cs w') ∨
       (¬ good s ∧ e = .returned (.tuple #[.agg #[.slice none 0 0, .slice none 0 0], .bool false]))) := by
  have HR : Hid ((w.alloc (.cells #[.slice none 0 0, .slice none 0 0] 28)).rowIs w.heap.size 28 2 (fun i => #[Value.slice none 0 0, .slice none 0 0].getD i undef)) := row_new _ _ _ 2 rfl
  have hb0 := bt_le s 0
  obtain ⟨n, hn⟩ : ∃ n, n = dn s := ⟨_, rfl⟩
  obtain ⟨q, hq⟩ : ∃ q, q = q0 s := ⟨_, rfl⟩
  have hq' : q = 1 + n * 3 := by rw [hq, q0, hn]
  have hnb : n = bt s 0 := hn
  rw [← hnb] at hb0
  have HN : Hid (n = dn s) := hn
  by_cases h1 : s.size ≤ 0 ∨ s.size < 1 + n * 3
  · have HC : ∀ w, Calls Tryz.prog 101 #[.string s, .int .i64 0, .int .i64 3] w fun e w' => e = .returned (.tuple #[.string ByteArray.empty, .int .i64 0, .bool false]) ∧ w' = w := fun w => counted_no s 0 3 w hs (.inr rfl) (by omega) (by rw [← hnb]; omega)
    have HC' : Hid (∀ w, Calls Tryz.prog 101 #[.string s, .int .i64 0, .int .i64 3] w fun e w' => e = .returned (.tuple #[.string ByteArray.empty, .int .i64 0, .bool false]) ∧ w' = w) := HC
    have HB : Hid (¬ good s) := bad_nodes (by rw [← hq]; omega)
    clear HC hn hnb hq hq' h1
    go_enter Tryz.func77, Tryz.ntmps77
    go_wp2_with fail
    refine (HC'.out _).mono ?_
    rintro e w1 ⟨rfl, rfl⟩
    go_wp2
    refine bodyPost_ret (resC2 rfl _ w.heap.size _ _ (by rfl) HR.out Tryz.underlying28 rfl sizeTabC) rfl ?_
    exact ⟨below_one _, .inr ⟨HB.out, rfl⟩⟩
  · obtain ⟨u, hu⟩ : ∃ u, u = sub s 1 (n * 3) := ⟨_, rfl⟩
    have HC : ∀ w, Calls Tryz.prog 101 #[.string s, .int .i64 0, .int .i64 3] w fun e w' => e = .returned (.tuple #[.string u, .int .i64 (q : Nat), .bool true]) ∧ w' = w := fun w => by
      have := counted_yes s 0 3 w hs (.inr rfl) (by omega) (by rw [← hnb]; omega)
      rw [← hnb, Nat.zero_add, ← hq', ← hu] at this
      exact this
    have HC' : Hid (∀ w, Calls Tryz.prog 101 #[.string s, .int .i64 0, .int .i64 3] w fun e w' => e = .returned (.tuple #[.string u, .int .i64 (q : Nat), .bool true]) ∧ w' = w) := HC
    have HU : Hid (u.size = n * 3) := by show _ = _; rw [hu]; exact sub_size _ _ _ (by omega)
    have HU3 : Hid (nodes3 u n = ndL s n) := by show _ = _; rw [hu]; exact nodes3_sub n (by omega) n (Nat.le_refl _)
    have HRE : Hid (∀ w : World, Calls Tryz.prog 102 #[.string s, .int .i64 (q : Nat)] w fun e w' => Below w.heap.size w w' ∧
      ((epos s (dm s) ≤ s.size ∧ ∃ v vs cs, e = .returned (.tuple #[v, .int .i64 (epos s (dm s) : Nat), .bool true]) ∧ w'.ownsRow w.heap.size 63 2 v (dm s) (entC (dtx s) (dk s) vs cs (dm s)) ∧ EntsO w.heap.size (dk s) (dz s) (dm s) vs cs w') ∨
       (¬ good s ∧ e = .returned (.tuple #[.slice none 0 0, .int .i64 0, .bool false])))) := fun w => by
      rw [hq]
      exact readEntries_any s w hs (by rw [← hq]; omega)
    have hqs : q ≤ s.size := by omega
    clear HC hn hnb hq hu hq'
    go_enter Tryz.func77, Tryz.ntmps77
    go_wp2_with fail
    refine (HC'.out _).mono ?_
    rintro e w1 ⟨rfl, rfl⟩
    go_wp2_with fail
    refine (HRE.out _).mono ?_
    rintro e w1 ⟨hb1, ⟨hle, v, vs, cs, rfl, hrow, hent⟩ | ⟨hbad, rfl⟩⟩
    · simp only [size_one] at hrow hent
      have HROW : Hid (w1.ownsRow (w.heap.size + 1) 63 2 v (dm s) (entC (dtx s) (dk s) vs cs (dm s))) := hrow
      have HENT : Hid (EntsO (w.heap.size + 1) (dk s) (dz s) (dm s) vs cs w1) := hent
      have HR1 : Hid (w1.rowIs w.heap.size 28 2 (fun i => #[Value.slice none 0 0, .slice none 0 0].getD i undef)) := HR.out.of_block (hb1.block _ (by simp))
      have HB1 : Hid (Below w.heap.size w w1) := below_then (below_one _) hb1
      obtain ⟨p, hp⟩ : ∃ p, p = epos s (dm s) := ⟨_, rfl⟩
      have HP : Hid (p = epos s (dm s)) := hp
      rw [← hp] at hle
      have hz1 : w.heap.size < w1.heap.size := by have := hb1.size; simp at this; omega
      rw [← hp]
      clear hrow hent hp hb1 HRE HC'
      by_cases hg : p = s.size
      · have HG : Hid (good s) := by show _ = _; rw [← HP.out]; exact hg
        have hg' : ((p : Int) == (s.size : Int)) = true := by simp [hg]
        have HNF : Hid (∀ w, Calls Tryz.prog 103 #[.string u] w fun e w' => ∃ v, e = .returned v ∧ w'.ownsRow w.heap.size 65 3 v n (nodes3 u n) ∧ Below w.heap.size w w') := fun w => nodesFrom_any u n w HU.out (by omega)
        clear hg
        go_wp2_with fail
        refine (HNF.out _).mono ?_
        rintro e w2 ⟨vn, rfl, hnod, hb2⟩
        rw [HU3.out, HN.out] at hnod
        obtain ⟨v1, hv1⟩ : ∃ x, x = vn := ⟨_, rfl⟩
        obtain ⟨ve, hve⟩ : ∃ x, x = v := ⟨_, rfl⟩
        have hr2 : w2.rowIs w.heap.size 28 2 (fun i => #[Value.slice none 0 0, .slice none 0 0].getD i undef) := HR1.out.of_block (hb2.block _ hz1)
        have HR2 : Hid (w2.rowIs w.heap.size 28 2 (fun i => #[Value.slice none 0 0, .slice none 0 0].getD i undef)) := hr2
        have c0 := hr2.cell (i := 0) (by omega)
        have c1 := hr2.cell (i := 1) (by omega)
        have f0 := hr2.frozen 0
        have f1 := hr2.frozen 1
        obtain ⟨no, nc, hvn⟩ := ownC_shape hnod
        subst hvn
        obtain ⟨eo, ec, hvv⟩ := ownC_shape HROW.out
        subst hvv
        have HT : Hid (Told s (w.heap.size + 1) (.slice no (dn s) nc) (.slice eo (dm s) ec) vs cs w2) := ⟨ownC_base hnod (by omega), ownC_below HROW.out hb2, HENT.out.below hb2⟩
        have HB2 : Hid (Below w.heap.size w w2) := below_then HB1.out hb2
        obtain ⟨dnn, hdn⟩ : ∃ x, x = dn s := ⟨_, rfl⟩
        obtain ⟨dmm, hdm⟩ : ∃ x, x = dm s := ⟨_, rfl⟩
        rw [← hdn, ← hdm] at HT
        rw [← hdn, ← hdm]
        clear hr2 hb2 hnod hv1 hve HROW HENT HR1 HR HNF hdn hdm
        go_wp2
        refine bodyPost_ret (resC2 rfl _ w.heap.size _ _ (by rfl) ((HR2.out.set 0 (.slice no dnn nc)).set 1 (.slice eo dmm ec)) Tryz.underlying28 rfl sizeTabC) rfl ?_
        have hO : OnlyRow w.heap.size w2 ((w2.setCell ⟨w.heap.size, 0, none⟩ (.slice no dnn nc)).setCell ⟨w.heap.size, 1, none⟩ (.slice eo dmm ec)) := (OnlyRow.setCell _ _ _ _).trans (OnlyRow.setCell _ _ _ _)
        exact ⟨hO.below HB2.out (Nat.le_refl _), .inl ⟨HG.out, _, _, vs, cs, rfl, (HT.out.only hO (by omega)).base (by omega)⟩⟩
      · have HG : Hid (¬ good s) := by show ¬ _; unfold good; rw [← HP.out]; exact hg
        have hg' : ((p : Int) == (s.size : Int)) = false := by simp; omega
        clear hg
        have r0 := HR1.out.cell (i := 0) (by omega)
        have r1 := HR1.out.cell (i := 1) (by omega)
        have f0 := HR1.out.frozen 0
        have f1 := HR1.out.frozen 1
        go_wp2
        refine bodyPost_ret (resC2 rfl _ w.heap.size _ _ (by rfl) ((HR1.out.set 0 (.slice none 0 0)).set 1 (.slice none 0 0)) Tryz.underlying28 rfl sizeTabC) rfl ?_
        have hO : OnlyRow w.heap.size w1 ((w1.setCell ⟨w.heap.size, 0, none⟩ (.slice none 0 0)).setCell ⟨w.heap.size, 1, none⟩ (.slice none 0 0)) := (OnlyRow.setCell _ _ _ _).trans (OnlyRow.setCell _ _ _ _)
        exact ⟨hO.below HB1.out (Nat.le_refl _), .inr ⟨HG.out, rfl⟩⟩
    · have HB : Hid (¬ good s) := hbad
      have HR1 : Hid (w1.rowIs w.heap.size 28 2 (fun i => #[Value.slice none 0 0, .slice none 0 0].getD i undef)) := HR.out.of_block (hb1.block _ (by simp))
      have HB1 : Hid (Below w.heap.size w w1) := below_then (below_one _) hb1
      clear hbad hb1 HRE HC'
      have r0 := HR1.out.cell (i := 0) (by omega)
      have r1 := HR1.out.cell (i := 1) (by omega)
      have f0 := HR1.out.frozen 0
      have f1 := HR1.out.frozen 1
      go_wp2
      refine bodyPost_ret (resC2 rfl _ w.heap.size _ _ (by rfl) ((HR1.out.set 0 (.slice none 0 0)).set 1 (.slice none 0 0)) Tryz.underlying28 rfl sizeTabC) rfl ?_
      have hO : OnlyRow w.heap.size w1 ((w1.setCell ⟨w.heap.size, 0, none⟩ (.slice none 0 0)).setCell ⟨w.heap.size, 1, none⟩ (.slice none 0 0)) := (OnlyRow.setCell _ _ _ _).trans (OnlyRow.setCell _ _ _ _)
      exact ⟨hO.below HB1.out (Nat.le_refl _), .inr ⟨HB.out, rfl⟩⟩
end Go.Proofs.YtpclldccjpncdabGreat

namespace Go.Proofs.YtpclldccjpncdabGreat
open Go.RowKit

theorem ndL_len (s : ByteArray) : ∀ n, (ndL s n).length = n * 3
  | 0 => rfl
  | n + 1 => by rw [ndL_snoc, List.length_append, ndL_len s n]; simp; omega
theorem ndL_at (s : ByteArray) : ∀ n i, i < n → (ndL s n)[i * 3]? = some (.int .i64 (dp s i)) ∧ (ndL s n)[i * 3 + 1]? = some (.int .i64 (ds s i)) ∧ (ndL s n)[i * 3 + 2]? = some (.int .i64 (dt s i))
  | n + 1, i, h => by
    have hl := ndL_len s n
    rw [ndL_snoc]
    by_cases e : i = n
    · subst e
      refine ⟨?_, ?_, ?_⟩
      · rw [List.getElem?_append_right (by omega), hl, show i * 3 - i * 3 = 0 by omega]; rfl
      · rw [List.getElem?_append_right (by omega), hl, show i * 3 + 1 - i * 3 = 1 by omega]; rfl
      · rw [List.getElem?_append_right (by omega), hl, show i * 3 + 2 - i * 3 = 2 by omega]; rfl
    · rw [List.getElem?_append_left (by omega), List.getElem?_append_left (by omega), List.getElem?_append_left (by omega)]
      exact ndL_at s n i (by omega)
theorem entC_len (tx : Nat → ByteArray) (k : Nat → Nat) (vs : Nat → Option Addr) (cs : Nat → Nat) : ∀ n, (entC tx k vs cs n).length = n * 2
  | 0 => rfl
  | n + 1 => by rw [entC_snoc, List.length_append, entC_len tx k vs cs n]; simp; omega
theorem entC_at (tx : Nat → ByteArray) (k : Nat → Nat) (vs : Nat → Option Addr) (cs : Nat → Nat) : ∀ n i, i < n → (entC tx k vs cs n)[i * 2]? = some (.string (tx i)) ∧ (entC tx k vs cs n)[i * 2 + 1]? = some (.slice (vs i) (k i) (cs i))
  | n + 1, i, h => by
    have hl := entC_len tx k vs cs n
    rw [entC_snoc]
    by_cases e : i = n
    · subst e
      refine ⟨?_, ?_⟩
      · rw [List.getElem?_append_right (by omega), hl, show i * 2 - i * 2 = 0 by omega]; rfl
      · rw [List.getElem?_append_right (by omega), hl, show i * 2 + 1 - i * 2 = 1 by omega]; rfl
    · rw [List.getElem?_append_left (by omega), List.getElem?_append_left (by omega)]
      exact entC_at tx k vs cs n i (by omega)

def blk (a : Option Addr) : Nat := match a with | some a => a.block | none => 0
/-- the table that was read, as it lies in memory -/
def toldL (s : ByteArray) (no : Option Addr) (nc : Nat) (eo : Option Addr) (ec : Nat) (vs : Nat → Option Addr) (cs : Nat → Nat) : Lay :=
  { dL s with na := no, nc := nc, nb := blk no, ea := eo, ec := ec, eb := blk eo, la := vs, lc := cs, lb := fun i => blk (vs i) }
theorem toldL_err (s : ByteArray) (no : Option Addr) (nc : Nat) (eo : Option Addr) (ec : Nat) (vs : Nat → Option Addr) (cs : Nat → Nat) : (toldL s no nc eo ec vs cs).err = (dL s).err := rfl
theorem told_in {s : ByteArray} {B : Nat} {no : Option Addr} {nc : Nat} {eo : Option Addr} {ec : Nat} {vs : Nat → Option Addr} {cs : Nat → Nat} {w : World} (h : Told s B (.slice no (dn s) nc) (.slice eo (dm s) ec) vs cs w) : (toldL s no nc eo ec vs cs).In w.heap.size w := by
  have hn := bt_le s 0
  have hm := bt_le s (q0 s)
  refine ⟨?_, ?_⟩
  · obtain ⟨vo, vc, gv, hv, ha, hc⟩ := ownC_cells h.nodes
    cases hv
    have key : ∀ i, i < dn s → blk no = gv := fun i hi => by rw [(ha (by omega)).1]; rfl
    refine ⟨fun h0 => ?_, fun h0 => ?_, fun i hi => ?_, fun i hi => ?_, fun i hi => ?_, ?_⟩
    · show no = some ⟨blk no, 0, none⟩
      rw [(ha h0).1]; rfl
    · show blk no < _
      rw [(ha h0).1]; exact (ha h0).2.1
    · show w.cell? ⟨blk no, 0 + i * 3, none⟩ = _
      rw [key i hi, Nat.zero_add]
      have hi : i < dn s := hi
      exact hc _ _ (by omega) (ndL_at s _ i hi).1
    · show w.cell? ⟨blk no, 0 + i * 3 + 1, none⟩ = _
      rw [key i hi, Nat.zero_add]
      have hi : i < dn s := hi
      exact hc _ _ (by omega) (ndL_at s _ i hi).2.1
    · show w.cell? ⟨blk no, 0 + i * 3 + 2, none⟩ = _
      rw [key i hi, Nat.zero_add]
      have hi : i < dn s := hi
      exact hc _ _ (by omega) (ndL_at s _ i hi).2.2
    · show dn s * 24 ≤ _
      unfold dn; omega
  · obtain ⟨vo, vc, gv, hv, ha, hc⟩ := ownC_cells h.row
    cases hv
    have key : ∀ i, i < dm s → blk eo = gv := fun i hi => by rw [(ha (by omega)).1]; rfl
    refine ⟨fun h0 => ?_, fun h0 => ?_, fun i hi => ?_, fun i hi => ?_, fun i hi => ?_, ?_⟩
    · show eo = some ⟨blk eo, 0, none⟩
      rw [(ha h0).1]; rfl
    · show blk eo < _
      rw [(ha h0).1]; exact (ha h0).2.1
    · show w.cell? ⟨blk eo, 0 + i * 2, none⟩ = _
      rw [key i hi, Nat.zero_add]
      have hi : i < dm s := hi
      exact hc _ _ (by omega) (entC_at _ _ _ _ _ i hi).1
    · show w.cell? ⟨blk eo, 0 + i * 2 + 1, none⟩ = _
      rw [key i hi, Nat.zero_add]
      have hi : i < dm s := hi
      exact hc _ _ (by omega) (entC_at _ _ _ _ _ i hi).2
    · have hi : i < dm s := hi
      have hk := bt_le s (dkp s i)
      obtain ⟨vo', vc', gv', hv', ha', hc'⟩ := ownC_cells (h.ents.own i hi)
      injection hv' with hv1 hv2 hv3
      refine ⟨fun h0 => ?_, fun h0 => ?_, fun j hj => ?_, ?_⟩
      · show vs i = some ⟨blk (vs i), 0, none⟩
        rw [hv1, (ha' h0).1]; rfl
      · show blk (vs i) < _
        rw [hv1, (ha' h0).1]; exact (ha' h0).2.1
      · have hj : j < dk s i := hj
        show w.cell? ⟨blk (vs i), 0 + j, none⟩ = _
        rw [hv1, (ha' (by omega)).1, Nat.zero_add]
        exact hc' j _ (by omega) (by simp [hj]; rfl)
      · show dk s i * 8 ≤ _
        unfold dk; omega
    · show dm s * 40 ≤ _
      unfold dm; omega

/-- what Decode answers -/
def DecAns (s : ByteArray) (w : World) (e : Ending) (w' : World) : Prop := Below w.heap.size w w' ∧
  ((decE s = 0 ∧ ∃ no nc eo ec vs cs, e = .returned (.tuple #[.agg #[.slice no (dn s) nc, .slice eo (dm s) ec], .int .i64 0]) ∧ Told s w.heap.size (.slice no (dn s) nc) (.slice eo (dm s) ec) vs cs w') ∨
   (decE s ≠ 0 ∧ e = .returned (.tuple #[.agg #[.slice none 0 0, .slice none 0 0], .int .i64 (decE s)])))

set_option maxRecDepth 100000 in
set_option maxHeartbeats 1000000 in
theorem codeDecode_any (s : ByteArray) (w : World) (hs : s.size ≤ 140737488351232) : Calls Tryz.prog 47 #[.string s] w (DecAns s w) := by
  have HR : Hid ((w.alloc (.cells #[.slice none 0 0, .slice none 0 0] 28)).rowIs w.heap.size 28 2 (fun i => #[Value.slice none 0 0, .slice none 0 0].getD i undef)) := row_new _ _ _ 2 rfl
  have HT : Hid (∀ w : World, Calls Tryz.prog 77 #[.string s] w fun e w' => Below w.heap.size w w' ∧
      ((good s ∧ ∃ vn ve vs cs, e = .returned (.tuple #[.agg #[vn, ve], .bool true]) ∧ Told s w.heap.size vn ve vs cs w') ∨
       (¬ good s ∧ e = .returned (.tuple #[.agg #[.slice none 0 0, .slice none 0 0], .bool false])))) := fun w => readTable_any s w hs
  go_enter Tryz.func47, Tryz.ntmps47
  go_wp2_with fail
  refine (HT.out _).mono ?_
  rintro e w1 ⟨hb1, ⟨hgood, vn, ve, vs, cs, rfl, htold⟩ | ⟨hbad, rfl⟩⟩
  · simp only [size_one] at htold
    obtain ⟨no, nc, hvn⟩ := ownC_shape htold.nodes
    subst hvn
    obtain ⟨eo, ec, hve⟩ := ownC_shape htold.row
    subst hve
    have hin := told_in htold
    have HE : Hid (decE s = (dL s).err) := decE_good hgood
    have HTD : Hid (Told s (w.heap.size + 1) (.slice no (dn s) nc) (.slice eo (dm s) ec) vs cs w1) := htold
    have HV : Hid (∀ wx, Below w1.heap.size w1 wx → Calls Tryz.prog 36 #[.agg #[.slice no (dn s) nc, .slice eo (dm s) ec]] wx fun e w' => e = .returned (.int .i64 (decE s)) ∧ Below wx.heap.size wx w') := fun wx hbx => by
      rw [HE.out]
      exact tableValid_any (toldL s no nc eo ec vs cs) wx (hin.later hbx)
    obtain ⟨dnn, hdn⟩ : ∃ x, x = dn s := ⟨_, rfl⟩
    obtain ⟨dmm, hdm⟩ : ∃ x, x = dm s := ⟨_, rfl⟩
    obtain ⟨er, her⟩ : ∃ x, x = decE s := ⟨_, rfl⟩
    have HR1 : Hid (w1.rowIs w.heap.size 28 2 (fun i => #[Value.slice none 0 0, .slice none 0 0].getD i undef)) := HR.out.of_block (hb1.block _ (by simp))
    have HB1 : Hid (Below w.heap.size w w1) := below_then (below_one _) hb1
    have hz1 : w.heap.size < w1.heap.size := by have := hb1.size; simp at this; omega
    have HDN : Hid (dnn = dn s) := hdn
    have HDM : Hid (dmm = dm s) := hdm
    have HER : Hid (er = decE s) := her
    rw [← hdn, ← hdm, ← her] at HV
    rw [← hdn, ← hdm] at HTD
    rw [← hdn, ← hdm]
    clear htold hin HT hb1 HR hdn hdm her hgood HE
    go_wp2_with fail
    refine (HV.out _ (below_one _)).mono ?_
    rintro e w2 ⟨rfl, hb2⟩
    have hz2 : w1.heap.size < w2.heap.size := by have := hb2.size; simp at this; omega
    have hr2 : w2.rowIs w.heap.size 28 2 (fun i => #[Value.slice none 0 0, .slice none 0 0].getD i undef) := (HR1.out.alloc _).of_block (hb2.block _ (by simp; omega))
    have HR2 : Hid (w2.rowIs w.heap.size 28 2 (fun i => #[Value.slice none 0 0, .slice none 0 0].getD i undef)) := hr2
    have ht2 : w2.rowIs w1.heap.size 28 2 (fun i => #[Value.slice no dnn nc, .slice eo dmm ec].getD i undef) := (row_new w1 #[Value.slice no dnn nc, .slice eo dmm ec] 28 2 rfl).of_block (hb2.block _ (by simp))
    have r0 := hr2.cell (i := 0) (by omega)
    have r1 := hr2.cell (i := 1) (by omega)
    have f0 := hr2.frozen 0
    have f1 := hr2.frozen 1
    have t0 := ht2.cell (i := 0) (by omega)
    have t1 := ht2.cell (i := 1) (by omega)
    have HB2 : Hid (Below w.heap.size w w2) := below_then (below_then HB1.out (below_one _)) hb2
    have HT2 : Hid (Told s (w.heap.size + 1) (.slice no dnn nc) (.slice eo dmm ec) vs cs w2) := HTD.out.below (below_then (below_one _) hb2)
    clear hr2 ht2 hb2 HV
    by_cases h0 : er = 0
    · have HE0 : Hid (decE s = 0) := by show _ = _; rw [← HER.out]; exact h0
      clear HER
      subst h0
      go_wp2
      refine bodyPost_ret (resC2 rfl _ w.heap.size _ _ (by rfl) ((HR2.out.set 0 (.slice no dnn nc)).set 1 (.slice eo dmm ec)) Tryz.underlying28 rfl sizeTabC) rfl ?_
      have hO : OnlyRow w.heap.size w2 ((w2.setCell ⟨w.heap.size, 0, none⟩ (.slice no dnn nc)).setCell ⟨w.heap.size, 1, none⟩ (.slice eo dmm ec)) := (OnlyRow.setCell _ _ _ _).trans (OnlyRow.setCell _ _ _ _)
      refine ⟨hO.below HB2.out (Nat.le_refl _), .inl ⟨HE0.out, no, nc, eo, ec, vs, cs, ?_, ?_⟩⟩
      · rw [← HDN.out, ← HDM.out]; rfl
      · rw [← HDN.out, ← HDM.out]; exact (HT2.out.only hO (by omega)).base (by omega)
    · have h0' : (er == 0) = false := by simpa using h0
      have HE0 : Hid (decE s ≠ 0) := by show _ ≠ _; rw [← HER.out]; exact h0
      go_wp2
      refine bodyPost_ret (resC2 rfl _ w.heap.size _ _ (by rfl) ((HR2.out.set 0 (.slice none 0 0)).set 1 (.slice none 0 0)) Tryz.underlying28 rfl sizeTabC) rfl ?_
      have hO : OnlyRow w.heap.size w2 ((w2.setCell ⟨w.heap.size, 0, none⟩ (.slice none 0 0)).setCell ⟨w.heap.size, 1, none⟩ (.slice none 0 0)) := (OnlyRow.setCell _ _ _ _).trans (OnlyRow.setCell _ _ _ _)
      refine ⟨hO.below HB2.out (Nat.le_refl _), .inr ⟨HE0.out, ?_⟩⟩
      rw [← HER.out]; rfl
  · have HB : Hid (decE s = 7) := decE_bad hbad
    have HR1 : Hid (w1.rowIs w.heap.size 28 2 (fun i => #[Value.slice none 0 0, .slice none 0 0].getD i undef)) := HR.out.of_block (hb1.block _ (by simp))
    have HB1 : Hid (Below w.heap.size w w1) := below_then (below_one _) hb1
    have hz1 : w.heap.size < w1.heap.size := by have := hb1.size; simp at this; omega
    have r0 := HR1.out.cell (i := 0) (by omega)
    have r1 := HR1.out.cell (i := 1) (by omega)
    have f0 := HR1.out.frozen 0
    have f1 := HR1.out.frozen 1
    clear hbad hb1 HT HR
    go_wp2
    refine bodyPost_ret (resC2 rfl _ w.heap.size _ _ (by rfl) (((HR1.out.set 0 (.slice none 0 0)).set 1 (.slice none 0 0)).alloc _) Tryz.underlying28 rfl sizeTabC) rfl ?_
    have hO : OnlyRow w.heap.size w1 ((w1.setCell ⟨w.heap.size, 0, none⟩ (.slice none 0 0)).setCell ⟨w.heap.size, 1, none⟩ (.slice none 0 0)) := (OnlyRow.setCell _ _ _ _).trans (OnlyRow.setCell _ _ _ _)
    refine ⟨below_then (hO.below HB1.out (Nat.le_refl _)) (below_one _), .inr ⟨by rw [HB.out]; omega, ?_⟩⟩
    rw [HB.out]; rfl

theorem decode_any (s : ByteArray) (w : World) (hs : s.size ≤ 140737488351232) : Calls Tryz.prog 25 #[.string s] w (DecAns s w) := by
  have HC : Hid (Calls Tryz.prog 47 #[.string s] (w.alloc (.cells #[.slice none 0 0, .slice none 0 0] 28)) (DecAns s (w.alloc (.cells #[.slice none 0 0, .slice none 0 0] 28)))) := codeDecode_any s _ hs
  have HR : Hid ((w.alloc (.cells #[.slice none 0 0, .slice none 0 0] 28)).rowIs w.heap.size 28 2 (fun i => #[Value.slice none 0 0, .slice none 0 0].getD i undef)) := row_new _ _ _ 2 rfl
  go_enter Tryz.func25, Tryz.ntmps25
  go_wp2_with fail
  refine Calls.mono HC.out ?_
  rintro e w1 ⟨hb1, hor⟩
  have HR1 : Hid (w1.rowIs w.heap.size 28 2 (fun i => #[Value.slice none 0 0, .slice none 0 0].getD i undef)) := HR.out.of_block (hb1.block _ (by simp))
  have HB1 : Hid (Below w.heap.size w w1) := below_then (below_one _) hb1
  have r0 := HR1.out.cell (i := 0) (by omega)
  have r1 := HR1.out.cell (i := 1) (by omega)
  have f0 := HR1.out.frozen 0
  have f1 := HR1.out.frozen 1
  clear hb1 HC HR
  rcases hor with ⟨hE, no, nc, eo, ec, vs, cs, rfl, htold⟩ | ⟨hE, rfl⟩
  · simp only [size_one] at htold
    have HTD : Hid (Told s (w.heap.size + 1) (.slice no (dn s) nc) (.slice eo (dm s) ec) vs cs w1) := htold
    have HE : Hid (decE s = 0) := hE
    obtain ⟨dnn, hdn⟩ : ∃ x, x = dn s := ⟨_, rfl⟩
    obtain ⟨dmm, hdm⟩ : ∃ x, x = dm s := ⟨_, rfl⟩
    have HDN : Hid (dnn = dn s) := hdn
    have HDM : Hid (dmm = dm s) := hdm
    rw [← hdn, ← hdm]
    rw [← hdn, ← hdm] at HTD
    clear htold hE hdn hdm
    go_wp2
    refine bodyPost_ret (resC2 rfl _ w.heap.size _ _ (by rfl) ((HR1.out.set 0 (.slice no dnn nc)).set 1 (.slice eo dmm ec)) Tryz.underlying28 rfl sizeTabC) rfl ?_
    have hO : OnlyRow w.heap.size w1 ((w1.setCell ⟨w.heap.size, 0, none⟩ (.slice no dnn nc)).setCell ⟨w.heap.size, 1, none⟩ (.slice eo dmm ec)) := (OnlyRow.setCell _ _ _ _).trans (OnlyRow.setCell _ _ _ _)
    refine ⟨hO.below HB1.out (Nat.le_refl _), .inl ⟨HE.out, no, nc, eo, ec, vs, cs, ?_, ?_⟩⟩
    · rw [← HDN.out, ← HDM.out]; rfl
    · rw [← HDN.out, ← HDM.out]; exact (HTD.out.only hO (by omega)).base (by omega)
  · obtain ⟨er, her⟩ : ∃ x, x = decE s := ⟨_, rfl⟩
    have HER : Hid (er = decE s) := her
    have HE : Hid (decE s ≠ 0) := hE
    rw [← her]
    clear her hE
    go_wp2
    refine bodyPost_ret (resC2 rfl _ w.heap.size _ _ (by rfl) ((HR1.out.set 0 (.slice none 0 0)).set 1 (.slice none 0 0)) Tryz.underlying28 rfl sizeTabC) rfl ?_
    have hO : OnlyRow w.heap.size w1 ((w1.setCell ⟨w.heap.size, 0, none⟩ (.slice none 0 0)).setCell ⟨w.heap.size, 1, none⟩ (.slice none 0 0)) := (OnlyRow.setCell _ _ _ _).trans (OnlyRow.setCell _ _ _ _)
    refine ⟨hO.below HB1.out (Nat.le_refl _), .inr ⟨HE.out, ?_⟩⟩
    rw [← HER.out]; rfl

end Go.Proofs.YtpclldccjpncdabGreat
