import Derived.Test.YtpclldccjpncdaaDecP
namespace Go.Proofs.Ytpclldccjpncdaa
open Go.RowKit

/-- lists of numbers that are one's own, each in a block of its own -/
structure EntsO (B : Nat) (k : Nat → Nat) (z : Nat → Nat → Int) (i : Nat) (vs : Nat → Option Addr) (cs : Nat → Nat) (w : World) : Prop where
  own : ∀ j, j < i → w.ownsRow B 3 1 (.slice (vs j) (k j) (cs j)) (k j) ((List.range (k j)).map fun q => Value.int .i64 (z j q))
  apart : ∀ a b x, a < b → b < i → (vs a).map (·.block) = some x → (vs b).map (·.block) ≠ some x
def entC (tx : Nat → ByteArray) (k : Nat → Nat) (vs : Nat → Option Addr) (cs : Nat → Nat) (i : Nat) : List Value := (List.range i).flatMap fun j => [.string (tx j), .slice (vs j) (k j) (cs j)]
theorem entC_snoc (tx : Nat → ByteArray) (k : Nat → Nat) (vs : Nat → Option Addr) (cs : Nat → Nat) (i : Nat) : entC tx k vs cs (i + 1) = entC tx k vs cs i ++ [.string (tx i), .slice (vs i) (k i) (cs i)] := by simp [entC, List.range_succ]
theorem entC_congr (tx : Nat → ByteArray) (k : Nat → Nat) (vs vs' : Nat → Option Addr) (cs cs' : Nat → Nat) (i : Nat) (h : ∀ j, j < i → vs j = vs' j ∧ cs j = cs' j) : entC tx k vs cs i = entC tx k vs' cs' i := by
  induction i with
  | zero => rfl
  | succ i ih => rw [entC_snoc, entC_snoc, ih fun j hj => h j (by omega), (h i (by omega)).1, (h i (by omega)).2]
def upd {α : Type} (f : Nat → α) (i : Nat) (x : α) : Nat → α := fun j => if j = i then x else f j
theorem upd_at {α : Type} (f : Nat → α) (i : Nat) (x : α) : upd f i x i = x := by simp [upd]
theorem upd_ne {α : Type} (f : Nat → α) (i : Nat) (x : α) {j : Nat} (h : j ≠ i) : upd f i x j = f j := by simp [upd, h]
theorem slice_own (vo : Option Addr) (n c : Nat) : (Value.slice vo n c).ownBlock = vo.map (·.block) := by cases vo <;> rfl

theorem EntsO.nil (B : Nat) (k : Nat → Nat) (z : Nat → Nat → Int) (vs : Nat → Option Addr) (cs : Nat → Nat) (w : World) : EntsO B k z 0 vs cs w := ⟨fun j h => by omega, fun a b x _ h => by omega⟩
theorem EntsO.below {B : Nat} {k : Nat → Nat} {z : Nat → Nat → Int} {i : Nat} {vs : Nat → Option Addr} {cs : Nat → Nat} {w w' : World} (h : EntsO B k z i vs cs w) (hb : Below w.heap.size w w') : EntsO B k z i vs cs w' :=
  ⟨fun j hj => ownC_below (h.own j hj) hb, h.apart⟩
theorem EntsO.base {B B' : Nat} {k : Nat → Nat} {z : Nat → Nat → Int} {i : Nat} {vs : Nat → Option Addr} {cs : Nat → Nat} {w : World} (h : EntsO B k z i vs cs w) (hB : B' ≤ B) : EntsO B' k z i vs cs w :=
  ⟨fun j hj => ownC_base (h.own j hj) hB, h.apart⟩
/-- behind an append to a row of another type -/
theorem EntsO.grown {B : Nat} {k : Nat → Nat} {z : Nat → Nat → Int} {i : Nat} {vs : Nat → Option Addr} {cs : Nat → Nat} {w w' : World} (h : EntsO B k z i vs cs w) {base : Nat} {e : TypeId} {size : Nat} {v : Value} {n : Nat} {xs : List Value} (ho : w.ownsRow base e size v n xs) (ht : 3 ≠ e) (hg : w.grownBy w' v.ownBlock) : EntsO B k z i vs cs w' :=
  ⟨fun j hj => ownC_grown (h.own j hj) ho ht hg, h.apart⟩
/-- one more list, which is younger than the others -/
theorem EntsO.add {B : Nat} {k : Nat → Nat} {z : Nat → Nat → Int} {i : Nat} {vs : Nat → Option Addr} {cs : Nat → Nat} {w w' : World} (h : EntsO B k z i vs cs w) (hb : Below w.heap.size w w') {vo : Option Addr} {vc : Nat} (hB : B ≤ w.heap.size)
    (ho : w'.ownsRow w.heap.size 3 1 (.slice vo (k i) vc) (k i) ((List.range (k i)).map fun q => Value.int .i64 (z i q))) : EntsO B k z (i + 1) (upd vs i vo) (upd cs i vc) w' := by
  refine ⟨fun j hj => ?_, fun a b x hab hbi => ?_⟩
  · by_cases e : j = i
    · subst e
      rw [upd_at, upd_at]
      exact ownC_base ho hB
    · rw [upd_ne _ _ _ e, upd_ne _ _ _ e]
      exact ownC_below (h.own j (by omega)) hb
  · by_cases e : b = i
    · subst e
      rw [upd_at, upd_ne _ _ _ (by omega)]
      intro h1 h2
      have l1 := (ownC_lt (h.own a (by omega)) (b := x) (by rw [slice_own]; exact h1)).1
      have l2 := (ownC_lt ho (b := x) (by rw [slice_own]; exact h2)).2
      omega
    · rw [upd_ne _ _ _ e, upd_ne _ _ _ (by omega)]
      exact h.apart a b x hab (by omega)

/-- the numbers of an entry that is read -/
theorem nums_entry (s : ByteArray) (p h : Nat) (hp : p + h ≤ s.size) : (nums' (sub s p h) (sub s p h).size).map (Value.int .i64) = (List.range h).map fun q => Value.int .i64 ((bt s (p + q) : Nat) : Int) := by
  have hsz : (sub s p h).size = h := by simp [sub, ByteArray.size_extract]; omega
  rw [hsz, nums', List.map_map]
  refine List.map_congr_left fun q hq => ?_
  have hq := List.mem_range.1 hq
  have : bt (sub s p h) q = bt s (p + q) := by
    rw [bt_in (by rw [hsz]; exact hq), bt_in (by omega)]
    simp [sub, ByteArray.getElem_extract]
  simp [this]
theorem sub_size (s : ByteArray) (p h : Nat) (hp : p + h ≤ s.size) : (sub s p h).size = h := by simp [sub, ByteArray.size_extract]; omega

theorem counted_yes (s : ByteArray) (p z : Nat) (w : World) (hs : s.size ≤ 140737488351232) (hz : z = 1 ∨ z = 3) (h1 : p < s.size) (h2 : p + 1 + bt s p * z ≤ s.size) :
    Calls Try.prog 57 #[.string s, .int .i64 p, .int .i64 z] w fun e w' => e = .returned (.tuple #[.string (sub s (p + 1) (bt s p * z)), .int .i64 ((p + 1 + bt s p * z : Nat) : Int), .bool true]) ∧ w' = w :=
  (counted_any s p z w hs hz (by omega)).mono fun e w' ⟨hw, h⟩ => by
    rcases h with ⟨_, _, he⟩ | ⟨h, _⟩
    · exact ⟨he, hw⟩
    · omega
theorem counted_no (s : ByteArray) (p z : Nat) (w : World) (hs : s.size ≤ 140737488351232) (hz : z = 1 ∨ z = 3) (hp : p ≤ 140737488351232) (h : s.size ≤ p ∨ s.size < p + 1 + bt s p * z) :
    Calls Try.prog 57 #[.string s, .int .i64 p, .int .i64 z] w fun e w' => e = .returned (.tuple #[.string ByteArray.empty, .int .i64 0, .bool false]) ∧ w' = w :=
  (counted_any s p z w hs hz hp).mono fun e w' ⟨hw, h'⟩ => by
    rcases h' with ⟨_, _, he⟩ | ⟨_, he⟩
    · omega
    · exact ⟨he, hw⟩

set_option maxRecDepth 100000 in
set_option maxHeartbeats 1000000 in
theorem readEntry_any (s : ByteArray) (p : Nat) (w : World) (hs : s.size ≤ 140737488351232) (hp : p ≤ 140737488351232) :
    Calls Try.prog 71 #[.string s, .int .i64 p] w fun e w' => Below w.heap.size w w' ∧
      ((nxt s p ≤ s.size ∧ ∃ vo vc, e = .returned (.tuple #[.agg #[.string (sub s (p + 1) (bt s p)), .slice vo (bt s (p + 1 + bt s p)) vc], .int .i64 ((nxt s p : Nat) : Int), .bool true]) ∧
          w'.ownsRow w.heap.size 3 1 (.slice vo (bt s (p + 1 + bt s p)) vc) (bt s (p + 1 + bt s p)) ((List.range (bt s (p + 1 + bt s p))).map fun q => Value.int .i64 ((bt s (p + 1 + bt s p + 1 + q) : Nat) : Int))) ∨
       (s.size < nxt s p ∧ e = .returned (.tuple #[.agg #[.string ByteArray.empty, .slice none 0 0], .int .i64 0, .bool false]))) := by
  have hb1 := bt_le s p
  have hb2 := bt_le s (p + 1 + bt s p)
  obtain ⟨k, hk⟩ : ∃ k, k = bt s p := ⟨_, rfl⟩
  obtain ⟨b, hb⟩ : ∃ b, b = p + 1 + k := ⟨_, rfl⟩
  obtain ⟨h, hh⟩ : ∃ h, h = bt s b := ⟨_, rfl⟩
  obtain ⟨nx, hnx⟩ : ∃ nx, nx = nxt s p := ⟨_, rfl⟩
  have hnx' : nx = b + 1 + h := by rw [hnx, nxt, ← hk, ← hb, ← hh]
  rw [← hk, ← hb, ← hh] at hb2
  rw [← hk] at hb1
  rw [← hnx, ← hk, ← hb, ← hh]
  clear hnx
  have HB : Hid (b = p + 1 + k) := hb
  have HNX : Hid (nx = b + 1 + h) := hnx'
  have HR : Hid ((w.alloc (.cells #[.string ByteArray.empty, .slice none 0 0] 64)).rowIs w.heap.size 64 2 (fun i => #[Value.string ByteArray.empty, .slice none 0 0].getD i undef)) := row_new _ _ _ 2 rfl
  by_cases h1 : s.size ≤ p ∨ s.size < b
  · have HC : ∀ w, Calls Try.prog 57 #[.string s, .int .i64 p, .int .i64 1] w fun e w' => e = .returned (.tuple #[.string ByteArray.empty, .int .i64 0, .bool false]) ∧ w' = w := fun w => counted_no s p 1 w hs (.inl rfl) hp (by rw [← hk]; omega)
    have HC' : Hid _ := HC
    have HLT : Hid (s.size < nx) := by show _ < _; omega
    clear HC hb hnx' hk hh h1
    go_enter Try.func71, Try.ntmps71
    go_wp2_with fail
    refine (HC'.out _).mono ?_
    rintro e w1 ⟨rfl, rfl⟩
    go_wp2
    refine bodyPost_ret (resC3 rfl _ w.heap.size _ _ (by rfl) HR.out Try.underlying64 rfl sizeEntC) rfl ?_
    exact ⟨below_one _, .inr ⟨HLT.out, rfl⟩⟩
  · have HC : ∀ w, Calls Try.prog 57 #[.string s, .int .i64 p, .int .i64 1] w fun e w' => e = .returned (.tuple #[.string (sub s (p + 1) k), .int .i64 (b : Nat), .bool true]) ∧ w' = w := fun w => by
      have := counted_yes s p 1 w hs (.inl rfl) (by omega) (by rw [← hk]; omega)
      rw [← hk, Nat.mul_one, ← hb] at this
      exact this
    have HC' : Hid _ := HC
    obtain ⟨tx, htx⟩ : ∃ tx, tx = sub s (p + 1) k := ⟨_, rfl⟩
    rw [← htx] at HC HC' ⊢
    clear HC htx
    by_cases h2 : s.size ≤ b ∨ s.size < b + 1 + h
    · have HD : ∀ w, Calls Try.prog 57 #[.string s, .int .i64 b, .int .i64 1] w fun e w' => e = .returned (.tuple #[.string ByteArray.empty, .int .i64 0, .bool false]) ∧ w' = w := fun w => counted_no s b 1 w hs (.inl rfl) (by omega) (by rw [← hh]; omega)
      have HD' : Hid _ := HD
      have HLT : Hid (s.size < nx) := by show _ < _; omega
      clear HD hb hnx' hk hh h1 h2
      go_enter Try.func71, Try.ntmps71
      go_wp2_with fail
      refine (HC'.out _).mono ?_
      rintro e w1 ⟨rfl, rfl⟩
      go_wp2_with fail
      refine (HD'.out _).mono ?_
      rintro e w1 ⟨rfl, rfl⟩
      go_wp2
      refine bodyPost_ret (resC3 rfl _ w.heap.size _ _ (by rfl) HR.out Try.underlying64 rfl sizeEntC) rfl ?_
      exact ⟨below_one _, .inr ⟨HLT.out, rfl⟩⟩
    · have HD : ∀ w, Calls Try.prog 57 #[.string s, .int .i64 b, .int .i64 1] w fun e w' => e = .returned (.tuple #[.string (sub s (b + 1) h), .int .i64 (nx : Nat), .bool true]) ∧ w' = w := fun w => by
        have := counted_yes s b 1 w hs (.inl rfl) (by omega) (by rw [← hh]; omega)
        rw [← hh, Nat.mul_one, ← hnx'] at this
        exact this
      have HD' : Hid _ := HD
      have hsz : (sub s (b + 1) h).size = h := sub_size _ _ _ (by omega)
      have HN : Hid ((nums' (sub s (b + 1) h) (sub s (b + 1) h).size).map (Value.int .i64) = (List.range h).map fun q => Value.int .i64 ((bt s (b + 1 + q) : Nat) : Int)) := nums_entry s _ h (by omega)
      obtain ⟨u, hu⟩ : ∃ u, u = sub s (b + 1) h := ⟨_, rfl⟩
      have HU : Hid (u.size = h) := by show _ = _; rw [hu]; exact hsz
      rw [← hu] at HD HD' HN
      have HLE : Hid (nx ≤ s.size) := by show _ ≤ _; omega
      clear HD hb hnx' hk hh h1 h2 hsz hu
      have hul : u.size ≤ 255 := by rw [HU.out]; omega
      go_enter Try.func71, Try.ntmps71
      go_wp2_with fail
      refine (HC'.out _).mono ?_
      rintro e w1 ⟨rfl, rfl⟩
      go_wp2_with fail
      refine (HD'.out _).mono ?_
      rintro e w1 ⟨rfl, rfl⟩
      go_wp2_with fail
      refine (numbersFrom_any u _ hul).mono ?_
      rintro e w1 ⟨v, rfl, hown, hb⟩
      rw [HN.out, HU.out] at hown
      obtain ⟨vo, vc, hv⟩ := ownC_shape hown
      subst hv
      have hr1 : w1.rowIs w.heap.size 64 2 (fun i => #[Value.string ByteArray.empty, .slice none 0 0].getD i undef) := HR.out.of_block (hb.block _ (by simp))
      have HR1 : Hid (w1.rowIs w.heap.size 64 2 (fun i => #[Value.string ByteArray.empty, .slice none 0 0].getD i undef)) := hr1
      have c0 := hr1.cell (i := 0) (by omega)
      have c1 := hr1.cell (i := 1) (by omega)
      have f0 := hr1.frozen 0
      have f1 := hr1.frozen 1
      simp only [size_one] at hown
      have HOW : Hid (w1.ownsRow (w.heap.size + 1) 3 1 (.slice vo h vc) h ((List.range h).map fun q => Value.int .i64 ((bt s (b + 1 + q) : Nat) : Int))) := hown
      have HBW : Hid (Below w.heap.size w w1) := below_then (below_one _) hb
      clear hown hb hr1
      go_wp2
      refine bodyPost_ret (resC3 rfl _ w.heap.size _ _ (by rfl) ((HR1.out.set 0 (.string tx)).set 1 (.slice vo h vc)) Try.underlying64 rfl sizeEntC) rfl ?_
      have hO : OnlyRow w.heap.size w1 ((w1.setCell ⟨w.heap.size, 0, none⟩ (.string tx)).setCell ⟨w.heap.size, 1, none⟩ (.slice vo h vc)) := (OnlyRow.setCell _ _ _ _).trans (OnlyRow.setCell _ _ _ _)
      refine ⟨hO.below HBW.out (Nat.le_refl _), .inl ⟨HLE.out, vo, vc, rfl, ?_⟩⟩
      refine ownC_base (own_only hO HOW.out ?_) (by omega)
      intro hx
      have := (ownC_lt HOW.out hx).2
      omega

def entZ (k : Nat → Nat) (z : Nat → Nat → Int) (j : Nat) : List Value := (List.range (k j)).map fun q => Value.int .i64 (z j q)

theorem tak_in {s : ByteArray} {p k : Nat} (h : p + k ≤ s.size) : tak s p k = sub s p k := by simp [tak, h]
/-- the i-th entry -/
theorem readEntry_i (s : ByteArray) (i p : Nat) (w : World) (hs : s.size ≤ 140737488351232) (hp : p ≤ 140737488351232) (hpe : p = epos s i) :
    Calls Try.prog 71 #[.string s, .int .i64 p] w fun e w' => Below w.heap.size w w' ∧
      ((epos s (i + 1) ≤ s.size ∧ ∃ vo vc, e = .returned (.tuple #[.agg #[.string (dtx s i), .slice vo (dk s i) vc], .int .i64 ((epos s (i + 1) : Nat) : Int), .bool true]) ∧
          w'.ownsRow w.heap.size 3 1 (.slice vo (dk s i) vc) (dk s i) ((List.range (dk s i)).map fun q => Value.int .i64 (dz s i q))) ∨
       (s.size < epos s (i + 1) ∧ e = .returned (.tuple #[.agg #[.string ByteArray.empty, .slice none 0 0], .int .i64 0, .bool false]))) := by
  refine (readEntry_any s p w hs hp).mono ?_
  subst hpe
  rintro e w' ⟨hb, h⟩
  refine ⟨hb, ?_⟩
  rcases h with ⟨h1, vo, vc, he, ho⟩ | ⟨h1, he⟩
  · refine .inl ⟨h1, vo, vc, ?_, ho⟩
    have : dtx s i = sub s (epos s i + 1) (bt s (epos s i)) := tak_in (by unfold nxt at h1; omega)
    rw [this]
    exact he
  · exact .inr ⟨h1, he⟩

set_option maxRecDepth 100000 in
set_option maxHeartbeats 1000000 in
theorem readEntries_any (s : ByteArray) (w : World) (hs : s.size ≤ 140737488351232) (hq : q0 s ≤ 140737488351232) :
    Calls Try.prog 58 #[.string s, .int .i64 (q0 s : Nat)] w fun e w' => Below w.heap.size w w' ∧
      ((epos s (dm s) ≤ s.size ∧ ∃ v vs cs, e = .returned (.tuple #[v, .int .i64 (epos s (dm s) : Nat), .bool true]) ∧ w'.ownsRow w.heap.size 64 2 v (dm s) (entC (dtx s) (dk s) vs cs (dm s)) ∧ EntsO w.heap.size (dk s) (dz s) (dm s) vs cs w') ∨
       (¬ good s ∧ e = .returned (.tuple #[.slice none 0 0, .int .i64 0, .bool false]))) := by
  obtain ⟨i0, hi0, hq0, hq1, hq2⟩ := info_parts infoEntC
  obtain ⟨q, hqq⟩ : ∃ q, q = q0 s := ⟨_, rfl⟩
  rw [← hqq] at hq ⊢
  by_cases hlt : q < s.size
  · have hxb := bt_le s q
    have hbi := bt_in hlt
    obtain ⟨m, hm⟩ : ∃ m, m = dm s := ⟨_, rfl⟩
    have hmb : m = bt s q := by rw [hm, dm, hqq]
    rw [← hmb] at hxb
    have hxs : ((s[q]'hlt).toNat : Int) = m := by rw [hmb, hbi]
    have HM : Hid (m = dm s) := hm
    have HQ : Hid (epos s 0 = q + 1) := by show _ = _; rw [hqq]; rfl
    rw [← hm]
    clear hbi hmb hm hqq
    have d1 : decide ((q : Int) < 0) = false := by simp
    have d2 : decide (s.size ≤ q) = false := by simp; omega
    go_enter Try.func58, Try.ntmps58
    go_wp2
    go_loopw [9, 8, 10] (fun v nv iv wr => ∃ (i p : Nat) (vs : Nat → Option Addr) (cs : Nat → Nat), Hid (p = epos s i) ∧ i ≤ m ∧ p ≤ s.size ∧ iv = .int .i64 (i : Nat) ∧ nv = .int .i64 (p : Nat) ∧ Below w.heap.size w wr ∧ wr.ownsRow w.heap.size 64 2 v i (entC (dtx s) (dk s) vs cs i) ∧ EntsO w.heap.size (dk s) (dz s) i vs cs wr) (fun _ _ iv _ => m - (intOf iv).toNat)
    case atStart => exact ⟨0, q + 1, fun _ => none, fun _ => 0, HQ.out.symm, Nat.zero_le _, by omega, rfl, rfl, Below.refl _ _, World.ownsRow_nil _ _ _ _, EntsO.nil _ _ _ _ _ _⟩
    case round =>
      obtain ⟨i, p, vs, cs, HP, hi, hp, rfl, rfl, hbel, hown, hent⟩ := hrel
      have HOWN : Hid (wr.ownsRow w.heap.size 64 2 _ i (entC (dtx s) (dk s) vs cs i)) := hown
      have HENT : Hid (EntsO w.heap.size (dk s) (dz s) i vs cs wr) := hent
      clear hown hent
      have hsz := hbel.size
      by_cases him : i < m
      · obtain ⟨tx, htx⟩ : ∃ tx, tx = dtx s i := ⟨_, rfl⟩
        obtain ⟨k, hk⟩ : ∃ k, k = dk s i := ⟨_, rfl⟩
        obtain ⟨nx, hnx⟩ : ∃ nx, nx = epos s (i + 1) := ⟨_, rfl⟩
        have hc := readEntry_i s i p wr hs (by omega) HP.out
        rw [← htx, ← hk, ← hnx] at hc
        have HC : Hid _ := hc
        have HTX : Hid (tx = dtx s i) := htx
        have HK : Hid (k = dk s i) := hk
        have HNX : Hid (nx = epos s (i + 1)) := hnx
        clear hc htx hk hnx
        go_wp2_with fail
        refine Calls.mono HC.out ?_
        rintro e w1 ⟨hb1, ⟨hnx, vo, vc, rfl, ho1⟩ | ⟨hnx, rfl⟩⟩
        · have HO1 : Hid (w1.ownsRow wr.heap.size 3 1 (.slice vo k vc) k ((List.range k).map fun q => Value.int .i64 (dz s i q))) := ho1
          have hz1 := hb1.size
          have HOA : Hid (w1.ownsRow w.heap.size 64 2 _ i (entC (dtx s) (dk s) vs cs i)) := ownC_below HOWN.out hb1
          clear ho1 HC
          go_wp2_with (first
            | (at_builtin; refine wpList_append_lies _ (by rfl) (.tmp 42) (.tmp 44) 24 (by rfl) w.heap.size 64 i0 (.agg #[.string ByteArray.empty, .slice none 0 0]) 2 40 Try.underlying24 hi0 hq0 hq1 hq2 rfl (by omega) _ i _ (by rfl) ((HOA.out.alloc _).alloc _) ⟨w1.heap.size + 1, 0, none⟩ 1 1 [.string tx, .slice vo k vc] (by rfl) (by rfl) ?c1 ?c2 (by omega) ?c3 ?c5 ?c4 (w1.heap.size + 2) (by simp) ?_))
          case c1 => exact newC2 _ (by simp) _ _ _
          case c2 => intro u hu; simp at hu; rcases hu with rfl | rfl <;> rfl
          case c3 => unfold maxLen; omega
          case c5 => omega
          case c4 => simp; omega
          · intro gv cap2 w2 hown2 hgrow _ _
            have hba : Below w1.heap.size w1 ((w1.alloc (.cells #[.string tx, .slice vo k vc] 64)).alloc (.cells #[.string tx, .slice vo k vc] 64)) := below_then (below_one _) (below_one _)
            have HBN : Hid (Below w.heap.size w w2) := ownC_grown_below (below_then (below_then hbel hb1) hba) (by simp; omega) ((HOA.out.alloc _).alloc _) (Nat.le_refl _) hgrow
            have ho1 := HO1.out
            rw [HK.out] at ho1
            have hent1 := HENT.out.add hb1 hsz ho1
            have HE2 : Hid (EntsO w.heap.size (dk s) (dz s) (i + 1) (upd vs i vo) (upd cs i vc) w2) := (hent1.below hba).grown ((HOA.out.alloc _).alloc _) (by decide) hgrow
            have HO2 : Hid (w2.ownsRow w.heap.size 64 2 (.slice (some ⟨gv, 0, none⟩) (i + 1) cap2) (i + 1) (entC (dtx s) (dk s) (upd vs i vo) (upd cs i vc) (i + 1))) := by
              show _
              rw [entC_snoc, upd_at, upd_at, entC_congr (dtx s) (dk s) (upd vs i vo) vs (upd cs i vc) cs i fun j hj => ⟨upd_ne _ _ _ (by omega), upd_ne _ _ _ (by omega)⟩, ← HK.out, ← HTX.out]
              exact hown2
            clear hown2 hgrow hent1 ho1 hba
            go_wp2
            go_roundw
            case rel => exact ⟨i + 1, nx, _, _, HNX.out, by omega, hnx, by go_num, rfl, HBN.out, HO2.out, HE2.out⟩
            case measure => simp [intOf]; omega
        · have HB : Hid (¬ good s) := bad_entry (i := i) (by rw [← HM.out]; exact him) (by rw [← HNX.out]; exact hnx)
          clear HC
          go_wp2
          go_ret3
          exact ⟨below_then (below_then hbel hb1) (below_one _), .inr ⟨HB.out, rfl⟩⟩
      · have hie : i = m := by omega
        subst hie
        have HPE : Hid (p = epos s i) := HP
        go_wp2
        go_ret3
        refine ⟨hbel, .inl ⟨by rw [← HPE.out]; exact hp, _, vs, cs, ?_, HOWN.out, HENT.out⟩⟩
        rw [← HPE.out]
        rfl
  · have HB : Hid (¬ good s) := bad_nodes (by omega)
    clear hqq
    go_enter Try.func58, Try.ntmps58
    go_wp2
    go_ret3
    exact ⟨Below.refl _ _, .inr ⟨HB.out, rfl⟩⟩

end Go.Proofs.Ytpclldccjpncdaa
