import Derived.Test.YtpclldccjpncdabGreatM10
import Derived.Laws.BytesArg
import Derived.Lib.AppendStr
namespace Go.Proofs.YtpclldccjpncdabGreat
open Go.RowKit

/-- lists of numbers that are one's own, each in a block of its own -/
structure EntsO (B : Nat) (k : Nat → Nat) (z : Nat → Nat → Int) (i : Nat) (vs : Nat → Option Addr) (cs : Nat → Nat) (w : World) : Prop where
  own : ∀ j, j < i → w.ownsRow B 3 1 (.slice (vs j) (k j) (cs j)) (k j) ((List.range (k j)).map fun q => Value.int .i64 (z j q))
  apart : ∀ a b x, a < b → b < i → (vs a).map (·.block) = some x → (vs b).map (·.block) ≠ some x
def entC (tx : Nat → ByteArray) (k : Nat → Nat) (vs : Nat → Option Addr) (cs : Nat → Nat) (i : Nat) : List Value := (List.range i).flatMap fun j => [.string (tx j), .slice (vs j) (k j) (cs j)]
theorem entC_snoc (tx : Nat → ByteArray) (k : Nat → Nat) (vs : Nat → Option Addr) (cs : Nat → Nat) (i : Nat) : entC tx k vs cs (i + 1) = entC tx k vs cs i ++ [.string (tx i), .slice (vs i) (k i) (cs i)] := by simp [entC, List.range_succ]
theorem entC_congr (tx : Nat → ByteArray) (k : Nat → Nat) (vs vs' : Nat → Option Addr) (cs cs' : Nat → Nat) (i : Nat) (h : ∀ j, j < i → vs j = vs' j ∧ cs j = cs' j) : entC tx k vs cs i = entC tx k vs' cs' i := by
  induction i with
  | zero => rfl
  | succ i ih => rw [entC_snoc, entC_snoc, ih fun j hj => h j (by omega), (h i (by omega)).1, (h i (by omega)).2]
def upd {α : Type} (f : Nat → α) (i : Nat) (x : α) : Nat → α := fun j => if j = i then x else f j
theorem upd_at {α : Type} (f : Nat → α) (i : Nat) (x : α) : upd f i x i = x := by simp [upd]
theorem upd_ne {α : Type} (f : Nat → α) (i : Nat) (x : α) {j : Nat} (h : j ≠ i) : upd f i x j = f j := by simp [upd, h]
theorem slice_own (vo : Option Addr) (n c : Nat) : (Value.slice vo n c).ownBlock = vo.map (·.block) := by cases vo <;> rfl

theorem EntsO.nil (B : Nat) (k : Nat → Nat) (z : Nat → Nat → Int) (vs : Nat → Option Addr) (cs : Nat → Nat) (w : World) : EntsO B k z 0 vs cs w := ⟨fun j h => by omega, fun a b x _ h => by omega⟩
theorem EntsO.below {B : Nat} {k : Nat → Nat} {z : Nat → Nat → Int} {i : Nat} {vs : Nat → Option Addr} {cs : Nat → Nat} {w w' : World} (h : EntsO B k z i vs cs w) (hb : Below w.heap.size w w') : EntsO B k z i vs cs w' :=
  ⟨fun j hj => ownC_below (h.own j hj) hb, h.apart⟩
theorem EntsO.base {B B' : Nat} {k : Nat → Nat} {z : Nat → Nat → Int} {i : Nat} {vs : Nat → Option Addr} {cs : Nat → Nat} {w : World} (h : EntsO B k z i vs cs w) (hB : B' ≤ B) : EntsO B' k z i vs cs w :=
  ⟨fun j hj => ownC_base (h.own j hj) hB, h.apart⟩
/-- behind an append to a row of another type -/
theorem EntsO.grown {B : Nat} {k : Nat → Nat} {z : Nat → Nat → Int} {i : Nat} {vs : Nat → Option Addr} {cs : Nat → Nat} {w w' : World} (h : EntsO B k z i vs cs w) {base : Nat} {e : TypeId} {size : Nat} {v : Value} {n : Nat} {xs : List Value} (ho : w.ownsRow base e size v n xs) (ht : 3 ≠ e) (hg : w.grownBy w' v.ownBlock) : EntsO B k z i vs cs w' :=
  ⟨fun j hj => ownC_grown (h.own j hj) ho ht hg, h.apart⟩
/-- one more list, which is younger than the others -/
theorem EntsO.add {B : Nat} {k : Nat → Nat} {z : Nat → Nat → Int} {i : Nat} {vs : Nat → Option Addr} {cs : Nat → Nat} {w w' : World} (h : EntsO B k z i vs cs w) (hb : Below w.heap.size w w') {vo : Option Addr} {vc : Nat} (hB : B ≤ w.heap.size)
    (ho : w'.ownsRow w.heap.size 3 1 (.slice vo (k i) vc) (k i) ((List.range (k i)).map fun q => Value.int .i64 (z i q))) : EntsO B k z (i + 1) (upd vs i vo) (upd cs i vc) w' := by
  refine ⟨fun j hj => ?_, fun a b x hab hbi => ?_⟩
  · by_cases e : j = i
    · subst e
      rw [upd_at, upd_at]
      exact ownC_base ho hB
    · rw [upd_ne _ _ _ e, upd_ne _ _ _ e]
      exact ownC_below (h.own j (by omega)) hb
  · by_cases e : b = i
    · subst e
      rw [upd_at, upd_ne _ _ _ (by omega)]
      intro h1 h2
      have l1 := (ownC_lt (h.own a (by omega)) (b := x) (by rw [slice_own]; exact h1)).1
      have l2 := (ownC_lt ho (b := x) (by rw [slice_own]; exact h2)).2
      omega
    · rw [upd_ne _ _ _ e, upd_ne _ _ _ (by omega)]
      exact h.apart a b x hab (by omega)

/-- the numbers of an entry that is read -/
theorem nums_entry (s : ByteArray) (p h : Nat) (hp : p + h ≤ s.size) : (nums' (sub s p h) (sub s p h).size).map (Value.int .i64) = (List.range h).map fun q => Value.int .i64 ((bt s (p + q) : Nat) : Int) := by
  have hsz : (sub s p h).size = h := by simp [sub, ByteArray.size_extract]; omega
  rw [hsz, nums', List.map_map]
  refine List.map_congr_left fun q hq => ?_
  have hq := List.mem_range.1 hq
  have : bt (sub s p h) q = bt s (p + q) := by
    rw [bt_in (by rw [hsz]; exact hq), bt_in (by omega)]
    simp [sub, ByteArray.getElem_extract]
  simp [this]
theorem sub_size (s : ByteArray) (p h : Nat) (hp : p + h ≤ s.size) : (sub s p h).size = h := by simp [sub, ByteArray.size_extract]; omega

theorem counted_yes (s : ByteArray) (p z : Nat) (w : World) (hs : s.size ≤ 140737488351232) (hz : z = 1 ∨ z = 3) (h1 : p < s.size) (h2 : p + 1 + bt s p * z ≤ s.size) :
    Calls Tryz.prog 101 #[.string s, .int .i64 p, .int .i64 z] w fun e w' => e = .returned (.tuple #[.string (sub s (p + 1) (bt s p * z)), .int .i64 ((p + 1 + bt s p * z : Nat) : Int), .bool true]) ∧ w' = w :=
  (counted_any s p z w hs hz (by omega)).mono fun e w' ⟨hw, h⟩ => by
    rcases h with ⟨_, _, he⟩ | ⟨h, _⟩
    · exact ⟨he, hw⟩
    · omega
theorem counted_no (s : ByteArray) (p z : Nat) (w : World) (hs : s.size ≤ 140737488351232) (hz : z = 1 ∨ z = 3) (hp : p ≤ 140737488351232) (h : s.size ≤ p ∨ s.size < p + 1 + bt s p * z) :
    Calls Tryz.prog 101 #[.string s, .int .i64 p, .int .i64 z] w fun e w' => e = .returned (.tuple #[.string ByteArray.empty, .int .i64 0, .bool false]) ∧ w' = w :=
  (counted_any s p z w hs hz hp).mono fun e w' ⟨hw, h'⟩ => by
    rcases h' with ⟨_, _, he⟩ | ⟨_, he⟩
    · omega
    · exact ⟨he, hw⟩

set_option maxRecDepth 100000 in
set_option maxHeartbeats 1000000 in
theorem readEntry_any (s : ByteArray) (p : Nat) (w : World) (hs : s.size ≤ 140737488351232) (hp : p ≤ 140737488351232) :
    Calls Tryz.prog 121 #[.string s, .int .i64 p] w fun e w' => Below w.heap.size w w' ∧
      ((nxt s p ≤ s.size ∧ ∃ vo vc, e = .returned (.tuple #[.agg #[.string (sub s (p + 1) (bt s p)), .slice vo (bt s (p + 1 + bt s p)) vc], .int .i64 ((nxt s p : Nat) : Int), .bool true]) ∧
          w'.ownsRow w.heap.size 3 1 (.slice vo (bt s (p + 1 + bt s p)) vc) (bt s (p + 1 + bt s p)) ((List.range (bt s (p + 1 + bt s p))).map fun q => Value.int .i64 ((bt s (p + 1 + bt s p + 1 + q) : Nat) : Int))) ∨
       (s.size < nxt s p ∧ e = .returned (.tuple #[.agg #[.string ByteArray.empty, .slice none 0 0], .int .i64 0, .bool false]))) := by
  have hb1 := bt_le s p
  have hb2 := bt_le s (p + 1 + bt s p)
  obtain ⟨k, hk⟩ : ∃ k, k = bt s p := ⟨_, rfl⟩
  obtain ⟨b, hb⟩ : ∃ b, b = p + 1 + k := ⟨_, rfl⟩
  obtain ⟨h, hh⟩ : ∃ h, h = bt s b := ⟨_, rfl⟩
  obtain ⟨nx, hnx⟩ : ∃ nx, nx = nxt s p := ⟨_, rfl⟩
  have hnx' : nx = b + 1 + h := by rw [hnx, nxt, ← hk, ← hb, ← hh]
  rw [← hk, ← hb, ← hh] at hb2
  rw [← hk] at hb1
  rw [← hnx, ← hk, ← hb, ← hh]
  clear hnx
  have HB : Hid (b = p + 1 + k) := hb
  have HNX : Hid (nx = b + 1 + h) := hnx'
  have HR : Hid ((w.alloc (.cells #[.string ByteArray.empty, .slice none 0 0] 63)).rowIs w.heap.size 63 2 (fun i => #[Value.string ByteArray.empty, .slice none 0 0].getD i undef)) := row_new _ _ _ 2 rfl
  by_cases h1 : s.size ≤ p ∨ s.size < b
  · have HC : ∀ w, Calls Tryz.prog 101 #[.string s, .int .i64 p, .int .i64 1] w fun e w' => e = .returned (.tuple #[.string ByteArray.empty, .int .i64 0, .bool false]) ∧ w' = w := fun w => counted_no s p 1 w hs (.inl rfl) hp (by rw [← hk]; omega)
    have HC' : Hid _ := HC
    have HLT : Hid (s.size < nx) := by show _ < _; omega
    clear HC hb hnx' hk hh h1
    go_enter Tryz.func121, Tryz.ntmps121
    go_wp2_with fail
    refine (HC'.out _).mono ?_
    rintro e w1 ⟨rfl, rfl⟩
    go_wp2
    refine bodyPost_ret (resC3 rfl _ w.heap.size _ _ (by rfl) HR.out Tryz.underlying63 rfl sizeEntC) rfl ?_
    exact ⟨below_one _, .inr ⟨HLT.out, rfl⟩⟩
  · have HC : ∀ w, Calls Tryz.prog 101 #[.string s, .int .i64 p, .int .i64 1] w fun e w' => e = .returned (.tuple #[.string (sub s (p + 1) k), .int .i64 (b : Nat), .bool true]) ∧ w' = w := fun w => by
      have := counted_yes s p 1 w hs (.inl rfl) (by omega) (by rw [← hk]; omega)
      rw [← hk, Nat.mul_one, ← hb] at this
      exact this
    have HC' : Hid _ := HC
    obtain ⟨tx, htx⟩ : ∃ tx, tx = sub s (p + 1) k := ⟨_, rfl⟩
    rw [← htx] at HC HC' ⊢
    clear HC htx
    by_cases h2 : s.size ≤ b ∨ s.size < b + 1 + h
    · have HD : ∀ w, Calls Tryz.prog 101 #[.string s, .int .i64 b, .int .i64 1] w fun e w' => e = .returned (.tuple #[.string ByteArray.empty, .int .i64 0, .bool false]) ∧ w' = w := fun w => counted_no s b 1 w hs (.inl rfl) (by omega) (by rw [← hh]; omega)
      have HD' : Hid _ := HD
      have HLT : Hid (s.size < nx) := by show _ < _; omega
      clear HD hb hnx' hk hh h1 h2
      go_enter Tryz.func121, Tryz.ntmps121
      go_wp2_with fail
      refine (HC'.out _).mono ?_
      rintro e w1 ⟨rfl, rfl⟩
      go_wp2_with fail
      refine (HD'.out _).mono ?_
      rintro e w1 ⟨rfl, rfl⟩
      go_wp2
      refine bodyPost_ret (resC3 rfl _ w.heap.size _ _ (by rfl) HR.out Tryz.underlying63 rfl sizeEntC) rfl ?_
      exact ⟨below_one _, .inr ⟨HLT.out, rfl⟩⟩
    · have HD : ∀ w, Calls Tryz.prog 101 #[.string s, .int .i64 b, .int .i64 1] w fun e w' => e = .returned (.tuple #[.string (sub s (b + 1) h), .int .i64 (nx : Nat), .bool true]) ∧ w' = w := fun w => by
        have := counted_yes s b 1 w hs (.inl rfl) (by omega) (by rw [← hh]; omega)
        rw [← hh, Nat.mul_one, ← hnx'] at this
        exact this
      have HD' : Hid _ := HD
      have hsz : (sub s (b + 1) h).size = h := sub_size _ _ _ (by omega)
      have HN : Hid ((nums' (sub s (b + 1) h) (sub s (b + 1) h).size).map (Value.int .i64) = (List.range h).map fun q => Value.int .i64 ((bt s (b + 1 + q) : Nat) : Int)) := nums_entry s _ h (by omega)
      obtain ⟨u, hu⟩ : ∃ u, u = sub s (b + 1) h := ⟨_, rfl⟩
      have HU : Hid (u.size = h) := by show _ = _; rw [hu]; exact hsz
      rw [← hu] at HD HD' HN
      have HLE : Hid (nx ≤ s.size) := by show _ ≤ _; omega
      clear HD hb hnx' hk hh h1 h2 hsz hu
      have hul : u.size ≤ 255 := by rw [HU.out]; omega
      go_enter Tryz.func121, Tryz.ntmps121
      go_wp2_with fail
      refine (HC'.out _).mono ?_
      rintro e w1 ⟨rfl, rfl⟩
      go_wp2_with fail
      refine (HD'.out _).mono ?_
      rintro e w1 ⟨rfl, rfl⟩
      go_wp2_with fail
      refine (numbersFrom_any u _ hul).mono ?_
      rintro e w1 ⟨v, rfl, hown, hb⟩
      rw [HN.out, HU.out] at hown
      obtain ⟨vo, vc, hv⟩ := ownC_shape hown
      subst hv
      have hr1 : w1.rowIs w.heap.size 63 2 (fun i => #[Value.string ByteArray.empty, .slice none 0 0].getD i undef) := HR.out.of_block (hb.block _ (by simp))
      have HR1 : Hid (w1.rowIs w.heap.size 63 2 (fun i => #[Value.string ByteArray.empty, .slice none 0 0].getD i undef)) := hr1
      have c0 := hr1.cell (i := 0) (by omega)
      have c1 := hr1.cell (i := 1) (by omega)
      have f0 := hr1.frozen 0
      have f1 := hr1.frozen 1
      simp only [size_one] at hown
      have HOW : Hid (w1.ownsRow (w.heap.size + 1) 3 1 (.slice vo h vc) h ((List.range h).map fun q => Value.int .i64 ((bt s (b + 1 + q) : Nat) : Int))) := hown
      have HBW : Hid (Below w.heap.size w w1) := below_then (below_one _) hb
      clear hown hb hr1
      go_wp2
      refine bodyPost_ret (resC3 rfl _ w.heap.size _ _ (by rfl) ((HR1.out.set 0 (.string tx)).set 1 (.slice vo h vc)) Tryz.underlying63 rfl sizeEntC) rfl ?_
      have hO : OnlyRow w.heap.size w1 ((w1.setCell ⟨w.heap.size, 0, none⟩ (.string tx)).setCell ⟨w.heap.size, 1, none⟩ (.slice vo h vc)) := (OnlyRow.setCell _ _ _ _).trans (OnlyRow.setCell _ _ _ _)
      refine ⟨hO.below HBW.out (Nat.le_refl _), .inl ⟨HLE.out, vo, vc, rfl, ?_⟩⟩
      refine ownC_base (own_only hO HOW.out ?_) (by omega)
      intro hx
      have := (ownC_lt HOW.out hx).2
      omega

def entZ (k : Nat → Nat) (z : Nat → Nat → Int) (j : Nat) : List Value := (List.range (k j)).map fun q => Value.int .i64 (z j q)

theorem tak_in {s : ByteArray} {p k : Nat} (h : p + k ≤ s.size) : tak s p k = sub s p k := by simp [tak, h]
/-- the i-th entry -/
theorem readEntry_i (s : ByteArray) (i p : Nat) (w : World) (hs : s.size ≤ 140737488351232) (hp : p ≤ 140737488351232) (hpe : p = epos s i) :
    Calls Tryz.prog 121 #[.string s, .int .i64 p] w fun e w' => Below w.heap.size w w' ∧
      ((epos s (i + 1) ≤ s.size ∧ ∃ vo vc, e = .returned (.tuple #[.agg #[.string (dtx s i), .slice vo (dk s i) vc], .int .i64 ((epos s (i + 1) : Nat) : Int), .bool true]) ∧
          w'.ownsRow w.heap.size 3 1 (.slice vo (dk s i) vc) (dk s i) ((List.range (dk s i)).map fun q => Value.int .i64 (dz s i q))) ∨
       (s.size < epos s (i + 1) ∧ e = .returned (.tuple #[.agg #[.string ByteArray.empty, .slice none 0 0], .int .i64 0, .bool false]))) := by
  refine (readEntry_any s p w hs hp).mono ?_
  subst hpe
  rintro e w' ⟨hb, h⟩
  refine ⟨hb, ?_⟩
  rcases h with ⟨h1, vo, vc, he, ho⟩ | ⟨h1, he⟩
  · refine .inl ⟨h1, vo, vc, ?_, ho⟩
    have : dtx s i = sub s (epos s i + 1) (bt s (epos s i)) := tak_in (by unfold nxt at h1; omega)
    rw [this]
    exact he
  · exact .inr ⟨h1, he⟩

set_option maxRecDepth 100000 in
set_option maxHeartbeats 1000000 in
theorem readEntries_any (s : ByteArray) (w : World) (hs : s.size ≤ 140737488351232) (hq : q0 s ≤ 140737488351232) :
    Calls Tryz.prog 102 #[.string s, .int .i64 (q0 s : Nat)] w fun e w' => Below w.heap.size w w' ∧
      ((epos s (dm s) ≤ s.size ∧ ∃ v vs cs, e = .returned (.tuple #[v, .int .i64 (epos s (dm s) : Nat), .bool true]) ∧ w'.ownsRow w.heap.size 63 2 v (dm s) (entC (dtx s) (dk s) vs cs (dm s)) ∧ EntsO w.heap.size (dk s) (dz s) (dm s) vs cs w') ∨
       (¬ good s ∧ e = .returned (.tuple #[.slice none 0 0, .int .i64 0, .bool false]))) := by
  obtain ⟨i0, hi0, hq0, hq1, hq2⟩ := info_parts infoEntC
  obtain ⟨q, hqq⟩ : ∃ q, q = q0 s := ⟨_, rfl⟩
  rw [← hqq] at hq ⊢
  by_cases hlt : q < s.size
  · have hxb := bt_le s q
    have hbi := bt_in hlt
    obtain ⟨m, hm⟩ : ∃ m, m = dm s := ⟨_, rfl⟩
    have hmb : m = bt s q := by rw [hm, dm, hqq]
    rw [← hmb] at hxb
    have hxs : ((s[q]'hlt).toNat : Int) = m := by rw [hmb, hbi]
    have HM : Hid (m = dm s) := hm
    have HQ : Hid (epos s 0 = q + 1) := by show _ = _; rw [hqq]; rfl
    rw [← hm]
    clear hbi hmb hm hqq
    have d1 : decide ((q : Int) < 0) = false := by simp
    have d2 : decide (s.size ≤ q) = false := by simp; omega
    go_enter Tryz.func102, Tryz.ntmps102
    go_wp2
    go_loopw [9, 8, 10] (fun v nv iv wr => ∃ (i p : Nat) (vs : Nat → Option Addr) (cs : Nat → Nat), Hid (p = epos s i) ∧ i ≤ m ∧ p ≤ s.size ∧ iv = .int .i64 (i : Nat) ∧ nv = .int .i64 (p : Nat) ∧ Below w.heap.size w wr ∧ wr.ownsRow w.heap.size 63 2 v i (entC (dtx s) (dk s) vs cs i) ∧ EntsO w.heap.size (dk s) (dz s) i vs cs wr) (fun _ _ iv _ => m - (intOf iv).toNat)
    case atStart => exact ⟨0, q + 1, fun _ => none, fun _ => 0, HQ.out.symm, Nat.zero_le _, by omega, rfl, rfl, Below.refl _ _, World.ownsRow_nil _ _ _ _, EntsO.nil _ _ _ _ _ _⟩
    case round =>
      obtain ⟨i, p, vs, cs, HP, hi, hp, rfl, rfl, hbel, hown, hent⟩ := hrel
      have HOWN : Hid (wr.ownsRow w.heap.size 63 2 _ i (entC (dtx s) (dk s) vs cs i)) := hown
      have HENT : Hid (EntsO w.heap.size (dk s) (dz s) i vs cs wr) := hent
      clear hown hent
      have hsz := hbel.size
      by_cases him : i < m
      · obtain ⟨tx, htx⟩ : ∃ tx, tx = dtx s i := ⟨_, rfl⟩
        obtain ⟨k, hk⟩ : ∃ k, k = dk s i := ⟨_, rfl⟩
        obtain ⟨nx, hnx⟩ : ∃ nx, nx = epos s (i + 1) := ⟨_, rfl⟩
        have hc := readEntry_i s i p wr hs (by omega) HP.out
        rw [← htx, ← hk, ← hnx] at hc
        have HC : Hid _ := hc
        have HTX : Hid (tx = dtx s i) := htx
        have HK : Hid (k = dk s i) := hk
        have HNX : Hid (nx = epos s (i + 1)) := hnx
        clear hc htx hk hnx
        go_wp2_with fail
        refine Calls.mono HC.out ?_
        rintro e w1 ⟨hb1, ⟨hnx, vo, vc, rfl, ho1⟩ | ⟨hnx, rfl⟩⟩
        · have HO1 : Hid (w1.ownsRow wr.heap.size 3 1 (.slice vo k vc) k ((List.range k).map fun q => Value.int .i64 (dz s i q))) := ho1
          have hz1 := hb1.size
          have HOA : Hid (w1.ownsRow w.heap.size 63 2 _ i (entC (dtx s) (dk s) vs cs i)) := ownC_below HOWN.out hb1
          clear ho1 HC
          go_wp2_with (first
            | (at_builtin; refine wpList_append_lies _ (by rfl) (.tmp 42) (.tmp 44) 26 (by rfl) w.heap.size 63 i0 (.agg #[.string ByteArray.empty, .slice none 0 0]) 2 40 Tryz.underlying26 hi0 hq0 hq1 hq2 rfl (by omega) _ i _ (by rfl) ((HOA.out.alloc _).alloc _) ⟨w1.heap.size + 1, 0, none⟩ 1 1 [.string tx, .slice vo k vc] (by rfl) (by rfl) ?c1 ?c2 (by omega) ?c3 ?c5 ?c4 (w1.heap.size + 2) (by simp) ?_))
          case c1 => exact newC2 _ (by simp) _ _ _
          case c2 => intro u hu; simp at hu; rcases hu with rfl | rfl <;> rfl
          case c3 => unfold maxLen; omega
          case c5 => omega
          case c4 => simp; omega
          · intro gv cap2 w2 hown2 hgrow _ _
            have hba : Below w1.heap.size w1 ((w1.alloc (.cells #[.string tx, .slice vo k vc] 63)).alloc (.cells #[.string tx, .slice vo k vc] 63)) := below_then (below_one _) (below_one _)
            have HBN : Hid (Below w.heap.size w w2) := ownC_grown_below (below_then (below_then hbel hb1) hba) (by simp; omega) ((HOA.out.alloc _).alloc _) (Nat.le_refl _) hgrow
            have ho1 := HO1.out
            rw [HK.out] at ho1
            have hent1 := HENT.out.add hb1 hsz ho1
            have HE2 : Hid (EntsO w.heap.size (dk s) (dz s) (i + 1) (upd vs i vo) (upd cs i vc) w2) := (hent1.below hba).grown ((HOA.out.alloc _).alloc _) (by decide) hgrow
            have HO2 : Hid (w2.ownsRow w.heap.size 63 2 (.slice (some ⟨gv, 0, none⟩) (i + 1) cap2) (i + 1) (entC (dtx s) (dk s) (upd vs i vo) (upd cs i vc) (i + 1))) := by
              show _
              rw [entC_snoc, upd_at, upd_at, entC_congr (dtx s) (dk s) (upd vs i vo) vs (upd cs i vc) cs i fun j hj => ⟨upd_ne _ _ _ (by omega), upd_ne _ _ _ (by omega)⟩, ← HK.out, ← HTX.out]
              exact hown2
            clear hown2 hgrow hent1 ho1 hba
            go_wp2
            go_roundw
            case rel => exact ⟨i + 1, nx, _, _, HNX.out, by omega, hnx, by go_num, rfl, HBN.out, HO2.out, HE2.out⟩
            case measure => simp [intOf]; omega
        · have HB : Hid (¬ good s) := bad_entry (i := i) (by rw [← HM.out]; exact him) (by rw [← HNX.out]; exact hnx)
          clear HC
          go_wp2
          go_ret3
          exact ⟨below_then (below_then hbel hb1) (below_one _), .inr ⟨HB.out, rfl⟩⟩
      · have hie : i = m := by omega
        subst hie
        have HPE : Hid (p = epos s i) := HP
        go_wp2
        go_ret3
        refine ⟨hbel, .inl ⟨by rw [← HPE.out]; exact hp, _, vs, cs, ?_, HOWN.out, HENT.out⟩⟩
        rw [← HPE.out]
        rfl
  · have HB : Hid (¬ good s) := bad_nodes (by omega)
    clear hqq
    go_enter Tryz.func102, Tryz.ntmps102
    go_wp2
    go_ret3
    exact ⟨Below.refl _ _, .inr ⟨HB.out, rfl⟩⟩

end Go.Proofs.YtpclldccjpncdabGreat

namespace Go.Proofs.YtpclldccjpncdabGreat
open Go.RowKit

/-- the bytes of a text, as numbers -/
def blC (s : ByteArray) : List Int := s.data.toList.map fun u => (u.toNat : Int)
theorem blC_len (s : ByteArray) : (blC s).length = s.size := by rw [blC, List.length_map, Array.length_toList]; rfl
theorem blC_cells (s : ByteArray) : Go.Lib.strCells s = (blC s).map (Value.int .u8) := by simp [Go.Lib.strCells, blC]
theorem blC_str (s : ByteArray) : strOfNums (blC s) = s := by
  apply ByteArray.ext
  apply Array.ext'
  rw [strOfNums_data, blC, List.map_map]
  refine (List.map_congr_left (g := id) fun u _ => ?_).trans (List.map_id _)
  simp
theorem str_app (a b : List Int) : strOfNums (a ++ b) = strOfNums a ++ strOfNums b := by
  apply ByteArray.ext
  apply Array.ext'
  rw [ByteArray.data_append, Array.toList_append, strOfNums_data, strOfNums_data, strOfNums_data, List.map_append]
/-- bytes of one's own become a text -/
theorem convC {w : World} {base : Nat} {v : Value} {l : List Int} (ho : w.ownsRow base 5 1 v l.length (l.map (Value.int .u8))) : ∃ vo vc, v = .slice vo l.length vc ∧ (convert 73 9 (.slice vo l.length vc)).run Tryz.prog w = .ok (.string (strOfNums l)) w := by
  obtain ⟨vo, vc, gv, rfl, ha, hc⟩ := ownC_cells ho
  refine ⟨vo, vc, rfl, ?_⟩
  by_cases h0 : 0 < l.length
  · rw [(ha h0).1]
    refine run_convert_bytes_arg w 73 5 Tryz.underlying73 Tryz.underlying5 gv 0 l.length vc l rfl (fun i hi => ?_) 9 Tryz.underlying9
    have := hc i (.int .u8 (l.getD i 0)) (by omega) (by simp [List.getD, List.getElem?_eq_getElem hi])
    simpa using this
  · have hl : l = [] := List.eq_nil_of_length_eq_zero (by omega)
    subst hl
    obtain ⟨_, h2⟩ := ho
    rcases h2 with ⟨hv, _⟩ | ⟨g, cap, cur, hv, _⟩
    · cases hv
      exact run_convert_bytes_nil w 73 5 Tryz.underlying73 Tryz.underlying5 0 0 9 Tryz.underlying9
    · cases hv
      exact run_convert_bytes_arg w 73 5 Tryz.underlying73 Tryz.underlying5 g 0 0 vc [] rfl (fun i hi => by omega) 9 Tryz.underlying9

def zl (k : Nat) (z : Nat → Int) : List Int := (List.range k).map z
theorem zl_len (k : Nat) (z : Nat → Int) : (zl k z).length = k := by simp [zl]
theorem zl_snoc (k : Nat) (z : Nat → Int) : zl (k + 1) z = zl k z ++ [z k] := by simp [zl, List.range_succ]
/-- the numbers of an entry -/
def enC (tx : ByteArray) (k : Nat) (z : Nat → Int) : List Int := [(tx.size : Int)] ++ blC tx ++ [(k : Int)] ++ zl k z

set_option maxRecDepth 100000 in
set_option maxHeartbeats 1000000 in
theorem entryText_any (tx : ByteArray) (ao : Option Addr) (k cap b off : Nat) (z : Nat → Int) (w : World) (ht : tx.size ≤ 255) (hk : k ≤ 255) (hz : ∀ j, j < k → 0 ≤ z j ∧ z j ≤ 255) (h : IntsIn w.heap.size w ao k b off z) :
    Calls Tryz.prog 76 #[.agg #[.string tx, .slice ao k cap]] w fun e w' => e = .returned (.string (strOfNums (enC tx k z))) ∧ Below w.heap.size w w' := by
  obtain ⟨i0, hi0, hq0, hq1, hq2⟩ := info_parts infoByteC
  have HI : Hid (IntsIn w.heap.size w ao k b off z) := h
  have HZ : Hid (∀ j, j < k → 0 ≤ z j ∧ z j ≤ 255) := hz
  clear h hz
  have HW : Hid (∀ wr : World, Below (w.alloc (.cells #[.string tx, .slice ao k cap] 63)).heap.size (w.alloc (.cells #[.string tx, .slice ao k cap] 63)) wr → wr.cell? ⟨w.heap.size, 0, none⟩ = some (.string tx) ∧ wr.cell? ⟨w.heap.size, 1, none⟩ = some (.slice ao k cap) ∧ Below w.heap.size w wr ∧ w.heap.size + 1 ≤ wr.heap.size) := fun wr hb => by
    have hr := row_new w #[.string tx, .slice ao k cap] 63 2 rfl
    refine ⟨cellTo hb (hr.cell (i := 0) (by omega)) (by simp), cellTo hb (hr.cell (i := 1) (by omega)) (by simp), below_then (below_one _) hb, by have := hb.size; simpa using this⟩
  have hWs : (w.alloc (.cells #[.string tx, .slice ao k cap] 63)).heap.size = w.heap.size + 1 := size_one _ _
  have HWS : Hid ((w.alloc (.cells #[.string tx, .slice ao k cap] 63)).heap.size = w.heap.size + 1) := hWs
  clear hWs
  have HD : Hid (enC tx k z = [(tx.size : Int)] ++ blC tx ++ [(k : Int)] ++ zl k z) := rfl
  go_enter Tryz.func76, Tryz.ntmps76
  go_wp2_with (first
    | (at_builtin; refine wpList_append_lies _ (by rfl) (.tmp 5) (.tmp 10) 73 (by rfl) (w.heap.size + 1) 5 i0 (.int .u8 0) 1 1 Tryz.underlying73 hi0 hq0 hq1 hq2 rfl (by omega) _ 0 _ (by rfl) (World.ownsRow_nil _ _ _ _) ⟨w.heap.size + 1, 0, none⟩ 1 1 [.int .u8 tx.size] (by rfl) (by rfl) ?c1 ?c2 (by omega) ?c3 ?c5 ?c4 (w.heap.size + 2) (by simp) ?_))
  case c1 => simpa using cell_one_new (w.alloc (.cells #[.string tx, .slice ao k cap] 63)) (.int .u8 tx.size) 5
  case c2 => intro u hu; simp at hu; subst hu; rfl
  case c3 => unfold maxLen; omega
  case c5 => omega
  case c4 => simp
  · intro g1 cap1 w1 hown1 hgrow1 _ _
    have hb1 : Below (w.alloc (.cells #[.string tx, .slice ao k cap] 63)).heap.size (w.alloc (.cells #[.string tx, .slice ao k cap] 63)) w1 := (below_one _).grown hgrow1 (by simp) (fun r hr => by simp [Value.ownBlock] at hr)
    have HB1 : Hid (Below (w.alloc (.cells #[.string tx, .slice ao k cap] 63)).heap.size (w.alloc (.cells #[.string tx, .slice ao k cap] 63)) w1) := hb1
    obtain ⟨c0, c1, _, hz1⟩ := HW.out w1 hb1
    have HO1 : Hid (w1.ownsRow (w.heap.size + 1) 5 1 (.slice (some ⟨g1, 0, none⟩) (0 + 1) cap1) (0 + 1) ([(tx.size : Int)].map (Value.int .u8))) := hown1
    clear hown1 hgrow1 hb1
    go_wp2_with (first
      | (at_builtin; refine Go.Lib.wpList_append_own_string _ (by rfl) (.tmp 12) (.tmp 14) 73 9 (by rfl) (w.heap.size + 1) 5 i0 Tryz.underlying73 Tryz.underlying9 hi0 hq0 hq1 hq2 _ 1 _ (by rfl) HO1.out tx (by rfl) ?d1 ?d2 hz1 ?_))
    case d1 => unfold maxLen; omega
    case d2 => omega
    · intro v2 w2 hown2 hgrow2 _
      have hb2 : Below (w.alloc (.cells #[.string tx, .slice ao k cap] 63)).heap.size (w.alloc (.cells #[.string tx, .slice ao k cap] 63)) w2 := ownC_grown_below HB1.out (by rw [HWS.out]; exact hz1) HO1.out (by rw [HWS.out]; exact Nat.le_refl _) hgrow2
      have HB2 : Hid (Below (w.alloc (.cells #[.string tx, .slice ao k cap] 63)).heap.size (w.alloc (.cells #[.string tx, .slice ao k cap] 63)) w2) := hb2
      obtain ⟨c0', c1', _, hz2⟩ := HW.out w2 hb2
      obtain ⟨ks, hks⟩ : ∃ ks : List Int, ks = [(tx.size : Int)] ++ blC tx := ⟨_, rfl⟩
      have hkl : ks.length = 1 + tx.size := by rw [hks, List.length_append, blC_len]; rfl
      have HKS : Hid (ks = [(tx.size : Int)] ++ blC tx) := hks
      have HO2 : Hid (w2.ownsRow (w.heap.size + 1) 5 1 v2 ks.length (ks.map (Value.int .u8))) := by
        show _
        rw [hkl, hks, List.map_append, ← blC_cells]
        exact hown2
      have hkl' : ks.length ≤ 256 := by omega
      clear hown2 hgrow2 hb2 c0 c1 hks hkl HB1 HO1
      go_wp2_with (first
        | (at_builtin; refine wpList_append_lies _ (by rfl) (.tmp 16) (.tmp 21) 73 (by rfl) (w.heap.size + 1) 5 i0 (.int .u8 0) 1 1 Tryz.underlying73 hi0 hq0 hq1 hq2 rfl (by omega) _ ks.length _ (by rfl) (HO2.out.alloc _) ⟨w2.heap.size, 0, none⟩ 1 1 [.int .u8 k] (by rfl) (by rfl) ?e1 ?e2 (by omega) ?e3 ?e5 ?e4 (w2.heap.size + 1) (by simp) ?_))
      case e1 => exact cell_one_new _ _ _
      case e2 => intro u hu; simp at hu; subst hu; rfl
      case e3 => unfold maxLen; omega
      case e5 => omega
      case e4 => simp; omega
      · intro g3 cap3 w3 hown3 hgrow3 _ _
        have HB3 : Hid (Below (w.alloc (.cells #[.string tx, .slice ao k cap] 63)).heap.size (w.alloc (.cells #[.string tx, .slice ao k cap] 63)) w3) := ownC_grown_below (below_then HB2.out (below_one _)) (by rw [HWS.out]; simp; omega) (HO2.out.alloc _) (by rw [HWS.out]; exact Nat.le_refl _) hgrow3
        have HO3 : Hid (w3.ownsRow (w.heap.size + 1) 5 1 (.slice (some ⟨g3, 0, none⟩) (ks.length + 1) cap3) (ks ++ [(k : Int)]).length ((ks ++ [(k : Int)]).map (Value.int .u8))) := by
          show _
          rw [List.length_append, List.map_append]
          exact hown3
        clear hown3 hgrow3 HB2 HO2 c0' c1'
        go_wp2
        go_loopw [3, 4] (fun v iv wr => ∃ (i : Nat) (us : List Int), Hid (us = (ks ++ [(k : Int)]) ++ zl i z) ∧ i ≤ k ∧ iv = .int .i64 (i : Nat) ∧ Below (w.alloc (.cells #[.string tx, .slice ao k cap] 63)).heap.size (w.alloc (.cells #[.string tx, .slice ao k cap] 63)) wr ∧ wr.ownsRow (w.heap.size + 1) 5 1 v us.length (us.map (Value.int .u8))) (fun _ iv _ => k - (intOf iv).toNat)
        case atStart => exact ⟨0, _, (by show _ = _; rw [show zl 0 z = [] from rfl, List.append_nil]), Nat.zero_le _, rfl, HB3.out, HO3.out⟩
        case round =>
          clear HB3 HO3
          obtain ⟨i, us, HUS, hi, rfl, hbel, hown⟩ := hrel
          have HOW : Hid (wr.ownsRow (w.heap.size + 1) 5 1 _ us.length (us.map (Value.int .u8))) := hown
          have HBR : Hid (Below (w.alloc (.cells #[.string tx, .slice ao k cap] 63)).heap.size (w.alloc (.cells #[.string tx, .slice ao k cap] 63)) wr) := hbel
          obtain ⟨c0, c1, hbw, hzr⟩ := HW.out wr hbel
          have hul : us.length ≤ 1000 := by rw [HUS.out, List.length_append, List.length_append, zl_len]; simp; omega
          clear hown hbel
          by_cases hlt : i < k
          · rw [HI.out.addr (by omega)] at c1
            have z0 := cellTo hbw (HI.out.cell i hlt) (HI.out.lt (by omega))
            have hbb := HI.out.lt (by omega)
            have hzi := HZ.out i hlt
            obtain ⟨x, hx⟩ : ∃ x, x = z i := ⟨_, rfl⟩
            rw [← hx] at z0 hzi
            have HX : Hid (x = z i) := hx
            clear hx
            go_wp2_with (first
              | (at_builtin; refine wpList_append_lies _ (by rfl) (.tmp 30) (.tmp 37) 73 (by rfl) (w.heap.size + 1) 5 i0 (.int .u8 0) 1 1 Tryz.underlying73 hi0 hq0 hq1 hq2 rfl (by omega) _ us.length _ (by rfl) (HOW.out.alloc _) ⟨wr.heap.size, 0, none⟩ 1 1 [.int .u8 x] (by rfl) (by rfl) ?f1 ?f2 (by omega) ?f3 ?f5 ?f4 (wr.heap.size + 1) (by simp) ?_))
            case f1 => exact cell_one_new _ _ _
            case f2 => intro u hu; simp at hu; subst hu; rfl
            case f3 => unfold maxLen; omega
            case f5 => omega
            case f4 => simp; omega
            · intro g4 cap4 w4 hown4 hgrow4 _ _
              have HB4 : Hid (Below (w.alloc (.cells #[.string tx, .slice ao k cap] 63)).heap.size (w.alloc (.cells #[.string tx, .slice ao k cap] 63)) w4) := ownC_grown_below (below_then HBR.out (below_one _)) (by rw [HWS.out]; simp; omega) (HOW.out.alloc _) (by rw [HWS.out]; exact Nat.le_refl _) hgrow4
              have HO4 : Hid (w4.ownsRow (w.heap.size + 1) 5 1 (.slice (some ⟨g4, 0, none⟩) (us.length + 1) cap4) (us ++ [x]).length ((us ++ [x]).map (Value.int .u8))) := by
                show _
                rw [List.length_append, List.map_append]
                exact hown4
              clear hown4 hgrow4 c0 c1 z0
              go_wp2
              go_roundw
              case rel => exact ⟨i + 1, us ++ [x], (by show _ = _; rw [zl_snoc, HUS.out, ← HX.out]; simp only [List.append_assoc]), by omega, by go_num, HB4.out, HO4.out⟩
              case measure => simp [intOf]; omega
          · have hie : i = k := by omega
            subst hie
            obtain ⟨vo9, vc9, hv9, hcv⟩ := convC HOW.out
            subst hv9
            have HE : Hid (us = enC tx i z) := by show _ = _; rw [HUS.out, HKS.out, HD.out]
            have HBW : Hid (Below w.heap.size w wr) := hbw
            clear hbw
            go_wp2
            go_ret
            exact ⟨by rw [← HE.out]; rfl, HBW.out⟩

end Go.Proofs.YtpclldccjpncdabGreat

namespace Go.Proofs.YtpclldccjpncdabGreat
open Go.RowKit

/-- the eight bytes that want a backslash, in the document's order -/
def sgl : List Int := [32, 38, 60, 61, 47, 91, 93, 92]
/-- a byte that stands for itself only behind a backslash -/
def sp (c : Int) : Bool := sgl.contains c

set_option maxRecDepth 100000 in
set_option maxHeartbeats 1000000 in
theorem special_any (c : Int) (w : World) : Calls Tryz.prog 84 #[.int .u8 c] w fun e w' => e = .returned (.bool (sp c)) ∧ w' = w := by
  go_enter Tryz.func84, Tryz.ntmps84
  go_wp2
  go_loopw [3] (fun iv wr => ∃ i : Nat, i ≤ 8 ∧ iv = .int .i64 (i : Nat) ∧ wr = w ∧ Hid (∀ j, j < i → sgl.getD j 0 ≠ c)) (fun iv _ => 8 - (intOf iv).toNat)
  case atStart => exact ⟨0, Nat.zero_le _, rfl, rfl, fun j hj => by omega⟩
  case round =>
    obtain ⟨i, hi, rfl, hw, HN⟩ := hrel
    obtain rfl := hw.symm
    clear hw
    have q0 : ((({ data := #[32, 38, 60, 61, 47, 91, 93, 92] } : ByteArray)[0]'(by decide)).toNat : Int) = 32 := rfl
    have q1 : ((({ data := #[32, 38, 60, 61, 47, 91, 93, 92] } : ByteArray)[1]'(by decide)).toNat : Int) = 38 := rfl
    have q2 : ((({ data := #[32, 38, 60, 61, 47, 91, 93, 92] } : ByteArray)[2]'(by decide)).toNat : Int) = 60 := rfl
    have q3 : ((({ data := #[32, 38, 60, 61, 47, 91, 93, 92] } : ByteArray)[3]'(by decide)).toNat : Int) = 61 := rfl
    have q4 : ((({ data := #[32, 38, 60, 61, 47, 91, 93, 92] } : ByteArray)[4]'(by decide)).toNat : Int) = 47 := rfl
    have q5 : ((({ data := #[32, 38, 60, 61, 47, 91, 93, 92] } : ByteArray)[5]'(by decide)).toNat : Int) = 91 := rfl
    have q6 : ((({ data := #[32, 38, 60, 61, 47, 91, 93, 92] } : ByteArray)[6]'(by decide)).toNat : Int) = 93 := rfl
    have q7 : ((({ data := #[32, 38, 60, 61, 47, 91, 93, 92] } : ByteArray)[7]'(by decide)).toNat : Int) = 92 := rfl
    by_cases hlt : i < 8
    · by_cases hc : sgl.getD i 0 = c
      · have HS : Hid (true = sp c) := by
          show true = sp c
          rw [← hc]
          have : i = 0 ∨ i = 1 ∨ i = 2 ∨ i = 3 ∨ i = 4 ∨ i = 5 ∨ i = 6 ∨ i = 7 := by omega
          rcases this with rfl | rfl | rfl | rfl | rfl | rfl | rfl | rfl <;> rfl
        have : i = 0 ∨ i = 1 ∨ i = 2 ∨ i = 3 ∨ i = 4 ∨ i = 5 ∨ i = 6 ∨ i = 7 := by omega
        rcases this with rfl | rfl | rfl | rfl | rfl | rfl | rfl | rfl
        all_goals
          simp [sgl] at hc
          subst hc
          go_wp2
          go_ret
          exact ⟨by rw [← HS.out]; rfl, rfl⟩
      · have HN' : Hid (∀ j, j < i + 1 → sgl.getD j 0 ≠ c) := fun j hj => by
          by_cases e : j = i
          · rw [e]; exact hc
          · exact HN.out j (by omega)
        have : i = 0 ∨ i = 1 ∨ i = 2 ∨ i = 3 ∨ i = 4 ∨ i = 5 ∨ i = 6 ∨ i = 7 := by omega
        rcases this with rfl | rfl | rfl | rfl | rfl | rfl | rfl | rfl
        all_goals
          simp [sgl] at hc
          have hc' := beq_eq_false_iff_ne.2 hc
          clear hc
          go_wp2
          go_roundw
          case rel => exact ⟨_, by omega, by go_num, by trivial, HN'⟩
          case measure => simp [intOf]
    · have hie : i = 8 := by omega
      subst hie
      have HS : Hid (false = sp c) := by
        show false = sp c
        have h0 := HN.out 0 (by omega)
        have h1 := HN.out 1 (by omega)
        have h2 := HN.out 2 (by omega)
        have h3 := HN.out 3 (by omega)
        have h4 := HN.out 4 (by omega)
        have h5 := HN.out 5 (by omega)
        have h6 := HN.out 6 (by omega)
        have h7 := HN.out 7 (by omega)
        simp [sgl] at h0 h1 h2 h3 h4 h5 h6 h7
        simp [sp, sgl]
        omega
      go_wp2
      go_ret
      exact ⟨by rw [← HS.out]; rfl, rfl⟩

/-- a part as it is written -/
def quo (l : List Int) : List Int := l.flatMap fun c => if sp c then [92, c] else [c]
theorem quo_snoc (l : List Int) (c : Int) : quo (l ++ [c]) = quo l ++ (if sp c then [92, c] else [c]) := by simp [quo]
theorem quo_len : ∀ l : List Int, (quo l).length ≤ l.length * 2
  | [] => by simp [quo]
  | c :: l => by
    have := quo_len l
    have h2 : (if sp c then [92, c] else [c]).length ≤ 2 := by split <;> simp
    have h3 : quo (c :: l) = (if sp c then [92, c] else [c]) ++ quo l := by simp [quo]
    rw [h3, List.length_append, List.length_cons]
    omega
theorem blC_at (s : ByteArray) (i : Nat) (h : i < s.size) : (blC s).getD i 0 = ((s[i]'h).toNat : Int) := by
  have h' : i < s.data.size := h
  rw [blC, List.getD_eq_getElem?_getD, List.getElem?_map, Array.getElem?_toList, Array.getElem?_eq_getElem h']
  rfl
theorem blC_take (s : ByteArray) (i : Nat) (h : i < s.size) : (blC s).take (i + 1) = (blC s).take i ++ [((s[i]'h).toNat : Int)] := by
  have hl : i < (blC s).length := by rw [blC_len]; exact h
  rw [List.take_succ_eq_append_getElem hl]
  congr 2
  have := blC_at s i h
  rw [List.getD, List.getElem?_eq_getElem hl] at this
  exact this

set_option maxRecDepth 100000 in
set_option maxHeartbeats 1000000 in
theorem quoted_any (s : ByteArray) (w : World) (hs : s.size ≤ 1000) :
    Calls Tryz.prog 59 #[.string s] w fun e w' => e = .returned (.string (strOfNums (quo (blC s)))) ∧ Below w.heap.size w w' := by
  obtain ⟨i0, hi0, hq0, hq1, hq2⟩ := info_parts infoByteC
  go_enter Tryz.func59, Tryz.ntmps59
  go_wp2
  go_loopw [3, 4] (fun v iv wr => ∃ (i : Nat) (us : List Int), Hid (us = quo ((blC s).take i)) ∧ i ≤ s.size ∧ iv = .int .i64 (i : Nat) ∧ Below w.heap.size w wr ∧ wr.ownsRow w.heap.size 5 1 v us.length (us.map (Value.int .u8))) (fun _ iv _ => s.size - (intOf iv).toNat)
  case atStart => exact ⟨0, [], rfl, Nat.zero_le _, rfl, Below.refl _ _, World.ownsRow_nil _ _ _ _⟩
  case round =>
    obtain ⟨i, us, HUS, hi, rfl, hbel, hown⟩ := hrel
    have HOW : Hid (wr.ownsRow w.heap.size 5 1 _ us.length (us.map (Value.int .u8))) := hown
    have hul : us.length ≤ 2000 := by
      have := quo_len ((blC s).take i)
      rw [HUS.out]
      have h2 := List.length_take_le i (blC s)
      omega
    clear hown
    have hsz := hbel.size
    by_cases hlt : i < s.size
    · obtain ⟨x, hx⟩ : ∃ x : Nat, x = (s[i]'hlt).toNat := ⟨_, rfl⟩
      have hxs : ((s[i]'hlt).toNat : Int) = x := by rw [hx]
      have hxb : x ≤ 255 := by rw [hx]; have := UInt8.toNat_lt (s[i]'hlt); omega
      have HTK : Hid ((blC s).take (i + 1) = (blC s).take i ++ [(x : Int)]) := by show _ = _; rw [blC_take s i hlt, hxs]
      clear hx
      by_cases hsp : sp x = true
      · have HUN : Hid (us ++ [92] ++ [(x : Int)] = quo ((blC s).take (i + 1))) := by show _ = _; rw [HTK.out, quo_snoc, if_pos hsp, HUS.out]; simp
        go_wp2_with fail
        refine (special_any x _).mono ?_
        rintro e w1 ⟨rfl, hw1⟩
        obtain rfl := hw1.symm
        rw [hsp]
        go_wp2_with (first
          | (at_builtin; refine wpList_append_lies _ (by rfl) (.tmp 17) (.tmp 18) 73 (by rfl) w.heap.size 5 i0 (.int .u8 0) 1 1 Tryz.underlying73 hi0 hq0 hq1 hq2 rfl (by omega) _ us.length _ (by rfl) (HOW.out.alloc _) ⟨wr.heap.size, 0, none⟩ 1 1 [.int .u8 92] (by rfl) (by rfl) ?c1 ?c2 (by omega) ?c3 ?c5 ?c4 (wr.heap.size + 1) (by simp) ?_))
        case c1 => exact cell_one_new _ _ _
        case c2 => intro u hu; simp at hu; subst hu; rfl
        case c3 => unfold maxLen; omega
        case c5 => omega
        case c4 => simp; omega
        · intro g2 cap2 w2 hown2 hgrow2 _ _
          have HB2 : Hid (Below w.heap.size w w2) := ownC_grown_below (hbel.alloc hsz _) (by simp; omega) (HOW.out.alloc _) (Nat.le_refl _) hgrow2
          have HO2 : Hid (w2.ownsRow w.heap.size 5 1 (.slice (some ⟨g2, 0, none⟩) (us.length + 1) cap2) (us ++ [92]).length ((us ++ [92]).map (Value.int .u8))) := by
            show _
            rw [List.length_append, List.map_append]
            exact hown2
          obtain ⟨us2, hus2⟩ : ∃ x : List Int, x = us ++ [92] := ⟨_, rfl⟩
          rw [← hus2] at HO2 HUN
          have hu2l : us2.length = us.length + 1 := by rw [hus2]; simp
          have hz2 := hgrow2.size
          simp at hz2
          rw [← hu2l] at HO2 ⊢
          have hul2 : us2.length ≤ 2001 := by omega
          clear hown2 hgrow2 hus2 hu2l
          go_wp2_with (first
            | (at_builtin; refine wpList_append_lies _ (by rfl) (.tmp 20) (.tmp 24) 73 (by rfl) w.heap.size 5 i0 (.int .u8 0) 1 1 Tryz.underlying73 hi0 hq0 hq1 hq2 rfl (by omega) _ us2.length _ (by rfl) (HO2.out.alloc _) ⟨w2.heap.size, 0, none⟩ 1 1 [.int .u8 x] (by rfl) (by rfl) ?d1 ?d2 (by omega) ?d3 ?d5 ?d4 (w2.heap.size + 1) (by simp) ?_))
          case d1 => exact cell_one_new _ _ _
          case d2 => intro u hu; simp at hu; subst hu; rfl
          case d3 => unfold maxLen; omega
          case d5 => omega
          case d4 => simp; omega
          · intro g3 cap3 w3 hown3 hgrow3 _ _
            have HB3 : Hid (Below w.heap.size w w3) := ownC_grown_below (below_then HB2.out (below_one _)) (by simp; omega) (HO2.out.alloc _) (Nat.le_refl _) hgrow3
            have HO3 : Hid (w3.ownsRow w.heap.size 5 1 (.slice (some ⟨g3, 0, none⟩) (us2.length + 1) cap3) (us2 ++ [(x : Int)]).length ((us2 ++ [(x : Int)]).map (Value.int .u8))) := by
              show _
              rw [List.length_append, List.map_append]
              exact hown3
            clear hown3 hgrow3
            go_wp2
            go_roundw
            case rel => exact ⟨i + 1, us2 ++ [(x : Int)], HUN.out, by omega, by go_num, HB3.out, HO3.out⟩
            case measure => simp [intOf]; omega
      · have hsp' : sp x = false := by simpa using hsp
        have HUN : Hid (us ++ [(x : Int)] = quo ((blC s).take (i + 1))) := by show _ = _; rw [HTK.out, quo_snoc, if_neg hsp, HUS.out]
        clear hsp
        go_wp2_with fail
        refine (special_any x _).mono ?_
        rintro e w1 ⟨rfl, hw1⟩
        obtain rfl := hw1.symm
        rw [hsp']
        go_wp2_with (first
          | (at_builtin; refine wpList_append_lies _ (by rfl) (.tmp 20) (.tmp 24) 73 (by rfl) w.heap.size 5 i0 (.int .u8 0) 1 1 Tryz.underlying73 hi0 hq0 hq1 hq2 rfl (by omega) _ us.length _ (by rfl) (HOW.out.alloc _) ⟨wr.heap.size, 0, none⟩ 1 1 [.int .u8 x] (by rfl) (by rfl) ?d1 ?d2 (by omega) ?d3 ?d5 ?d4 (wr.heap.size + 1) (by simp) ?_))
        case d1 => exact cell_one_new _ _ _
        case d2 => intro u hu; simp at hu; subst hu; rfl
        case d3 => unfold maxLen; omega
        case d5 => omega
        case d4 => simp; omega
        · intro g3 cap3 w3 hown3 hgrow3 _ _
          have HB3 : Hid (Below w.heap.size w w3) := ownC_grown_below (hbel.alloc hsz _) (by simp; omega) (HOW.out.alloc _) (Nat.le_refl _) hgrow3
          have HO3 : Hid (w3.ownsRow w.heap.size 5 1 (.slice (some ⟨g3, 0, none⟩) (us.length + 1) cap3) (us ++ [(x : Int)]).length ((us ++ [(x : Int)]).map (Value.int .u8))) := by
            show _
            rw [List.length_append, List.map_append]
            exact hown3
          clear hown3 hgrow3
          go_wp2
          go_roundw
          case rel => exact ⟨i + 1, us ++ [(x : Int)], HUN.out, by omega, by go_num, HB3.out, HO3.out⟩
          case measure => simp [intOf]; omega
    · have hie : i = s.size := by omega
      subst hie
      obtain ⟨vo9, vc9, hv9, hcv⟩ := convC HOW.out
      subst hv9
      have HE : Hid (us = quo (blC s)) := by
        show _ = _
        rw [HUS.out, List.take_of_length_le (by rw [blC_len]; exact Nat.le_refl _)]
      go_wp2
      go_ret
      exact ⟨by rw [← HE.out]; rfl, hbel⟩

end Go.Proofs.YtpclldccjpncdabGreat
