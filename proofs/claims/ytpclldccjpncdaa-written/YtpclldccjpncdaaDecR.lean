import Derived.Test.YtpclldccjpncdaaDecQ
namespace Go.Proofs.Ytpclldccjpncdaa
open Go.RowKit

def ndL (s : ByteArray) (k : Nat) : List Value := (List.range k).flatMap fun i => [.int .i64 (dp s i), .int .i64 (ds s i), .int .i64 (dt s i)]
theorem ndL_snoc (s : ByteArray) (k : Nat) : ndL s (k + 1) = ndL s k ++ [.int .i64 (dp s k), .int .i64 (ds s k), .int .i64 (dt s k)] := by simp [ndL, List.range_succ]
theorem bt_sub {s : ByteArray} {p h q : Nat} (hp : p + h ≤ s.size) (hq : q < h) : bt (sub s p h) q = bt s (p + q) := by
  rw [bt_in (by rw [sub_size _ _ _ hp]; exact hq), bt_in (by omega)]
  simp [sub, ByteArray.getElem_extract]
theorem nodes3_sub {s : ByteArray} (n : Nat) (h : 1 + n * 3 ≤ s.size) : ∀ k, k ≤ n → nodes3 (sub s 1 (n * 3)) k = ndL s k
  | 0, _ => rfl
  | k + 1, hk => by
    rw [nodes3_snoc, ndL_snoc, nodes3_sub n h k (by omega), bt_sub h (by omega), bt_sub h (by omega), bt_sub h (by omega)]
    rfl

/-- a table that was read, in lists of one's own -/
structure Told (s : ByteArray) (B : Nat) (vn ve : Value) (vs : Nat → Option Addr) (cs : Nat → Nat) (w : World) : Prop where
  nodes : w.ownsRow B 60 3 vn (dn s) (ndL s (dn s))
  row : w.ownsRow B 64 2 ve (dm s) (entC (dtx s) (dk s) vs cs (dm s))
  ents : EntsO B (dk s) (dz s) (dm s) vs cs w
theorem Told.only {s : ByteArray} {B g : Nat} {vn ve : Value} {vs : Nat → Option Addr} {cs : Nat → Nat} {w w' : World} (h : Told s B vn ve vs cs w) (hO : OnlyRow g w w') (hg : g < B) : Told s B vn ve vs cs w' := by
  refine ⟨own_only hO h.nodes fun e => ?_, own_only hO h.row fun e => ?_, fun j hj => own_only hO (h.ents.own j hj) fun e => ?_, h.ents.apart⟩
  · have := (ownC_lt h.nodes e).2; omega
  · have := (ownC_lt h.row e).2; omega
  · have := (ownC_lt (h.ents.own j hj) e).2; omega
theorem Told.base {s : ByteArray} {B B' : Nat} {vn ve : Value} {vs : Nat → Option Addr} {cs : Nat → Nat} {w : World} (h : Told s B vn ve vs cs w) (hB : B' ≤ B) : Told s B' vn ve vs cs w := ⟨ownC_base h.nodes hB, ownC_base h.row hB, h.ents.base hB⟩
theorem Told.below {s : ByteArray} {B : Nat} {vn ve : Value} {vs : Nat → Option Addr} {cs : Nat → Nat} {w w' : World} (h : Told s B vn ve vs cs w) (hb : Below w.heap.size w w') : Told s B vn ve vs cs w' := ⟨ownC_below h.nodes hb, ownC_below h.row hb, h.ents.below hb⟩

set_option maxRecDepth 100000 in
set_option maxHeartbeats 1000000 in
theorem readTable_any (s : ByteArray) (w : World) (hs : s.size ≤ 140737488351232) :
    Calls Try.prog 47 #[.string s] w fun e w' => Below w.heap.size w w' ∧
      ((good s ∧ ∃ vn ve vs cs, e = .returned (.tuple #[.agg #[vn, ve], .bool true]) ∧ Told s w.heap.size vn ve vs cs w') ∨
       (¬ good s ∧ e = .returned (.tuple #[.agg #[.slice none 0 0, .slice none 0 0], .bool false]))) := by
  have HR : Hid ((w.alloc (.cells #[.slice none 0 0, .slice none 0 0] 26)).rowIs w.heap.size 26 2 (fun i => #[Value.slice none 0 0, .slice none 0 0].getD i undef)) := row_new _ _ _ 2 rfl
  have hb0 := bt_le s 0
  obtain ⟨n, hn⟩ : ∃ n, n = dn s := ⟨_, rfl⟩
  obtain ⟨q, hq⟩ : ∃ q, q = q0 s := ⟨_, rfl⟩
  have hq' : q = 1 + n * 3 := by rw [hq, q0, hn]
  have hnb : n = bt s 0 := hn
  rw [← hnb] at hb0
  have HN : Hid (n = dn s) := hn
  by_cases h1 : s.size ≤ 0 ∨ s.size < 1 + n * 3
  · have HC : ∀ w, Calls Try.prog 57 #[.string s, .int .i64 0, .int .i64 3] w fun e w' => e = .returned (.tuple #[.string ByteArray.empty, .int .i64 0, .bool false]) ∧ w' = w := fun w => counted_no s 0 3 w hs (.inr rfl) (by omega) (by rw [← hnb]; omega)
    have HC' : Hid (∀ w, Calls Try.prog 57 #[.string s, .int .i64 0, .int .i64 3] w fun e w' => e = .returned (.tuple #[.string ByteArray.empty, .int .i64 0, .bool false]) ∧ w' = w) := HC
    have HB : Hid (¬ good s) := bad_nodes (by rw [← hq]; omega)
    clear HC hn hnb hq hq' h1
    go_enter Try.func47, Try.ntmps47
    go_wp2_with fail
    refine (HC'.out _).mono ?_
    rintro e w1 ⟨rfl, rfl⟩
    go_wp2
    refine bodyPost_ret (resC2 rfl _ w.heap.size _ _ (by rfl) HR.out Try.underlying26 rfl sizeTabC) rfl ?_
    exact ⟨below_one _, .inr ⟨HB.out, rfl⟩⟩
  · obtain ⟨u, hu⟩ : ∃ u, u = sub s 1 (n * 3) := ⟨_, rfl⟩
    have HC : ∀ w, Calls Try.prog 57 #[.string s, .int .i64 0, .int .i64 3] w fun e w' => e = .returned (.tuple #[.string u, .int .i64 (q : Nat), .bool true]) ∧ w' = w := fun w => by
      have := counted_yes s 0 3 w hs (.inr rfl) (by omega) (by rw [← hnb]; omega)
      rw [← hnb, Nat.zero_add, ← hq', ← hu] at this
      exact this
    have HC' : Hid (∀ w, Calls Try.prog 57 #[.string s, .int .i64 0, .int .i64 3] w fun e w' => e = .returned (.tuple #[.string u, .int .i64 (q : Nat), .bool true]) ∧ w' = w) := HC
    have HU : Hid (u.size = n * 3) := by show _ = _; rw [hu]; exact sub_size _ _ _ (by omega)
    have HU3 : Hid (nodes3 u n = ndL s n) := by show _ = _; rw [hu]; exact nodes3_sub n (by omega) n (Nat.le_refl _)
    have HRE : Hid (∀ w : World, Calls Try.prog 58 #[.string s, .int .i64 (q : Nat)] w fun e w' => Below w.heap.size w w' ∧
      ((epos s (dm s) ≤ s.size ∧ ∃ v vs cs, e = .returned (.tuple #[v, .int .i64 (epos s (dm s) : Nat), .bool true]) ∧ w'.ownsRow w.heap.size 64 2 v (dm s) (entC (dtx s) (dk s) vs cs (dm s)) ∧ EntsO w.heap.size (dk s) (dz s) (dm s) vs cs w') ∨
       (¬ good s ∧ e = .returned (.tuple #[.slice none 0 0, .int .i64 0, .bool false])))) := fun w => by
      rw [hq]
      exact readEntries_any s w hs (by rw [← hq]; omega)
    have hqs : q ≤ s.size := by omega
    clear HC hn hnb hq hu hq'
    go_enter Try.func47, Try.ntmps47
    go_wp2_with fail
    refine (HC'.out _).mono ?_
    rintro e w1 ⟨rfl, rfl⟩
    go_wp2_with fail
    refine (HRE.out _).mono ?_
    rintro e w1 ⟨hb1, ⟨hle, v, vs, cs, rfl, hrow, hent⟩ | ⟨hbad, rfl⟩⟩
    · simp only [size_one] at hrow hent
      have HROW : Hid (w1.ownsRow (w.heap.size + 1) 64 2 v (dm s) (entC (dtx s) (dk s) vs cs (dm s))) := hrow
      have HENT : Hid (EntsO (w.heap.size + 1) (dk s) (dz s) (dm s) vs cs w1) := hent
      have HR1 : Hid (w1.rowIs w.heap.size 26 2 (fun i => #[Value.slice none 0 0, .slice none 0 0].getD i undef)) := HR.out.of_block (hb1.block _ (by simp))
      have HB1 : Hid (Below w.heap.size w w1) := below_then (below_one _) hb1
      obtain ⟨p, hp⟩ : ∃ p, p = epos s (dm s) := ⟨_, rfl⟩
      have HP : Hid (p = epos s (dm s)) := hp
      rw [← hp] at hle
      have hz1 : w.heap.size < w1.heap.size := by have := hb1.size; simp at this; omega
      rw [← hp]
      clear hrow hent hp hb1 HRE HC'
      by_cases hg : p = s.size
      · have HG : Hid (good s) := by show _ = _; rw [← HP.out]; exact hg
        have hg' : ((p : Int) == (s.size : Int)) = true := by simp [hg]
        have HNF : Hid (∀ w, Calls Try.prog 59 #[.string u] w fun e w' => ∃ v, e = .returned v ∧ w'.ownsRow w.heap.size 60 3 v n (nodes3 u n) ∧ Below w.heap.size w w') := fun w => nodesFrom_any u n w HU.out (by omega)
        clear hg
        go_wp2_with fail
        refine (HNF.out _).mono ?_
        rintro e w2 ⟨vn, rfl, hnod, hb2⟩
        rw [HU3.out, HN.out] at hnod
        obtain ⟨v1, hv1⟩ : ∃ x, x = vn := ⟨_, rfl⟩
        obtain ⟨ve, hve⟩ : ∃ x, x = v := ⟨_, rfl⟩
        have hr2 : w2.rowIs w.heap.size 26 2 (fun i => #[Value.slice none 0 0, .slice none 0 0].getD i undef) := HR1.out.of_block (hb2.block _ hz1)
        have HR2 : Hid (w2.rowIs w.heap.size 26 2 (fun i => #[Value.slice none 0 0, .slice none 0 0].getD i undef)) := hr2
        have c0 := hr2.cell (i := 0) (by omega)
        have c1 := hr2.cell (i := 1) (by omega)
        have f0 := hr2.frozen 0
        have f1 := hr2.frozen 1
        obtain ⟨no, nc, hvn⟩ := ownC_shape hnod
        subst hvn
        obtain ⟨eo, ec, hvv⟩ := ownC_shape HROW.out
        subst hvv
        have HT : Hid (Told s (w.heap.size + 1) (.slice no (dn s) nc) (.slice eo (dm s) ec) vs cs w2) := ⟨ownC_base hnod (by omega), ownC_below HROW.out hb2, HENT.out.below hb2⟩
        have HB2 : Hid (Below w.heap.size w w2) := below_then HB1.out hb2
        obtain ⟨dnn, hdn⟩ : ∃ x, x = dn s := ⟨_, rfl⟩
        obtain ⟨dmm, hdm⟩ : ∃ x, x = dm s := ⟨_, rfl⟩
        rw [← hdn, ← hdm] at HT
        rw [← hdn, ← hdm]
        clear hr2 hb2 hnod hv1 hve HROW HENT HR1 HR HNF hdn hdm
        go_wp2
        refine bodyPost_ret (resC2 rfl _ w.heap.size _ _ (by rfl) ((HR2.out.set 0 (.slice no dnn nc)).set 1 (.slice eo dmm ec)) Try.underlying26 rfl sizeTabC) rfl ?_
        have hO : OnlyRow w.heap.size w2 ((w2.setCell ⟨w.heap.size, 0, none⟩ (.slice no dnn nc)).setCell ⟨w.heap.size, 1, none⟩ (.slice eo dmm ec)) := (OnlyRow.setCell _ _ _ _).trans (OnlyRow.setCell _ _ _ _)
        exact ⟨hO.below HB2.out (Nat.le_refl _), .inl ⟨HG.out, _, _, vs, cs, rfl, (HT.out.only hO (by omega)).base (by omega)⟩⟩
      · have HG : Hid (¬ good s) := by show ¬ _; unfold good; rw [← HP.out]; exact hg
        have hg' : ((p : Int) == (s.size : Int)) = false := by simp; omega
        clear hg
        have r0 := HR1.out.cell (i := 0) (by omega)
        have r1 := HR1.out.cell (i := 1) (by omega)
        have f0 := HR1.out.frozen 0
        have f1 := HR1.out.frozen 1
        go_wp2
        refine bodyPost_ret (resC2 rfl _ w.heap.size _ _ (by rfl) ((HR1.out.set 0 (.slice none 0 0)).set 1 (.slice none 0 0)) Try.underlying26 rfl sizeTabC) rfl ?_
        have hO : OnlyRow w.heap.size w1 ((w1.setCell ⟨w.heap.size, 0, none⟩ (.slice none 0 0)).setCell ⟨w.heap.size, 1, none⟩ (.slice none 0 0)) := (OnlyRow.setCell _ _ _ _).trans (OnlyRow.setCell _ _ _ _)
        exact ⟨hO.below HB1.out (Nat.le_refl _), .inr ⟨HG.out, rfl⟩⟩
    · have HB : Hid (¬ good s) := hbad
      have HR1 : Hid (w1.rowIs w.heap.size 26 2 (fun i => #[Value.slice none 0 0, .slice none 0 0].getD i undef)) := HR.out.of_block (hb1.block _ (by simp))
      have HB1 : Hid (Below w.heap.size w w1) := below_then (below_one _) hb1
      clear hbad hb1 HRE HC'
      have r0 := HR1.out.cell (i := 0) (by omega)
      have r1 := HR1.out.cell (i := 1) (by omega)
      have f0 := HR1.out.frozen 0
      have f1 := HR1.out.frozen 1
      go_wp2
      refine bodyPost_ret (resC2 rfl _ w.heap.size _ _ (by rfl) ((HR1.out.set 0 (.slice none 0 0)).set 1 (.slice none 0 0)) Try.underlying26 rfl sizeTabC) rfl ?_
      have hO : OnlyRow w.heap.size w1 ((w1.setCell ⟨w.heap.size, 0, none⟩ (.slice none 0 0)).setCell ⟨w.heap.size, 1, none⟩ (.slice none 0 0)) := (OnlyRow.setCell _ _ _ _).trans (OnlyRow.setCell _ _ _ _)
      exact ⟨hO.below HB1.out (Nat.le_refl _), .inr ⟨HB.out, rfl⟩⟩
end Go.Proofs.Ytpclldccjpncdaa
