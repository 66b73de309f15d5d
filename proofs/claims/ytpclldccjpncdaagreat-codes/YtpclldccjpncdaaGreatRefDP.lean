import Derived.Test.YtpclldccjpncdaaGreatDecS
import Derived.Test.YtpclldccjpncdaaGreatRefCut
namespace Go.Proofs.YtpclldccjpncdaaGreat
open Go.RowKit

/-- what is left at a place, also behind the end -/
def rs (s : ByteArray) (P : Nat) : ByteArray := if P ≤ s.size then rest s P else ByteArray.empty
theorem rs_in {s : ByteArray} {P : Nat} (h : P ≤ s.size) : rs s P = rest s P := by simp [rs, h]
theorem rs_out {s : ByteArray} {P : Nat} (h : s.size < P) : rs s P = ByteArray.empty := by simp [rs, Nat.not_le.2 h]
theorem rs_size (s : ByteArray) (P : Nat) : (rs s P).size = s.size - P := by
  by_cases h : P ≤ s.size
  · rw [rs_in h, rest_size]
  · rw [rs_out (by omega)]
    have : ByteArray.empty.size = 0 := rfl
    omega
theorem empty_extract (a b : Nat) : ByteArray.empty.extract a b = ByteArray.empty := by
  apply ByteArray.ext
  simp [ByteArray.extract, ByteArray.copySlice]
theorem rs_take {s : ByteArray} {P n : Nat} (h : n ≤ s.size - P) : (rs s P).extract 0 n = tak s P n := by
  by_cases hP : P ≤ s.size
  · rw [rs_in hP, rest_sub s P n (by omega), tak_in (by omega)]
  · rw [rs_out (by omega), empty_extract, tak, if_neg (by omega)]
theorem rs_drop {s : ByteArray} {P n : Nat} (h : n ≤ s.size - P) : (rs s P).extract n (rs s P).size = rs s (P + n) := by
  by_cases hP : P ≤ s.size
  · rw [rs_in hP, rest_rest, rs_in (by omega)]
  · rw [rs_out (by omega), empty_extract, rs_out (by omega)]

/-- the reader at a place -/
def BSt (s : ByteArray) (P G : Nat) (w : World) : Prop := w.rowIs G 76 2 (fun j => #[Value.string (rs s P), .bool (decide (P ≤ s.size))].getD j undef)
theorem BSt.cells {s : ByteArray} {P G : Nat} {w : World} (h : BSt s P G w) : w.cell? ⟨G, 0, none⟩ = some (.string (rs s P)) ∧ w.cell? ⟨G, 1, none⟩ = some (.bool (decide (P ≤ s.size))) ∧ w.frozen? ⟨G, 0, none⟩ = false ∧ w.frozen? ⟨G, 1, none⟩ = false :=
  ⟨World.rowIs.cell h (i := 0) (by omega), World.rowIs.cell h (i := 1) (by omega), World.rowIs.frozen h 0, World.rowIs.frozen h 1⟩

theorem only_grown {g : Nat} {w w' : World} (h : OnlyRow g w w') : w.grownBy w' (some g) :=
  ⟨h.os, h.tape, h.output, by rw [h.size]; exact Nat.le_refl _, fun k _ hk => h.block k fun e => hk (by rw [e])⟩

set_option maxHeartbeats 1000000 in
theorem take_any (s : ByteArray) (P G n : Nat) (w : World) (hs : s.size ≤ 140737488351232) (hn : n ≤ 255) (h : BSt s P G w) :
    Calls Tryz.prog 54 #[.pointer (some ⟨G, 0, none⟩), .int .i64 (n : Nat)] w fun e w' => e = .returned (.string (tak s P n)) ∧ BSt s (P + n) G w' ∧ w.grownBy w' (some G) := by
  obtain ⟨c0, c1, f0, f1⟩ := h.cells
  have HB : Hid (BSt s P G w) := h
  have hrs := rs_size s P
  obtain ⟨r, hr⟩ : ∃ r, r = rs s P := ⟨_, rfl⟩
  rw [← hr] at c0 hrs
  have HR : Hid (r = rs s P) := hr
  have hrl : r.size ≤ 140737488351232 := by omega
  clear h hr
  by_cases hc : r.size < n
  · have HT : Hid (tak s P n = ByteArray.empty) := by show _ = _; rw [tak, if_neg (by omega)]
    have HP : Hid (s.size < P + n) := by show _ < _; omega
    clear hrs
    go_enter Tryz.func54, Tryz.ntmps54
    go_wp2
    go_ret
    refine ⟨by rw [HT.out]; rfl, ?_, only_grown ((OnlyRow.setCell _ _ _ _).trans (OnlyRow.setCell _ _ _ _))⟩
    have := ((World.rowIs.set HB.out 1 (Value.bool false)).set 0 (Value.string { data := #[] }))
    refine this.congr fun j hj => ?_
    have hE : rs s (P + n) = { data := #[] } := rs_out HP.out
    have hD : decide (P + n ≤ s.size) = false := by have := HP.out; simp; omega
    rw [hE, hD]
    match j, hj with
    | 0, _ => rfl
    | 1, _ => rfl
  · have HT : Hid (r.extract 0 n = tak s P n) := by show _ = _; rw [HR.out]; exact rs_take (by omega)
    have HD : Hid (r.extract n r.size = rs s (P + n)) := by show _ = _; rw [HR.out]; exact rs_drop (by omega)
    have HP : Hid (decide (P + n ≤ s.size) = decide (P ≤ s.size)) := by
      show _ = _
      by_cases hP : P ≤ s.size
      · have : P + n ≤ s.size := by omega
        simp [hP, this]
      · have : ¬ P + n ≤ s.size := by omega
        simp [hP, this]
    clear hrs
    go_enter Tryz.func54, Tryz.ntmps54
    go_wp2
    go_ret
    refine ⟨by rw [← HT.out]; rfl, ?_, only_grown (OnlyRow.setCell _ _ _ _)⟩
    have := (World.rowIs.set HB.out 0 (Value.string (r.extract n r.size)))
    refine this.congr fun j hj => ?_
    rw [HP.out, ← HD.out]
    match j, hj with
    | 0, _ => rfl
    | 1, _ => rfl

theorem grown_trans {w a b : World} {r : Option Nat} (h : w.grownBy a r) (k : a.grownBy b r) : w.grownBy b r :=
  ⟨k.os.trans h.os, k.tape.trans h.tape, k.output.trans h.output, Nat.le_trans h.size k.size, fun x hx hr => (k.block x (Nat.lt_of_lt_of_le hx h.size) hr).trans (h.block x hx hr)⟩
theorem below_grown {w w' : World} (r : Option Nat) (h : Below w.heap.size w w') : w.grownBy w' r := ⟨h.os, h.tape, h.output, h.size, fun k hk _ => h.block k hk⟩

theorem tak_one {s : ByteArray} {P : Nat} : (P < s.size → (tak s P 1).size = 1 ∧ bt (tak s P 1) 0 = bt s P) ∧ (s.size ≤ P → tak s P 1 = ByteArray.empty ∧ bt s P = 0) := by
  refine ⟨fun h => ?_, fun h => ?_⟩
  · have h1 : P + 1 ≤ s.size := by omega
    rw [tak_in h1]
    exact ⟨sub_size _ _ _ h1, bt_sub h1 (by omega)⟩
  · exact ⟨by rw [tak, if_neg (by omega)], bt_out h⟩

set_option maxHeartbeats 1000000 in
theorem number_any (s : ByteArray) (P G : Nat) (w : World) (hs : s.size ≤ 140737488351232) (h : BSt s P G w) :
    Calls Tryz.prog 53 #[.pointer (some ⟨G, 0, none⟩)] w fun e w' => e = .returned (.int .i64 (bt s P : Nat)) ∧ BSt s (P + 1) G w' ∧ w.grownBy w' (some G) := by
  have HT : Hid (Calls Tryz.prog 54 #[.pointer (some ⟨G, 0, none⟩), .int .i64 1] w fun e w' => e = .returned (.string (tak s P 1)) ∧ BSt s (P + 1) G w' ∧ w.grownBy w' (some G)) := take_any s P G 1 w hs (by omega) h
  clear h
  obtain ⟨v, hv⟩ : ∃ v, v = tak s P 1 := ⟨_, rfl⟩
  rw [← hv] at HT
  have hb := bt_le s P
  by_cases hP : P < s.size
  · obtain ⟨h1, h2⟩ := tak_one.1 hP
    rw [← hv] at h1 h2
    have l0 : 0 < v.size := by omega
    have hx := bt_in l0
    obtain ⟨x, hx'⟩ : ∃ x, x = bt s P := ⟨_, rfl⟩
    have hxs : ((v[0]'l0).toNat : Int) = x := by rw [hx', ← h2, hx]
    rw [← hx'] at hb ⊢
    have he : v.toList.isEmpty = false := by
      cases hq : v.toList with
      | cons a b => rfl
      | nil =>
        exfalso
        have h3 : v = ByteArray.empty := bytes_eq.1 (hq.trans (by simp))
        rw [h3] at h1
        cases h1
    clear hv h2 hx hx' hP
    go_enter Tryz.func53, Tryz.ntmps53
    go_wp2_with fail
    refine Calls.mono HT.out ?_
    rintro e w1 ⟨rfl, hb1, hg1⟩
    have HB1 : Hid (BSt s (P + 1) G w1 ∧ w.grownBy w1 (some G)) := ⟨hb1, hg1⟩
    clear hb1 hg1
    go_wp2
    go_ret
    exact ⟨rfl, HB1.out.1, HB1.out.2⟩
  · obtain ⟨h1, h2⟩ := tak_one.2 (Nat.le_of_not_lt hP)
    rw [← hv] at h1
    rw [h2]
    subst h1
    clear hv h2 hP hb
    go_enter Tryz.func53, Tryz.ntmps53
    go_wp2_with fail
    refine Calls.mono HT.out ?_
    rintro e w1 ⟨rfl, hb1, hg1⟩
    have HB1 : Hid (BSt s (P + 1) G w1 ∧ w.grownBy w1 (some G)) := ⟨hb1, hg1⟩
    clear hb1 hg1
    go_wp2
    go_ret
    exact ⟨rfl, HB1.out.1, HB1.out.2⟩


/-- the document's Decode under way: the result's box R, the reader G, the table's box T -/
structure RefD (w0 : World) (s : ByteArray) (R G T P nn : Nat) (vn : Value) (i : Nat) (ve : Value) (vs : Nat → Option Addr) (cs : Nat → Nat) (w : World) : Prop where
  eR : R = w0.heap.size
  eG : G = w0.heap.size + 1
  eT : T = w0.heap.size + 2
  below : Below w0.heap.size w0 w
  room : w0.heap.size + 3 ≤ w.heap.size
  res : w.rowIs R 28 2 (fun j => #[Value.slice none 0 0, .slice none 0 0].getD j undef)
  bs : BSt s P G w
  t : w.rowIs T 28 2 (fun j => #[vn, ve].getD j undef)
  nodes : w.ownsRow (w0.heap.size + 3) 65 3 vn nn (ndL s nn)
  row : w.ownsRow (w0.heap.size + 3) 63 2 ve i (entC (dtx s) (dk s) vs cs i)
  ents : EntsO (w0.heap.size + 3) (dk s) (dz s) i vs cs w
section
variable {w0 : World} {s : ByteArray} {R G T P nn : Nat} {vn : Value} {i : Nat} {ve : Value} {vs : Nat → Option Addr} {cs : Nat → Nat} {w w' : World}
/-- a step that leaves the blocks at hand -/
theorem RefD.keep (h : RefD w0 s R G T P nn vn i ve vs cs w) (hb : Below w0.heap.size w0 w') (hz : w.heap.size ≤ w'.heap.size) {P' : Nat} (hbs : BSt s P' G w')
    (h1 : w'.heap[R]? = w.heap[R]?) (h2 : w'.heap[T]? = w.heap[T]?) (h3 : ∀ b, vn.ownBlock = some b → w'.heap[b]? = w.heap[b]?) (h4 : ∀ b, ve.ownBlock = some b → w'.heap[b]? = w.heap[b]?)
    (h5 : ∀ j, j < i → ∀ b, (vs j).map (·.block) = some b → w'.heap[b]? = w.heap[b]?) : RefD w0 s R G T P' nn vn i ve vs cs w' :=
  ⟨h.eR, h.eG, h.eT, hb, Nat.le_trans h.room hz, h.res.of_block h1, hbs, h.t.of_block h2, own_of_block h.nodes h3, own_of_block h.row h4, fun j hj => own_of_block (h.ents.own j hj) fun b hx => h5 j hj b (by rwa [slice_own] at hx), h.ents.apart⟩
theorem RefD.later (h : RefD w0 s R G T P nn vn i ve vs cs w) (hb : Below w.heap.size w w') : RefD w0 s R G T P nn vn i ve vs cs w' :=
  h.keep (below_then h.below hb) hb.size (World.rowIs.of_block h.bs (hb.block _ (World.rowIs.lt h.bs))) (hb.block _ h.res.lt) (hb.block _ h.t.lt) (fun b hx => hb.block b (ownC_lt h.nodes hx).1) (fun b hx => hb.block b (ownC_lt h.row hx).1)
    (fun j hj b hx => hb.block b (ownC_lt (h.ents.own j hj) (by rw [slice_own]; exact hx)).1)
/-- the reader has gone on -/
theorem RefD.read (h : RefD w0 s R G T P nn vn i ve vs cs w) {P' : Nat} (hbs : BSt s P' G w') (hg : w.grownBy w' (some G)) : RefD w0 s R G T P' nn vn i ve vs cs w' := by
  have e1 := h.eR
  have e2 := h.eG
  have e3 := h.eT
  have hr := h.room
  refine h.keep (h.below.grown hg (by omega) (fun r hr => by cases hr; omega)) hg.size hbs (hg.block _ h.res.lt fun e => by cases e; omega) (hg.block _ h.t.lt fun e => by cases e; omega) (fun b hx => hg.block b (ownC_lt h.nodes hx).1 fun e => ?_) (fun b hx => hg.block b (ownC_lt h.row hx).1 fun e => ?_)
    (fun j hj b hx => hg.block b (ownC_lt (h.ents.own j hj) (by rw [slice_own]; exact hx)).1 fun e => ?_)
  · cases e; have := (ownC_lt h.nodes hx).2; omega
  · cases e; have := (ownC_lt h.row hx).2; omega
  · cases e; have := (ownC_lt (h.ents.own j hj) (b := G) (by rw [slice_own]; exact hx)).2; omega
/-- a node more -/
theorem RefD.node (h : RefD w0 s R G T P nn vn i ve vs cs w) (hg : w.grownBy w' vn.ownBlock) {v' : Value}
    (hnew : w'.ownsRow (w0.heap.size + 3) 65 3 v' (nn + 1) (ndL s nn ++ [.int .i64 (dp s nn), .int .i64 (ds s nn), .int .i64 (dt s nn)])) :
    RefD w0 s R G T P (nn + 1) v' i ve vs cs (w'.setCell ⟨T, 0, none⟩ v') := by
  have e1 := h.eR
  have e2 := h.eG
  have e3 := h.eT
  have hr := h.room
  have hT : w'.rowIs T 28 2 (fun j => #[vn, ve].getD j undef) := row_grown hg h.t (own_ne h.nodes h.t (by decide))
  have hO : OnlyRow T w' (w'.setCell ⟨T, 0, none⟩ v') := OnlyRow.setCell _ _ _ _
  have hrow : w'.ownsRow (w0.heap.size + 3) 63 2 ve i (entC (dtx s) (dk s) vs cs i) := ownC_grown h.row h.nodes (by decide) hg
  refine ⟨h.eR, h.eG, h.eT, hO.below (ownC_grown_below h.below (by omega) h.nodes (by omega) hg) (by omega), ?_, hO.row (row_grown hg h.res (own_ne h.nodes h.res (by decide))) (by omega), hO.row (row_grown hg h.bs (own_ne h.nodes h.bs (by decide))) (by omega), (hT.set 0 v').congr ?_, ?_, own_only hO hrow ?_, fun j hj => own_only hO (ownC_grown (h.ents.own j hj) h.nodes (by decide) hg) ?_, h.ents.apart⟩
  · rw [hO.size]; exact Nat.le_trans h.room hg.size
  · intro j hj
    match j, hj with
    | 0, _ => rfl
    | 1, _ => rfl
  · rw [ndL_snoc]
    exact own_only hO hnew fun e => by have := (ownC_lt hnew e).2; omega
  · intro e; have := (ownC_lt hrow e).2; omega
  · intro e; have := (ownC_lt (h.ents.own j hj) e).2; omega

/-- an entry under way: its box X, its list -/
structure RefX (w0 : World) (s : ByteArray) (R G T P nn : Nat) (vn : Value) (i : Nat) (ve : Value) (vs : Nat → Option Addr) (cs : Nat → Nat) (H X j : Nat) (v : Value) (w : World) : Prop where
  d : RefD w0 s R G T P nn vn i ve vs cs w
  hH : w0.heap.size + 3 ≤ H
  hX : H ≤ X
  hw : H ≤ w.heap.size
  vnold : ∀ b, vn.ownBlock = some b → b < H
  veold : ∀ b, ve.ownBlock = some b → b < H
  old : ∀ q, q < i → ∀ b, (vs q).map (·.block) = some b → b < H
  x : w.rowIs X 63 2 (fun q => #[Value.string (dtx s i), v].getD q undef)
  own : w.ownsRow H 3 1 v j ((List.range j).map fun q => Value.int .i64 (dz s i q))
theorem RefX.read {H X j : Nat} {v : Value} (h : RefX w0 s R G T P nn vn i ve vs cs H X j v w) {P' : Nat} (hbs : BSt s P' G w') (hg : w.grownBy w' (some G)) : RefX w0 s R G T P' nn vn i ve vs cs H X j v w' := by
  have e2 := h.d.eG
  have h1 := h.hH
  have h2 := h.hX
  refine ⟨h.d.read hbs hg, h.hH, h.hX, Nat.le_trans h.hw hg.size, h.vnold, h.veold, h.old, row_grown hg h.x (by intro e; cases e; omega), own_of_block h.own fun b hb => hg.block b (ownC_lt h.own hb).1 fun e => ?_⟩
  cases e
  have := (ownC_lt h.own hb).2
  omega
theorem RefX.later {H X j : Nat} {v : Value} (h : RefX w0 s R G T P nn vn i ve vs cs H X j v w) (hb : Below w.heap.size w w') : RefX w0 s R G T P nn vn i ve vs cs H X j v w' :=
  ⟨h.d.later hb, h.hH, h.hX, Nat.le_trans h.hw hb.size, h.vnold, h.veold, h.old, h.x.of_block (hb.block _ h.x.lt), ownC_below h.own hb⟩
/-- a number more -/
theorem RefX.number {H X j : Nat} {v v' : Value} (h : RefX w0 s R G T P nn vn i ve vs cs H X j v w) (hg : w.grownBy w' v.ownBlock)
    (hnew : w'.ownsRow H 3 1 v' (j + 1) (((List.range j).map fun q => Value.int .i64 (dz s i q)) ++ [.int .i64 (dz s i j)])) : RefX w0 s R G T P nn vn i ve vs cs H X (j + 1) v' (w'.setCell ⟨X, 1, none⟩ v') := by
  have e1 := h.d.eR
  have e2 := h.d.eG
  have e3 := h.d.eT
  have h1 := h.hH
  have h2 := h.hX
  have hr := h.d.room
  have hO : OnlyRow X w' (w'.setCell ⟨X, 1, none⟩ v') := OnlyRow.setCell _ _ _ _
  have hxw : w'.rowIs X 63 2 (fun q => #[Value.string (dtx s i), v].getD q undef) := row_grown hg h.x (own_ne h.own h.x (by decide))
  have key : ∀ b, b < w.heap.size → b < H → (w'.setCell ⟨X, 1, none⟩ v').heap[b]? = w.heap[b]? := fun b hb hbH => (hO.block b (by omega)).trans (hg.block b hb fun e => by have := (ownC_lt h.own e.symm).2; omega)
  have hRD : RefD w0 s R G T P nn vn i ve vs cs (w'.setCell ⟨X, 1, none⟩ v') := h.d.keep (hO.below (ownC_grown_below h.d.below (by omega) h.own (by omega) hg) (by omega)) (by rw [hO.size]; exact hg.size) (World.rowIs.of_block h.d.bs (key _ (World.rowIs.lt h.d.bs) (by omega))) (key _ h.d.res.lt (by omega)) (key _ h.d.t.lt (by omega))
    (fun b hb => key b (ownC_lt h.d.nodes hb).1 (h.vnold b hb)) (fun b hb => key b (ownC_lt h.d.row hb).1 (h.veold b hb)) (fun q hq b hb => key b (ownC_lt (h.d.ents.own q hq) (by rw [slice_own]; exact hb)).1 (h.old q hq b hb))
  refine ⟨hRD, h.hH, h.hX, by rw [hO.size]; exact Nat.le_trans h.hw hg.size, h.vnold, h.veold, h.old, (hxw.set 1 v').congr ?_, ?_⟩
  · intro q hq
    match q, hq with
    | 0, _ => rfl
    | 1, _ => rfl
  · rw [List.range_succ, List.map_append]
    refine own_only hO hnew fun e => ?_
    exact own_ne hnew hxw (by decide) e.symm
/-- an entry more -/
theorem RefX.entry {H X j : Nat} {vo : Option Addr} {vc : Nat} {v' : Value} (h : RefX w0 s R G T P nn vn i ve vs cs H X j (.slice vo j vc) w) (hj : j = dk s i) (hg : w.grownBy w' ve.ownBlock)
    (hnew : w'.ownsRow (w0.heap.size + 3) 63 2 v' (i + 1) (entC (dtx s) (dk s) vs cs i ++ [.string (dtx s i), .slice vo j vc])) : RefD w0 s R G T P nn vn (i + 1) v' (upd vs i vo) (upd cs i vc) (w'.setCell ⟨T, 1, none⟩ v') := by
  subst hj
  have e1 := h.d.eR
  have e2 := h.d.eG
  have e3 := h.d.eT
  have hr := h.d.room
  have hH := h.hH
  have hT : w'.rowIs T 28 2 (fun j => #[vn, ve].getD j undef) := row_grown hg h.d.t (own_ne h.d.row h.d.t (by decide))
  have hO : OnlyRow T w' (w'.setCell ⟨T, 1, none⟩ v') := OnlyRow.setCell _ _ _ _
  have hnod : w'.ownsRow (w0.heap.size + 3) 65 3 vn nn (ndL s nn) := ownC_grown h.d.nodes h.d.row (by decide) hg
  have hown : w'.ownsRow H 3 1 (.slice vo (dk s i) vc) (dk s i) ((List.range (dk s i)).map fun q => Value.int .i64 (dz s i q)) := ownC_grown h.own h.d.row (by decide) hg
  have hents : EntsO (w0.heap.size + 3) (dk s) (dz s) i vs cs w' := h.d.ents.grown h.d.row (by decide) hg
  refine ⟨h.d.eR, h.d.eG, h.d.eT, hO.below (ownC_grown_below h.d.below (by omega) h.d.row (by omega) hg) (by omega), ?_, hO.row (row_grown hg h.d.res (own_ne h.d.row h.d.res (by decide))) (by omega), hO.row (row_grown hg h.d.bs (own_ne h.d.row h.d.bs (by decide))) (by omega), (hT.set 1 v').congr ?_, own_only hO hnod ?_, ?_, fun j hj => ?_, fun a b x hab hbi => ?_⟩
  · rw [hO.size]; exact Nat.le_trans h.d.room hg.size
  · intro j hj
    match j, hj with
    | 0, _ => rfl
    | 1, _ => rfl
  · intro e; have := (ownC_lt hnod e).2; omega
  · rw [entC_snoc, upd_at, upd_at, entC_congr (dtx s) (dk s) (upd vs i vo) vs (upd cs i vc) cs i fun j hj => ⟨upd_ne _ _ _ (by omega), upd_ne _ _ _ (by omega)⟩]
    exact own_only hO hnew fun e => by have := (ownC_lt hnew e).2; omega
  · by_cases e : j = i
    · subst e
      rw [upd_at, upd_at]
      exact ownC_base (own_only hO hown fun e => by have := (ownC_lt hown e).2; omega) hH
    · rw [upd_ne _ _ _ e, upd_ne _ _ _ e]
      have ho := hents.own j (by omega)
      exact own_only hO ho fun e => by have := (ownC_lt ho e).2; omega
  · by_cases e : b = i
    · subst e
      rw [upd_at, upd_ne _ _ _ (by omega)]
      intro hx1 hx2
      have l1 := h.old a (by omega) x hx1
      have l2 := (ownC_lt hown (b := x) (by rw [slice_own]; exact hx2)).2
      omega
    · rw [upd_ne _ _ _ e, upd_ne _ _ _ (by omega)]
      exact h.d.ents.apart a b x hab (by omega)
end

end Go.Proofs.YtpclldccjpncdaaGreat
