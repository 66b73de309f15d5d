import Derived.Test.YtpclldccjpncdabGreatM17
namespace Go.Proofs.YtpclldccjpncdabGreat
open Go.RowKit

/-- what is left at a place, also behind the end -/
def rs (s : ByteArray) (P : Nat) : ByteArray := if P ≤ s.size then rest s P else ByteArray.empty
theorem rs_in {s : ByteArray} {P : Nat} (h : P ≤ s.size) : rs s P = rest s P := by simp [rs, h]
theorem rs_out {s : ByteArray} {P : Nat} (h : s.size < P) : rs s P = ByteArray.empty := by simp [rs, Nat.not_le.2 h]
theorem rs_size (s : ByteArray) (P : Nat) : (rs s P).size = s.size - P := by
  by_cases h : P ≤ s.size
  · rw [rs_in h, rest_size]
  · rw [rs_out (by omega)]
    have : ByteArray.empty.size = 0 := rfl
    omega
theorem empty_extract (a b : Nat) : ByteArray.empty.extract a b = ByteArray.empty := by
  apply ByteArray.ext
  simp [ByteArray.extract, ByteArray.copySlice]
theorem rs_take {s : ByteArray} {P n : Nat} (h : n ≤ s.size - P) : (rs s P).extract 0 n = tak s P n := by
  by_cases hP : P ≤ s.size
  · rw [rs_in hP, rest_sub s P n (by omega), tak_in (by omega)]
  · rw [rs_out (by omega), empty_extract, tak, if_neg (by omega)]
theorem rs_drop {s : ByteArray} {P n : Nat} (h : n ≤ s.size - P) : (rs s P).extract n (rs s P).size = rs s (P + n) := by
  by_cases hP : P ≤ s.size
  · rw [rs_in hP, rest_rest, rs_in (by omega)]
  · rw [rs_out (by omega), empty_extract, rs_out (by omega)]

/-- the reader at a place -/
def BSt (s : ByteArray) (P G : Nat) (w : World) : Prop := w.rowIs G 76 2 (fun j => #[Value.string (rs s P), .bool (decide (P ≤ s.size))].getD j undef)
theorem BSt.cells {s : ByteArray} {P G : Nat} {w : World} (h : BSt s P G w) : w.cell? ⟨G, 0, none⟩ = some (.string (rs s P)) ∧ w.cell? ⟨G, 1, none⟩ = some (.bool (decide (P ≤ s.size))) ∧ w.frozen? ⟨G, 0, none⟩ = false ∧ w.frozen? ⟨G, 1, none⟩ = false :=
  ⟨World.rowIs.cell h (i := 0) (by omega), World.rowIs.cell h (i := 1) (by omega), World.rowIs.frozen h 0, World.rowIs.frozen h 1⟩

theorem only_grown {g : Nat} {w w' : World} (h : OnlyRow g w w') : w.grownBy w' (some g) :=
  ⟨h.os, h.tape, h.output, by rw [h.size]; exact Nat.le_refl _, fun k _ hk => h.block k fun e => hk (by rw [e])⟩

set_option maxHeartbeats 1000000 in
theorem take_any (s : ByteArray) (P G n : Nat) (w : World) (hs : s.size ≤ 140737488351232) (hn : n ≤ 255) (h : BSt s P G w) :
    Calls Tryz.prog 49 #[.pointer (some ⟨G, 0, none⟩), .int .i64 (n : Nat)] w fun e w' => e = .returned (.string (tak s P n)) ∧ BSt s (P + n) G w' ∧ w.grownBy w' (some G) := by
  obtain ⟨c0, c1, f0, f1⟩ := h.cells
  have HB : Hid (BSt s P G w) := h
  have hrs := rs_size s P
  obtain ⟨r, hr⟩ : ∃ r, r = rs s P := ⟨_, rfl⟩
  rw [← hr] at c0 hrs
  have HR : Hid (r = rs s P) := hr
  have hrl : r.size ≤ 140737488351232 := by omega
  clear h hr
  by_cases hc : r.size < n
  · have HT : Hid (tak s P n = ByteArray.empty) := by show _ = _; rw [tak, if_neg (by omega)]
    have HP : Hid (s.size < P + n) := by show _ < _; omega
    clear hrs
    go_enter Tryz.func49, Tryz.ntmps49
    go_wp2
    go_ret
    refine ⟨by rw [HT.out]; rfl, ?_, only_grown ((OnlyRow.setCell _ _ _ _).trans (OnlyRow.setCell _ _ _ _))⟩
    have := ((World.rowIs.set HB.out 1 (Value.bool false)).set 0 (Value.string { data := #[] }))
    refine this.congr fun j hj => ?_
    have hE : rs s (P + n) = { data := #[] } := rs_out HP.out
    have hD : decide (P + n ≤ s.size) = false := by have := HP.out; simp; omega
    rw [hE, hD]
    match j, hj with
    | 0, _ => rfl
    | 1, _ => rfl
  · have HT : Hid (r.extract 0 n = tak s P n) := by show _ = _; rw [HR.out]; exact rs_take (by omega)
    have HD : Hid (r.extract n r.size = rs s (P + n)) := by show _ = _; rw [HR.out]; exact rs_drop (by omega)
    have HP : Hid (decide (P + n ≤ s.size) = decide (P ≤ s.size)) := by
      show _ = _
      by_cases hP : P ≤ s.size
      · have : P + n ≤ s.size := by omega
        simp [hP, this]
      · have : ¬ P + n ≤ s.size := by omega
        simp [hP, this]
    clear hrs
    go_enter Tryz.func49, Tryz.ntmps49
    go_wp2
    go_ret
    refine ⟨by rw [← HT.out]; rfl, ?_, only_grown (OnlyRow.setCell _ _ _ _)⟩
    have := (World.rowIs.set HB.out 0 (Value.string (r.extract n r.size)))
    refine this.congr fun j hj => ?_
    rw [HP.out, ← HD.out]
    match j, hj with
    | 0, _ => rfl
    | 1, _ => rfl

theorem grown_trans {w a b : World} {r : Option Nat} (h : w.grownBy a r) (k : a.grownBy b r) : w.grownBy b r :=
  ⟨k.os.trans h.os, k.tape.trans h.tape, k.output.trans h.output, Nat.le_trans h.size k.size, fun x hx hr => (k.block x (Nat.lt_of_lt_of_le hx h.size) hr).trans (h.block x hx hr)⟩
theorem below_grown {w w' : World} (r : Option Nat) (h : Below w.heap.size w w') : w.grownBy w' r := ⟨h.os, h.tape, h.output, h.size, fun k hk _ => h.block k hk⟩

theorem tak_one {s : ByteArray} {P : Nat} : (P < s.size → (tak s P 1).size = 1 ∧ bt (tak s P 1) 0 = bt s P) ∧ (s.size ≤ P → tak s P 1 = ByteArray.empty ∧ bt s P = 0) := by
  refine ⟨fun h => ?_, fun h => ?_⟩
  · have h1 : P + 1 ≤ s.size := by omega
    rw [tak_in h1]
    exact ⟨sub_size _ _ _ h1, bt_sub h1 (by omega)⟩
  · exact ⟨by rw [tak, if_neg (by omega)], bt_out h⟩

set_option maxHeartbeats 1000000 in
theorem number_any (s : ByteArray) (P G : Nat) (w : World) (hs : s.size ≤ 140737488351232) (h : BSt s P G w) :
    Calls Tryz.prog 48 #[.pointer (some ⟨G, 0, none⟩)] w fun e w' => e = .returned (.int .i64 (bt s P : Nat)) ∧ BSt s (P + 1) G w' ∧ w.grownBy w' (some G) := by
  have HT : Hid (Calls Tryz.prog 49 #[.pointer (some ⟨G, 0, none⟩), .int .i64 1] w fun e w' => e = .returned (.string (tak s P 1)) ∧ BSt s (P + 1) G w' ∧ w.grownBy w' (some G)) := take_any s P G 1 w hs (by omega) h
  clear h
  obtain ⟨v, hv⟩ : ∃ v, v = tak s P 1 := ⟨_, rfl⟩
  rw [← hv] at HT
  have hb := bt_le s P
  by_cases hP : P < s.size
  · obtain ⟨h1, h2⟩ := tak_one.1 hP
    rw [← hv] at h1 h2
    have l0 : 0 < v.size := by omega
    have hx := bt_in l0
    obtain ⟨x, hx'⟩ : ∃ x, x = bt s P := ⟨_, rfl⟩
    have hxs : ((v[0]'l0).toNat : Int) = x := by rw [hx', ← h2, hx]
    rw [← hx'] at hb ⊢
    have he : v.toList.isEmpty = false := by
      cases hq : v.toList with
      | cons a b => rfl
      | nil =>
        exfalso
        have h3 : v = ByteArray.empty := bytes_eq.1 (hq.trans (by simp))
        rw [h3] at h1
        cases h1
    clear hv h2 hx hx' hP
    go_enter Tryz.func48, Tryz.ntmps48
    go_wp2_with fail
    refine Calls.mono HT.out ?_
    rintro e w1 ⟨rfl, hb1, hg1⟩
    have HB1 : Hid (BSt s (P + 1) G w1 ∧ w.grownBy w1 (some G)) := ⟨hb1, hg1⟩
    clear hb1 hg1
    go_wp2
    go_ret
    exact ⟨rfl, HB1.out.1, HB1.out.2⟩
  · obtain ⟨h1, h2⟩ := tak_one.2 (Nat.le_of_not_lt hP)
    rw [← hv] at h1
    rw [h2]
    subst h1
    clear hv h2 hP hb
    go_enter Tryz.func48, Tryz.ntmps48
    go_wp2_with fail
    refine Calls.mono HT.out ?_
    rintro e w1 ⟨rfl, hb1, hg1⟩
    have HB1 : Hid (BSt s (P + 1) G w1 ∧ w.grownBy w1 (some G)) := ⟨hb1, hg1⟩
    clear hb1 hg1
    go_wp2
    go_ret
    exact ⟨rfl, HB1.out.1, HB1.out.2⟩


/-- the document's Decode under way: the result's box R, the reader G, the table's box T -/
structure RefD (w0 : World) (s : ByteArray) (R G T P nn : Nat) (vn : Value) (i : Nat) (ve : Value) (vs : Nat → Option Addr) (cs : Nat → Nat) (w : World) : Prop where
  eR : R = w0.heap.size
  eG : G = w0.heap.size + 1
  eT : T = w0.heap.size + 2
  below : Below w0.heap.size w0 w
  room : w0.heap.size + 3 ≤ w.heap.size
  res : w.rowIs R 28 2 (fun j => #[Value.slice none 0 0, .slice none 0 0].getD j undef)
  bs : BSt s P G w
  t : w.rowIs T 28 2 (fun j => #[vn, ve].getD j undef)
  nodes : w.ownsRow (w0.heap.size + 3) 65 3 vn nn (ndL s nn)
  row : w.ownsRow (w0.heap.size + 3) 63 2 ve i (entC (dtx s) (dk s) vs cs i)
  ents : EntsO (w0.heap.size + 3) (dk s) (dz s) i vs cs w
section
variable {w0 : World} {s : ByteArray} {R G T P nn : Nat} {vn : Value} {i : Nat} {ve : Value} {vs : Nat → Option Addr} {cs : Nat → Nat} {w w' : World}
/-- a step that leaves the blocks at hand -/
theorem RefD.keep (h : RefD w0 s R G T P nn vn i ve vs cs w) (hb : Below w0.heap.size w0 w') (hz : w.heap.size ≤ w'.heap.size) {P' : Nat} (hbs : BSt s P' G w')
    (h1 : w'.heap[R]? = w.heap[R]?) (h2 : w'.heap[T]? = w.heap[T]?) (h3 : ∀ b, vn.ownBlock = some b → w'.heap[b]? = w.heap[b]?) (h4 : ∀ b, ve.ownBlock = some b → w'.heap[b]? = w.heap[b]?)
    (h5 : ∀ j, j < i → ∀ b, (vs j).map (·.block) = some b → w'.heap[b]? = w.heap[b]?) : RefD w0 s R G T P' nn vn i ve vs cs w' :=
  ⟨h.eR, h.eG, h.eT, hb, Nat.le_trans h.room hz, h.res.of_block h1, hbs, h.t.of_block h2, own_of_block h.nodes h3, own_of_block h.row h4, fun j hj => own_of_block (h.ents.own j hj) fun b hx => h5 j hj b (by rwa [slice_own] at hx), h.ents.apart⟩
theorem RefD.later (h : RefD w0 s R G T P nn vn i ve vs cs w) (hb : Below w.heap.size w w') : RefD w0 s R G T P nn vn i ve vs cs w' :=
  h.keep (below_then h.below hb) hb.size (World.rowIs.of_block h.bs (hb.block _ (World.rowIs.lt h.bs))) (hb.block _ h.res.lt) (hb.block _ h.t.lt) (fun b hx => hb.block b (ownC_lt h.nodes hx).1) (fun b hx => hb.block b (ownC_lt h.row hx).1)
    (fun j hj b hx => hb.block b (ownC_lt (h.ents.own j hj) (by rw [slice_own]; exact hx)).1)
/-- the reader has gone on -/
theorem RefD.read (h : RefD w0 s R G T P nn vn i ve vs cs w) {P' : Nat} (hbs : BSt s P' G w') (hg : w.grownBy w' (some G)) : RefD w0 s R G T P' nn vn i ve vs cs w' := by
  have e1 := h.eR
  have e2 := h.eG
  have e3 := h.eT
  have hr := h.room
  refine h.keep (h.below.grown hg (by omega) (fun r hr => by cases hr; omega)) hg.size hbs (hg.block _ h.res.lt fun e => by cases e; omega) (hg.block _ h.t.lt fun e => by cases e; omega) (fun b hx => hg.block b (ownC_lt h.nodes hx).1 fun e => ?_) (fun b hx => hg.block b (ownC_lt h.row hx).1 fun e => ?_)
    (fun j hj b hx => hg.block b (ownC_lt (h.ents.own j hj) (by rw [slice_own]; exact hx)).1 fun e => ?_)
  · cases e; have := (ownC_lt h.nodes hx).2; omega
  · cases e; have := (ownC_lt h.row hx).2; omega
  · cases e; have := (ownC_lt (h.ents.own j hj) (b := G) (by rw [slice_own]; exact hx)).2; omega
/-- a node more -/
theorem RefD.node (h : RefD w0 s R G T P nn vn i ve vs cs w) (hg : w.grownBy w' vn.ownBlock) {v' : Value}
    (hnew : w'.ownsRow (w0.heap.size + 3) 65 3 v' (nn + 1) (ndL s nn ++ [.int .i64 (dp s nn), .int .i64 (ds s nn), .int .i64 (dt s nn)])) :
    RefD w0 s R G T P (nn + 1) v' i ve vs cs (w'.setCell ⟨T, 0, none⟩ v') := by
  have e1 := h.eR
  have e2 := h.eG
  have e3 := h.eT
  have hr := h.room
  have hT : w'.rowIs T 28 2 (fun j => #[vn, ve].getD j undef) := row_grown hg h.t (own_ne h.nodes h.t (by decide))
  have hO : OnlyRow T w' (w'.setCell ⟨T, 0, none⟩ v') := OnlyRow.setCell _ _ _ _
  have hrow : w'.ownsRow (w0.heap.size + 3) 63 2 ve i (entC (dtx s) (dk s) vs cs i) := ownC_grown h.row h.nodes (by decide) hg
  refine ⟨h.eR, h.eG, h.eT, hO.below (ownC_grown_below h.below (by omega) h.nodes (by omega) hg) (by omega), ?_, hO.row (row_grown hg h.res (own_ne h.nodes h.res (by decide))) (by omega), hO.row (row_grown hg h.bs (own_ne h.nodes h.bs (by decide))) (by omega), (hT.set 0 v').congr ?_, ?_, own_only hO hrow ?_, fun j hj => own_only hO (ownC_grown (h.ents.own j hj) h.nodes (by decide) hg) ?_, h.ents.apart⟩
  · rw [hO.size]; exact Nat.le_trans h.room hg.size
  · intro j hj
    match j, hj with
    | 0, _ => rfl
    | 1, _ => rfl
  · rw [ndL_snoc]
    exact own_only hO hnew fun e => by have := (ownC_lt hnew e).2; omega
  · intro e; have := (ownC_lt hrow e).2; omega
  · intro e; have := (ownC_lt (h.ents.own j hj) e).2; omega

/-- an entry under way: its box X, its list -/
structure RefX (w0 : World) (s : ByteArray) (R G T P nn : Nat) (vn : Value) (i : Nat) (ve : Value) (vs : Nat → Option Addr) (cs : Nat → Nat) (H X j : Nat) (v : Value) (w : World) : Prop where
  d : RefD w0 s R G T P nn vn i ve vs cs w
  hH : w0.heap.size + 3 ≤ H
  hX : H ≤ X
  hw : H ≤ w.heap.size
  vnold : ∀ b, vn.ownBlock = some b → b < H
  veold : ∀ b, ve.ownBlock = some b → b < H
  old : ∀ q, q < i → ∀ b, (vs q).map (·.block) = some b → b < H
  x : w.rowIs X 63 2 (fun q => #[Value.string (dtx s i), v].getD q undef)
  own : w.ownsRow H 3 1 v j ((List.range j).map fun q => Value.int .i64 (dz s i q))
theorem RefX.read {H X j : Nat} {v : Value} (h : RefX w0 s R G T P nn vn i ve vs cs H X j v w) {P' : Nat} (hbs : BSt s P' G w') (hg : w.grownBy w' (some G)) : RefX w0 s R G T P' nn vn i ve vs cs H X j v w' := by
  have e2 := h.d.eG
  have h1 := h.hH
  have h2 := h.hX
  refine ⟨h.d.read hbs hg, h.hH, h.hX, Nat.le_trans h.hw hg.size, h.vnold, h.veold, h.old, row_grown hg h.x (by intro e; cases e; omega), own_of_block h.own fun b hb => hg.block b (ownC_lt h.own hb).1 fun e => ?_⟩
  cases e
  have := (ownC_lt h.own hb).2
  omega
theorem RefX.later {H X j : Nat} {v : Value} (h : RefX w0 s R G T P nn vn i ve vs cs H X j v w) (hb : Below w.heap.size w w') : RefX w0 s R G T P nn vn i ve vs cs H X j v w' :=
  ⟨h.d.later hb, h.hH, h.hX, Nat.le_trans h.hw hb.size, h.vnold, h.veold, h.old, h.x.of_block (hb.block _ h.x.lt), ownC_below h.own hb⟩
/-- a number more -/
theorem RefX.number {H X j : Nat} {v v' : Value} (h : RefX w0 s R G T P nn vn i ve vs cs H X j v w) (hg : w.grownBy w' v.ownBlock)
    (hnew : w'.ownsRow H 3 1 v' (j + 1) (((List.range j).map fun q => Value.int .i64 (dz s i q)) ++ [.int .i64 (dz s i j)])) : RefX w0 s R G T P nn vn i ve vs cs H X (j + 1) v' (w'.setCell ⟨X, 1, none⟩ v') := by
  have e1 := h.d.eR
  have e2 := h.d.eG
  have e3 := h.d.eT
  have h1 := h.hH
  have h2 := h.hX
  have hr := h.d.room
  have hO : OnlyRow X w' (w'.setCell ⟨X, 1, none⟩ v') := OnlyRow.setCell _ _ _ _
  have hxw : w'.rowIs X 63 2 (fun q => #[Value.string (dtx s i), v].getD q undef) := row_grown hg h.x (own_ne h.own h.x (by decide))
  have key : ∀ b, b < w.heap.size → b < H → (w'.setCell ⟨X, 1, none⟩ v').heap[b]? = w.heap[b]? := fun b hb hbH => (hO.block b (by omega)).trans (hg.block b hb fun e => by have := (ownC_lt h.own e.symm).2; omega)
  have hRD : RefD w0 s R G T P nn vn i ve vs cs (w'.setCell ⟨X, 1, none⟩ v') := h.d.keep (hO.below (ownC_grown_below h.d.below (by omega) h.own (by omega) hg) (by omega)) (by rw [hO.size]; exact hg.size) (World.rowIs.of_block h.d.bs (key _ (World.rowIs.lt h.d.bs) (by omega))) (key _ h.d.res.lt (by omega)) (key _ h.d.t.lt (by omega))
    (fun b hb => key b (ownC_lt h.d.nodes hb).1 (h.vnold b hb)) (fun b hb => key b (ownC_lt h.d.row hb).1 (h.veold b hb)) (fun q hq b hb => key b (ownC_lt (h.d.ents.own q hq) (by rw [slice_own]; exact hb)).1 (h.old q hq b hb))
  refine ⟨hRD, h.hH, h.hX, by rw [hO.size]; exact Nat.le_trans h.hw hg.size, h.vnold, h.veold, h.old, (hxw.set 1 v').congr ?_, ?_⟩
  · intro q hq
    match q, hq with
    | 0, _ => rfl
    | 1, _ => rfl
  · rw [List.range_succ, List.map_append]
    refine own_only hO hnew fun e => ?_
    exact own_ne hnew hxw (by decide) e.symm
/-- an entry more -/
theorem RefX.entry {H X j : Nat} {vo : Option Addr} {vc : Nat} {v' : Value} (h : RefX w0 s R G T P nn vn i ve vs cs H X j (.slice vo j vc) w) (hj : j = dk s i) (hg : w.grownBy w' ve.ownBlock)
    (hnew : w'.ownsRow (w0.heap.size + 3) 63 2 v' (i + 1) (entC (dtx s) (dk s) vs cs i ++ [.string (dtx s i), .slice vo j vc])) : RefD w0 s R G T P nn vn (i + 1) v' (upd vs i vo) (upd cs i vc) (w'.setCell ⟨T, 1, none⟩ v') := by
  subst hj
  have e1 := h.d.eR
  have e2 := h.d.eG
  have e3 := h.d.eT
  have hr := h.d.room
  have hH := h.hH
  have hT : w'.rowIs T 28 2 (fun j => #[vn, ve].getD j undef) := row_grown hg h.d.t (own_ne h.d.row h.d.t (by decide))
  have hO : OnlyRow T w' (w'.setCell ⟨T, 1, none⟩ v') := OnlyRow.setCell _ _ _ _
  have hnod : w'.ownsRow (w0.heap.size + 3) 65 3 vn nn (ndL s nn) := ownC_grown h.d.nodes h.d.row (by decide) hg
  have hown : w'.ownsRow H 3 1 (.slice vo (dk s i) vc) (dk s i) ((List.range (dk s i)).map fun q => Value.int .i64 (dz s i q)) := ownC_grown h.own h.d.row (by decide) hg
  have hents : EntsO (w0.heap.size + 3) (dk s) (dz s) i vs cs w' := h.d.ents.grown h.d.row (by decide) hg
  refine ⟨h.d.eR, h.d.eG, h.d.eT, hO.below (ownC_grown_below h.d.below (by omega) h.d.row (by omega) hg) (by omega), ?_, hO.row (row_grown hg h.d.res (own_ne h.d.row h.d.res (by decide))) (by omega), hO.row (row_grown hg h.d.bs (own_ne h.d.row h.d.bs (by decide))) (by omega), (hT.set 1 v').congr ?_, own_only hO hnod ?_, ?_, fun j hj => ?_, fun a b x hab hbi => ?_⟩
  · rw [hO.size]; exact Nat.le_trans h.d.room hg.size
  · intro j hj
    match j, hj with
    | 0, _ => rfl
    | 1, _ => rfl
  · intro e; have := (ownC_lt hnod e).2; omega
  · rw [entC_snoc, upd_at, upd_at, entC_congr (dtx s) (dk s) (upd vs i vo) vs (upd cs i vc) cs i fun j hj => ⟨upd_ne _ _ _ (by omega), upd_ne _ _ _ (by omega)⟩]
    exact own_only hO hnew fun e => by have := (ownC_lt hnew e).2; omega
  · by_cases e : j = i
    · subst e
      rw [upd_at, upd_at]
      exact ownC_base (own_only hO hown fun e => by have := (ownC_lt hown e).2; omega) hH
    · rw [upd_ne _ _ _ e, upd_ne _ _ _ e]
      have ho := hents.own j (by omega)
      exact own_only hO ho fun e => by have := (ownC_lt ho e).2; omega
  · by_cases e : b = i
    · subst e
      rw [upd_at, upd_ne _ _ _ (by omega)]
      intro hx1 hx2
      have l1 := h.old a (by omega) x hx1
      have l2 := (ownC_lt hown (b := x) (by rw [slice_own]; exact hx2)).2
      omega
    · rw [upd_ne _ _ _ e, upd_ne _ _ _ (by omega)]
      exact h.d.ents.apart a b x hab (by omega)
end

end Go.Proofs.YtpclldccjpncdabGreat

namespace Go.Proofs.YtpclldccjpncdabGreat
open Go.RowKit

theorem number_x (s : ByteArray) (P G x : Nat) (w : World) (hs : s.size ≤ 140737488351232) (hx : x = bt s P) (h : BSt s P G w) :
    Calls Tryz.prog 48 #[.pointer (some ⟨G, 0, none⟩)] w fun e w' => e = .returned (.int .i64 (x : Nat)) ∧ BSt s (P + 1) G w' ∧ w.grownBy w' (some G) := by
  subst hx
  exact number_any s P G w hs h

theorem take_x (s : ByteArray) (P G n q : Nat) (tx : ByteArray) (w : World) (hs : s.size ≤ 140737488351232) (hn : n ≤ 255) (htx : tx = tak s P n) (hq : q = P + n) (h : BSt s P G w) :
    Calls Tryz.prog 49 #[.pointer (some ⟨G, 0, none⟩), .int .i64 (n : Nat)] w fun e w' => e = .returned (.string tx) ∧ BSt s q G w' ∧ w.grownBy w' (some G) := by
  subst htx
  subst hq
  exact take_any s P G n w hs hn h
theorem refX_start {w0 : World} {s : ByteArray} {R G T P nn : Nat} {vn : Value} {i : Nat} {ve : Value} {vs : Nat → Option Addr} {cs : Nat → Nat} {w : World} (h : RefD w0 s R G T P nn vn i ve vs cs w) {tx : ByteArray} (htx : tx = dtx s i) :
    RefX w0 s R G T P nn vn i ve vs cs w.heap.size w.heap.size 0 (.slice none 0 0) (w.alloc (.cells #[.string tx, .slice none 0 0] 63)) := by
  subst htx
  exact ⟨h.later (below_one _), h.room, Nat.le_refl _, by simp, fun b hb => (ownC_lt h.nodes hb).1, fun b hb => (ownC_lt h.row hb).1, fun q hq b hb => (ownC_lt (h.ents.own q hq) (by rw [slice_own]; exact hb)).1, row_new _ _ _ 2 rfl, World.ownsRow_nil _ _ _ _⟩

theorem refD_start (s : ByteArray) (w : World) : RefD w s w.heap.size (w.heap.size + 1) (w.heap.size + 1 + 1) 0 0 (.slice none 0 0) 0 (.slice none 0 0) (fun _ => none) (fun _ => 0)
    (((w.alloc (.cells #[.slice none 0 0, .slice none 0 0] 28)).alloc (.cells #[.string s, .bool true] 76)).alloc (.cells #[.slice none 0 0, .slice none 0 0] 28)) := by
  refine ⟨rfl, rfl, rfl, below_then (below_then (below_one _) (below_one _)) (below_one _), by simp, ((row_new w _ _ 2 rfl).alloc _).alloc _, ?_, ?_, World.ownsRow_nil _ _ _ _, World.ownsRow_nil _ _ _ _, EntsO.nil _ _ _ _ _ _⟩
  · have hE : rs s 0 = s := by rw [rs_in (Nat.zero_le _), rest_zero]
    unfold BSt
    rw [hE]
    refine World.rowIs.alloc (row_at (row_new _ #[.string s, .bool true] _ 2 rfl) (by simp) fun j hj => ?_) _
    match j, hj with
    | 0, _ => rfl
    | 1, _ => rfl
  · exact row_at (row_new _ _ _ 2 rfl) (by simp) fun _ _ => rfl

set_option maxRecDepth 100000 in
set_option maxHeartbeats 4000000 in
theorem refDecode_any (s : ByteArray) (w : World) (hs : s.size ≤ 140737488351232) : Calls Tryz.prog 26 #[.string s] w (DecAns s w) := by
  obtain ⟨i0, hi0, hq0, hq1, hq2⟩ := info_parts infoIntC
  obtain ⟨j0, hj0, hp0, hp1, hp2⟩ := info_parts infoNodeC
  obtain ⟨k0, hk0, hr0, hr1, hr2⟩ := info_parts infoEntC
  have HS0 : Hid (RefD w s w.heap.size (w.heap.size + 1) (w.heap.size + 1 + 1) 0 0 (.slice none 0 0) 0 (.slice none 0 0) (fun _ => none) (fun _ => 0)
    (((w.alloc (.cells #[.slice none 0 0, .slice none 0 0] 28)).alloc (.cells #[.string s, .bool true] 76)).alloc (.cells #[.slice none 0 0, .slice none 0 0] 28))) := refD_start s w
  obtain ⟨n, hn⟩ : ∃ n, n = dn s := ⟨_, rfl⟩
  have HN : Hid (n = dn s) := hn
  have hnb : n ≤ 255 := by rw [hn]; exact bt_le _ _
  clear hn
  go_enter Tryz.func26, Tryz.ntmps26
  go_wp2_with fail
  refine (number_x s 0 (w.heap.size + 1) n _ hs HN.out HS0.out.bs).mono ?_
  rintro e w1 ⟨rfl, hbs1, hg1⟩
  have HS1 : Hid (RefD w s w.heap.size (w.heap.size + 1) (w.heap.size + 1 + 1) 1 0 (.slice none 0 0) 0 (.slice none 0 0) (fun _ => none) (fun _ => 0) w1) := HS0.out.read hbs1 hg1
  clear HS0 hbs1 hg1
  go_wp2
  go_loopw [7] (fun iv wr => ∃ (i p : Nat) (vn : Value), Hid (p = 1 + i * 3) ∧ i ≤ n ∧ iv = .int .i64 (i : Nat) ∧ RefD w s w.heap.size (w.heap.size + 1) (w.heap.size + 1 + 1) p i vn 0 (.slice none 0 0) (fun _ => none) (fun _ => 0) wr) (fun iv _ => n - (intOf iv).toNat)
  case atStart => exact ⟨0, 1, _, rfl, Nat.zero_le _, rfl, HS1.out⟩
  case round =>
    clear HS1
    obtain ⟨i, p, vn, HP, hi, rfl, hst⟩ := hrel
    have HS : Hid (RefD w s w.heap.size (w.heap.size + 1) (w.heap.size + 1 + 1) p i vn 0 (.slice none 0 0) (fun _ => none) (fun _ => 0) wr) := hst
    clear hst
    by_cases hlt : i < n
    · obtain ⟨x0, hx0⟩ : ∃ x, x = bt s p := ⟨_, rfl⟩
      obtain ⟨x1, hx1⟩ : ∃ x, x = bt s (p + 1) := ⟨_, rfl⟩
      obtain ⟨x2, hx2⟩ : ∃ x, x = bt s (p + 1 + 1) := ⟨_, rfl⟩
      have HX0 : Hid (x0 = bt s p) := hx0
      have HX1 : Hid (x1 = bt s (p + 1)) := hx1
      have HX2 : Hid (x2 = bt s (p + 1 + 1)) := hx2
      have xb0 : x0 ≤ 255 := by rw [hx0]; exact bt_le _ _
      have xb1 : x1 ≤ 255 := by rw [hx1]; exact bt_le _ _
      have xb2 : x2 ≤ 255 := by rw [hx2]; exact bt_le _ _
      have HNL : Hid ((ndL s i ++ [.int .i64 (dp s i), .int .i64 (ds s i), .int .i64 (dt s i)]) = ndL s i ++ [.int .i64 (x0 : Nat), .int .i64 (x1 : Nat), .int .i64 (x2 : Nat)]) := by
        show _ = _
        rw [hx0, hx1, hx2, HP.out]
        rfl
      clear hx0 hx1 hx2
      go_wp2_with fail
      refine (number_x s p (w.heap.size + 1) x0 _ hs HX0.out HS.out.bs).mono ?_
      rintro e w2 ⟨rfl, hbs2, hg2⟩
      have HS2 : Hid (RefD w s w.heap.size (w.heap.size + 1) (w.heap.size + 1 + 1) (p + 1) i vn 0 (.slice none 0 0) (fun _ => none) (fun _ => 0) w2) := HS.out.read hbs2 hg2
      clear hbs2 hg2 HS
      go_wp2_with fail
      refine (number_x s (p + 1) (w.heap.size + 1) x1 _ hs HX1.out HS2.out.bs).mono ?_
      rintro e w3 ⟨rfl, hbs3, hg3⟩
      have HS3 : Hid (RefD w s w.heap.size (w.heap.size + 1) (w.heap.size + 1 + 1) (p + 1 + 1) i vn 0 (.slice none 0 0) (fun _ => none) (fun _ => 0) w3) := HS2.out.read hbs3 hg3
      clear hbs3 hg3 HS2
      go_wp2_with fail
      refine (number_x s (p + 1 + 1) (w.heap.size + 1) x2 _ hs HX2.out HS3.out.bs).mono ?_
      rintro e w4 ⟨rfl, hbs4, hg4⟩
      have hst4 := HS3.out.read hbs4 hg4
      have HS4 : Hid (RefD w s w.heap.size (w.heap.size + 1) (w.heap.size + 1 + 1) (p + 1 + 1 + 1) i vn 0 (.slice none 0 0) (fun _ => none) (fun _ => 0) w4) := hst4
      have t0 := hst4.t.cell (i := 0) (by omega)
      have t1 := hst4.t.cell (i := 1) (by omega)
      have f0 := hst4.t.frozen 0
      have f1 := hst4.t.frozen 1
      have hroom := hst4.room
      simp at t0 t1
      clear hbs4 hg4 HS3 hst4
      go_wp2_with (first
        | (at_builtin; refine wpList_append_lies _ (by rfl) (.tmp 36) (.tmp 41) 25 (by rfl) (w.heap.size + 3) 65 j0 (.agg #[.int .i64 0, .int .i64 0, .int .i64 0]) 3 24 Tryz.underlying25 hj0 hp0 hp1 hp2 rfl (by omega) _ i _ (by rfl) (HS4.out.nodes.alloc _) ⟨w4.heap.size, 0, none⟩ 1 1 [.int .i64 x0, .int .i64 x1, .int .i64 x2] (by rfl) (by rfl) ?c1 ?c2 (by omega) ?c3 ?c5 ?c4 (w4.heap.size + 1) (by simp) ?_))
      case c1 => exact newC3 _ rfl _ _ _ _
      case c2 => intro u hu; simp at hu; rcases hu with rfl | rfl | rfl <;> rfl
      case c3 => unfold maxLen; omega
      case c5 => omega
      case c4 => simp; omega
      · intro gv cap2 w5 hown2 hgrow _ _
        have hd := HS4.out.later (below_one (w := w4) (.cells #[.int .i64 (x0 : Nat), .int .i64 (x1 : Nat), .int .i64 (x2 : Nat)] 65))
        have HNX : Hid (RefD w s w.heap.size (w.heap.size + 1) (w.heap.size + 1 + 1) (p + 1 + 1 + 1) (i + 1) (.slice (some ⟨gv, 0, none⟩) (i + 1) cap2) 0 (.slice none 0 0) (fun _ => none) (fun _ => 0) (w5.setCell ⟨w.heap.size + 1 + 1, 0, none⟩ (.slice (some ⟨gv, 0, none⟩) (i + 1) cap2))) := by
          refine hd.node hgrow ?_
          rw [HNL.out]
          exact hown2
        have hT5 : w5.rowIs (w.heap.size + 1 + 1) 28 2 (fun j => #[vn, Value.slice none 0 0].getD j undef) := row_grown hgrow hd.t (own_ne hd.nodes hd.t (by decide))
        have u0 := hT5.cell (i := 0) (by omega)
        have g0 := hT5.frozen 0
        simp at u0
        clear hown2 hgrow t0 t1 f0 f1 hd hT5
        go_wp2
        go_roundw
        case rel => exact ⟨i + 1, p + 1 + 1 + 1, _, (by have := HP.out; show _ = _; omega), by omega, by go_num, HNX.out⟩
        case measure => simp [intOf]; omega
    · have hie : i = n := by omega
      subst hie
      obtain ⟨m, hm⟩ : ∃ m, m = dm s := ⟨_, rfl⟩
      have HM : Hid (m = dm s) := hm
      have hmb : m ≤ 255 := by rw [hm]; exact bt_le _ _
      have HPQ : Hid (p = q0 s) := by show _ = _; rw [HP.out, q0, HN.out]
      have HMX : Hid (m = bt s p) := by show _ = _; rw [hm, HPQ.out]; rfl
      clear hm
      go_wp2_with fail
      refine (number_x s p (w.heap.size + 1) m _ hs HMX.out HS.out.bs).mono ?_
      rintro e w2 ⟨rfl, hbs2, hg2⟩
      have HS2 : Hid (RefD w s w.heap.size (w.heap.size + 1) (w.heap.size + 1 + 1) (p + 1) i vn 0 (.slice none 0 0) (fun _ => none) (fun _ => 0) w2) := HS.out.read hbs2 hg2
      have HE0 : Hid (p + 1 = epos s 0) := by show _ = _; rw [HPQ.out]; rfl
      clear hbs2 hg2 HS HP HMX
      go_wp2
      go_loopw [12] (fun iv wr => ∃ (a P : Nat) (ve : Value) (vs : Nat → Option Addr) (cs : Nat → Nat), Hid (P = epos s a) ∧ a ≤ m ∧ iv = .int .i64 (a : Nat) ∧ RefD w s w.heap.size (w.heap.size + 1) (w.heap.size + 1 + 1) P i vn a ve vs cs wr) (fun iv _ => m - (intOf iv).toNat)
      case atStart => exact ⟨0, p + 1, _, _, _, HE0.out, Nat.zero_le _, rfl, HS2.out⟩
      case round =>
        rename World => wr
        clear HS2 HE0
        obtain ⟨a, P, ve, vs, cs, HP, ha, rfl, hst⟩ := hrel
        have HS : Hid (RefD w s w.heap.size (w.heap.size + 1) (w.heap.size + 1 + 1) P i vn a ve vs cs wr) := hst
        clear hst
        by_cases hlt : a < m
        · obtain ⟨k, hk⟩ : ∃ x, x = bt s P := ⟨_, rfl⟩
          obtain ⟨q, hq⟩ : ∃ x, x = P + 1 + k := ⟨_, rfl⟩
          obtain ⟨tx, htx⟩ : ∃ x, x = tak s (P + 1) k := ⟨_, rfl⟩
          obtain ⟨h, hh⟩ : ∃ x, x = bt s q := ⟨_, rfl⟩
          have HK : Hid (k = bt s P) := hk
          have HQ : Hid (q = P + 1 + k) := hq
          have HTX : Hid (tx = tak s (P + 1) k) := htx
          have HH : Hid (h = bt s q) := hh
          have hkb : k ≤ 255 := by rw [hk]; exact bt_le _ _
          have hhb : h ≤ 255 := by rw [hh]; exact bt_le _ _
          have HTD : Hid (tx = dtx s a) := by show _ = _; rw [htx, hk, HP.out]; rfl
          have HQD : Hid (q = dkp s a) := by show _ = _; rw [hq, hk, HP.out]; rfl
          have HHD : Hid (h = dk s a) := by show _ = _; rw [hh, HQD.out]; rfl
          clear hk hq htx hh
          go_wp2_with fail
          refine (number_x s P (w.heap.size + 1) k _ hs HK.out HS.out.bs).mono ?_
          rintro e w3 ⟨rfl, hbs3, hg3⟩
          have HS3 : Hid (RefD w s w.heap.size (w.heap.size + 1) (w.heap.size + 1 + 1) (P + 1) i vn a ve vs cs w3) := HS.out.read hbs3 hg3
          clear hbs3 hg3 HS HK
          go_wp2_with fail
          refine (take_x s (P + 1) (w.heap.size + 1) k q tx _ hs hkb HTX.out HQ.out HS3.out.bs).mono ?_
          rintro e w4 ⟨rfl, hbs4, hg4⟩
          have HS4 : Hid (RefD w s w.heap.size (w.heap.size + 1) (w.heap.size + 1 + 1) q i vn a ve vs cs w4) := HS3.out.read hbs4 hg4
          have HX4 : Hid (RefX w s w.heap.size (w.heap.size + 1) (w.heap.size + 1 + 1) q i vn a ve vs cs w4.heap.size w4.heap.size 0 (.slice none 0 0) (w4.alloc (.cells #[.string tx, .slice none 0 0] 63))) := refX_start HS4.out HTD.out
          clear hbs4 hg4 HS3 HTX HQ
          go_wp2_with fail
          refine (number_x s q (w.heap.size + 1) h _ hs HH.out HX4.out.d.bs).mono ?_
          rintro e w5 ⟨rfl, hbs5, hg5⟩
          have HX5 : Hid (RefX w s w.heap.size (w.heap.size + 1) (w.heap.size + 1 + 1) (q + 1) i vn a ve vs cs w4.heap.size w4.heap.size 0 (.slice none 0 0) w5) := HX4.out.read hbs5 hg5
          have hz4 : w.heap.size + 3 ≤ w4.heap.size := HS4.out.room
          clear hbs5 hg5 HX4 HS4 HH
          obtain ⟨X, hX⟩ : ∃ X, X = w4.heap.size := ⟨_, rfl⟩
          rw [← hX] at HX5 hz4
          rw [← hX]
          clear hX
          go_wp2
          go_loopw [16] (fun jv wi => ∃ (j Pj : Nat) (v : Value), Hid (Pj = q + 1 + j) ∧ j ≤ h ∧ jv = .int .i64 (j : Nat) ∧ RefX w s w.heap.size (w.heap.size + 1) (w.heap.size + 1 + 1) Pj i vn a ve vs cs X X j v wi) (fun jv _ => h - (intOf jv).toNat)
          case atStart => exact ⟨0, q + 1, _, rfl, Nat.zero_le _, rfl, HX5.out⟩
          case round =>
            rename World => wi
            clear HX5
            obtain ⟨j, Pj, v, HPJ, hj, rfl, hst⟩ := hrel
            have HX : Hid (RefX w s w.heap.size (w.heap.size + 1) (w.heap.size + 1 + 1) Pj i vn a ve vs cs X X j v wi) := hst
            clear hst
            by_cases hjl : j < h
            · obtain ⟨y, hy⟩ : ∃ y, y = bt s Pj := ⟨_, rfl⟩
              have HY : Hid (y = bt s Pj) := hy
              have hyb : y ≤ 255 := by rw [hy]; exact bt_le _ _
              have HYD : Hid (dz s a j = (y : Nat)) := by show _ = _; rw [hy, HPJ.out, HQD.out]; rfl
              clear hy
              go_wp2_with fail
              refine (number_x s Pj (w.heap.size + 1) y _ hs HY.out HX.out.d.bs).mono ?_
              rintro e w6 ⟨rfl, hbs6, hg6⟩
              have hx6 := HX.out.read hbs6 hg6
              have HX6 : Hid (RefX w s w.heap.size (w.heap.size + 1) (w.heap.size + 1 + 1) (Pj + 1) i vn a ve vs cs X X j v w6) := hx6
              have x1 := hx6.x.cell (i := 1) (by omega)
              have fx1 := hx6.x.frozen 1
              simp at x1
              have hw6 := hx6.hw
              clear hbs6 hg6 HX hx6
              go_wp2_with (first
                | (at_builtin; refine wpList_append_lies _ (by rfl) (.tmp 67) (.tmp 69) 61 (by rfl) X 3 i0 (.int .i64 0) 1 8 Tryz.underlying61 hi0 hq0 hq1 hq2 rfl (by omega) _ j _ (by rfl) (HX6.out.own.alloc _) ⟨w6.heap.size, 0, none⟩ 1 1 [.int .i64 y] (by rfl) (by rfl) ?c1 ?c2 (by omega) ?c3 ?c5 ?c4 (w6.heap.size + 1) (by simp) ?_))
              case c1 => exact cell_one_new _ _ _
              case c2 => intro u hu; simp at hu; subst hu; rfl
              case c3 => unfold maxLen; omega
              case c5 => omega
              case c4 => simp; omega
              · intro gv cap2 w7 hown2 hgrow _ _
                have hd := HX6.out.later (below_one (w := w6) (.cells #[.int .i64 (y : Nat)] 3))
                have HNX : Hid (RefX w s w.heap.size (w.heap.size + 1) (w.heap.size + 1 + 1) (Pj + 1) i vn a ve vs cs X X (j + 1) (.slice (some ⟨gv, 0, none⟩) (j + 1) cap2) (w7.setCell ⟨X, 1, none⟩ (.slice (some ⟨gv, 0, none⟩) (j + 1) cap2))) := by
                  refine hd.number hgrow ?_
                  rw [HYD.out]
                  exact hown2
                have hx7 : w7.rowIs X 63 2 (fun q => #[Value.string (dtx s a), v].getD q undef) := row_grown hgrow hd.x (own_ne hd.own hd.x (by decide))
                have u1 := hx7.cell (i := 1) (by omega)
                have g1 := hx7.frozen 1
                simp at u1
                clear hown2 hgrow x1 fx1 hd hx7
                go_wp2
                go_roundw
                case rel => exact ⟨j + 1, Pj + 1, _, (by have := HPJ.out; show _ = _; omega), by omega, by go_num, HNX.out⟩
                case measure => simp [intOf]; omega
            · have hje : j = h := by omega
              subst hje
              obtain ⟨vo, vc, hv⟩ := ownC_shape HX.out.own
              subst hv
              have x0 := HX.out.x.cell (i := 0) (by omega)
              have x1 := HX.out.x.cell (i := 1) (by omega)
              have t1 := HX.out.d.t.cell (i := 1) (by omega)
              have hroom := HX.out.d.room
              simp at x0 x1 t1
              rw [← HTD.out] at x0
              go_wp2_with (first
                | (at_builtin; refine wpList_append_lies _ (by rfl) (.tmp 73) (.tmp 75) 26 (by rfl) (w.heap.size + 3) 63 k0 (.agg #[.string ByteArray.empty, .slice none 0 0]) 2 40 Tryz.underlying26 hk0 hr0 hr1 hr2 rfl (by omega) _ a _ (by rfl) (HX.out.d.row.alloc _) ⟨wi.heap.size, 0, none⟩ 1 1 [.string tx, .slice vo j vc] (by rfl) (by rfl) ?d1 ?d2 (by omega) ?d3 ?d5 ?d4 (wi.heap.size + 1) (by simp) ?_))
              case d1 => exact newC2 _ rfl _ _ _
              case d2 => intro u hu; simp at hu; rcases hu with rfl | rfl <;> rfl
              case d3 => unfold maxLen; omega
              case d5 => omega
              case d4 => simp; omega
              · intro gv cap2 w7 hown2 hgrow _ _
                have hd := HX.out.later (below_one (w := wi) (.cells #[.string tx, .slice vo j vc] 63))
                have hT7 : w7.rowIs (w.heap.size + 1 + 1) 28 2 (fun j => #[vn, ve].getD j undef) := row_grown hgrow hd.d.t (own_ne hd.d.row hd.d.t (by decide))
                have HNX : Hid (RefD w s w.heap.size (w.heap.size + 1) (w.heap.size + 1 + 1) Pj i vn (a + 1) (.slice (some ⟨gv, 0, none⟩) (a + 1) cap2) (upd vs a vo) (upd cs a vc) (w7.setCell ⟨w.heap.size + 1 + 1, 1, none⟩ (.slice (some ⟨gv, 0, none⟩) (a + 1) cap2))) := by
                  refine hd.entry HHD.out hgrow ?_
                  rw [← HTD.out]
                  exact hown2
                have u1 := hT7.cell (i := 1) (by omega)
                have g1 := hT7.frozen 1
                simp at u1
                have HPN : Hid (Pj = epos s (a + 1)) := by show _ = _; rw [HPJ.out, epos_step, ← HQD.out, ← HHD.out]
                clear hown2 hgrow x0 x1 t1 hd hT7
                go_wp2
                go_roundw
                case rel => exact ⟨a + 1, Pj, _, _, _, HPN.out, by omega, by go_num, HNX.out⟩
                case measure => simp [intOf]; omega
        · have hae : a = m := by omega
          subst hae
          obtain ⟨c0, c1, f0, f1⟩ := HS.out.bs.cells
          have hrs := rs_size s P
          obtain ⟨r, hr⟩ : ∃ r, r = rs s P := ⟨_, rfl⟩
          rw [← hr] at c0 hrs
          have r0 := HS.out.res.cell (i := 0) (by omega)
          have r1 := HS.out.res.cell (i := 1) (by omega)
          have h0 := HS.out.res.frozen 0
          have h1 := HS.out.res.frozen 1
          have t0 := HS.out.t.cell (i := 0) (by omega)
          have t1 := HS.out.t.cell (i := 1) (by omega)
          simp at r0 r1 t0 t1
          have HBW : Hid (Below w.heap.size w wr) := HS.out.below
          have HRS : Hid (wr.rowIs w.heap.size 28 2 (fun j => #[Value.slice none 0 0, .slice none 0 0].getD j undef)) := HS.out.res
          by_cases hg : P = s.size
          · have HG : Hid (good s) := by show _ = _; rw [← HM.out, ← HP.out]; exact hg
            have hd : decide (P ≤ s.size) = true := by simp; omega
            have he : r.toList.isEmpty = true := by
              have : r = ByteArray.empty := by
                have h3 : r.data.size = 0 := by have : r.size = r.data.size := rfl; omega
                exact ByteArray.ext (Array.eq_empty_of_size_eq_zero h3)
              rw [this]; simp
            rw [hd] at c1
            have htold : Told s (w.heap.size + 3) vn ve vs cs wr := by
              refine ⟨?_, ?_, ?_⟩
              · rw [← HN.out]; exact HS.out.nodes
              · rw [← HM.out]; exact HS.out.row
              · rw [← HM.out]; exact HS.out.ents
            obtain ⟨no, nc, hvn⟩ := ownC_shape htold.nodes
            subst hvn
            obtain ⟨eo, ec, hve⟩ := ownC_shape htold.row
            subst hve
            have hin := told_in htold
            have HE : Hid (decE s = (dL s).err) := decE_good HG.out
            have HTD : Hid (Told s (w.heap.size + 3) (.slice no (dn s) nc) (.slice eo (dm s) ec) vs cs wr) := htold
            have HV : Hid (∀ wx, Below wr.heap.size wr wx → Calls Tryz.prog 14 #[.agg #[.slice no (dn s) nc, .slice eo (dm s) ec]] wx fun e w' => e = .returned (.int .i64 (decE s)) ∧ Below wx.heap.size wx w') := fun wx hbx => by
              rw [HE.out]
              exact refValid_any (toldL s no nc eo ec vs cs) wx (hin.later hbx)
            obtain ⟨er, her⟩ : ∃ x, x = decE s := ⟨_, rfl⟩
            have HER : Hid (er = decE s) := her
            rw [← her, ← HN.out, ← HM.out] at HV
            rw [← HN.out, ← HM.out] at HTD
            rw [← HN.out] at t0
            rw [← HM.out] at t1
            have HTL : Hid (w.heap.size + 1 + 1 < wr.heap.size) := HS.out.t.lt
            clear htold hin her HE hg hd hrs hr HS
            go_wp2_with fail
            refine (HV.out _ (Below.refl _ _)).mono ?_
            rintro e w2 ⟨rfl, hb2⟩
            have r0' := cellTo hb2 r0 HRS.out.lt
            have r1' := cellTo hb2 r1 HRS.out.lt
            have h0' : w2.frozen? ⟨w.heap.size, 0, none⟩ = false := (hb2.frozen (p := ⟨w.heap.size, 0, none⟩) HRS.out.lt).trans h0
            have h1' : w2.frozen? ⟨w.heap.size, 1, none⟩ = false := (hb2.frozen (p := ⟨w.heap.size, 1, none⟩) HRS.out.lt).trans h1
            have t0' := cellTo hb2 t0 HTL.out
            have t1' := cellTo hb2 t1 HTL.out
            have HR2 : Hid (w2.rowIs w.heap.size 28 2 (fun j => #[Value.slice none 0 0, .slice none 0 0].getD j undef)) := HRS.out.of_block (hb2.block _ HRS.out.lt)
            have HB2 : Hid (Below w.heap.size w w2) := below_then HBW.out hb2
            have HT2 : Hid (Told s (w.heap.size + 3) (.slice no i nc) (.slice eo a ec) vs cs w2) := HTD.out.below hb2
            clear hb2 HV r0 r1 h0 h1 t0 t1 c0 c1 f0 f1 he HTD HBW
            by_cases hz : er = 0
            · have HE0 : Hid (decE s = 0) := by show _ = _; rw [← HER.out]; exact hz
              clear HER
              subst hz
              go_wp2
              refine bodyPost_ret (resC2 rfl _ w.heap.size _ _ (by rfl) ((HR2.out.set 0 (.slice no i nc)).set 1 (.slice eo a ec)) Tryz.underlying28 rfl sizeTabC) rfl ?_
              have hO : OnlyRow w.heap.size w2 ((w2.setCell ⟨w.heap.size, 0, none⟩ (.slice no i nc)).setCell ⟨w.heap.size, 1, none⟩ (.slice eo a ec)) := (OnlyRow.setCell _ _ _ _).trans (OnlyRow.setCell _ _ _ _)
              refine ⟨hO.below HB2.out (Nat.le_refl _), .inl ⟨HE0.out, no, nc, eo, ec, vs, cs, ?_, ?_⟩⟩
              · rw [← HN.out, ← HM.out]; rfl
              · rw [← HN.out, ← HM.out]; exact (HT2.out.only hO (by omega)).base (by omega)
            · have hz' : (er == 0) = false := by simpa using hz
              have HE0 : Hid (decE s ≠ 0) := by show _ ≠ _; rw [← HER.out]; exact hz
              go_wp2
              refine bodyPost_ret (resC2 rfl _ w.heap.size _ _ (by rfl) ((HR2.out.set 0 (.slice none 0 0)).set 1 (.slice none 0 0)) Tryz.underlying28 rfl sizeTabC) rfl ?_
              have hO : OnlyRow w.heap.size w2 ((w2.setCell ⟨w.heap.size, 0, none⟩ (.slice none 0 0)).setCell ⟨w.heap.size, 1, none⟩ (.slice none 0 0)) := (OnlyRow.setCell _ _ _ _).trans (OnlyRow.setCell _ _ _ _)
              refine ⟨hO.below HB2.out (Nat.le_refl _), .inr ⟨HE0.out, ?_⟩⟩
              rw [← HER.out]; rfl
          · have HB : Hid (decE s = 7) := decE_bad fun g => hg (by unfold good at g; rw [← HM.out, ← HP.out] at g; exact g)
            by_cases hP : P ≤ s.size
            · have hd : decide (P ≤ s.size) = true := by simp; omega
              have he : r.toList.isEmpty = false := by
                cases hq : r.toList with
                | cons a b => rfl
                | nil =>
                  exfalso
                  have h3 : r = ByteArray.empty := bytes_eq.1 (hq.trans (by simp))
                  rw [h3] at hrs
                  have : ByteArray.empty.size = 0 := rfl
                  omega
              rw [hd] at c1
              clear hg hd hrs hr HS hP
              go_wp2
              refine bodyPost_ret (resC2 rfl _ w.heap.size _ _ (by rfl) ((HRS.out.set 0 (.slice none 0 0)).set 1 (.slice none 0 0)) Tryz.underlying28 rfl sizeTabC) rfl ?_
              have hO : OnlyRow w.heap.size wr ((wr.setCell ⟨w.heap.size, 0, none⟩ (.slice none 0 0)).setCell ⟨w.heap.size, 1, none⟩ (.slice none 0 0)) := (OnlyRow.setCell _ _ _ _).trans (OnlyRow.setCell _ _ _ _)
              refine ⟨hO.below HBW.out (Nat.le_refl _), .inr ⟨by rw [HB.out]; omega, ?_⟩⟩
              rw [HB.out]; rfl
            · have hd : decide (P ≤ s.size) = false := by simp; omega
              rw [hd] at c1
              clear hg hd hrs hr HS hP
              go_wp2
              refine bodyPost_ret (resC2 rfl _ w.heap.size _ _ (by rfl) ((HRS.out.set 0 (.slice none 0 0)).set 1 (.slice none 0 0)) Tryz.underlying28 rfl sizeTabC) rfl ?_
              have hO : OnlyRow w.heap.size wr ((wr.setCell ⟨w.heap.size, 0, none⟩ (.slice none 0 0)).setCell ⟨w.heap.size, 1, none⟩ (.slice none 0 0)) := (OnlyRow.setCell _ _ _ _).trans (OnlyRow.setCell _ _ _ _)
              refine ⟨hO.below HBW.out (Nat.le_refl _), .inr ⟨by rw [HB.out]; omega, ?_⟩⟩
              rw [HB.out]; rfl

end Go.Proofs.YtpclldccjpncdabGreat

namespace Go.Proofs.YtpclldccjpncdabGreat
open Go.RowKit

set_option maxHeartbeats 400000 in
/-- all: a list of one number -/
theorem allN_any (k b : Nat) (cap : Nat) (ao : Option Addr) (x : Int) (w : World) (h : IntsIn w.heap.size w ao k b 0 (fun _ => x)) :
    Calls Tryz.prog 52 #[.slice ao k cap, .int .i64 x] w fun e w' => e = .returned (.bool true) ∧ Below w.heap.size w w' := by
  have hk := h.le
  obtain ⟨ha, hb, hc, _⟩ := h
  go_enter Tryz.func52, Tryz.ntmps52
  go_wp2
  go_loopw [5] (fun i wr => ∃ j : Nat, j ≤ k ∧ i = .int .i64 j ∧ Below w.heap.size w wr) (fun i _ => k - (intOf i).toNat)
  case atStart => exact ⟨0, Nat.zero_le _, rfl, Below.refl _ _⟩
  case round =>
    obtain ⟨j, hj, rfl, hbel⟩ := hrel
    by_cases hlt : j < k
    · have e1 := ha (by omega)
      subst e1
      have c0 := cellTo hbel (hc j hlt) (hb (by omega))
      simp only [Nat.zero_add] at c0
      go_wp2
      go_roundw
      case rel => exact ⟨j + 1, by omega, by go_num, hbel⟩
      case measure => simp [intOf]; omega
    · go_wp2
      go_ret
      exact ⟨rfl, hbel⟩

end Go.Proofs.YtpclldccjpncdabGreat
