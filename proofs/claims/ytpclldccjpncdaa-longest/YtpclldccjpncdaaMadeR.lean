import Derived.Test.YtpclldccjpncdaaMadeQ
namespace Go.Proofs.Ytpclldccjpncdaa
open Go.RowKit

/-- the entry x while its numbers are put: ws is the world in which the round began; x lies in the next block -/
structure XMade (ws : World) (n : Nat) (tx : ByteArray) (zs : List Int) (vx : Value) (wq : World) : Prop where
  below : Below ws.heap.size ws wq
  x : wq.rowIs ws.heap.size 64 2 (tF (.string tx) vx)
  own : wq.ownsRow (ws.heap.size + 1) 3 1 vx zs.length (zs.map (.int .i64))
  size : 2 ≤ tx.size ∧ tx.size ≤ 3
  z : ∀ y, y ∈ zs → 0 ≤ y ∧ y < (n : Int)
theorem xMade_start (ws : World) (n : Nat) (tx : ByteArray) (h : 2 ≤ tx.size ∧ tx.size ≤ 3) : XMade ws n tx [] (.slice none 0 0) (ws.alloc (.cells #[.string tx, .slice none 0 0] 64)) := by
  refine ⟨below_one _, row_at (row_new ws _ _ 2 rfl) rfl ?_, World.ownsRow_nil _ _ _ _, h, by simp⟩
  intro i hi
  match i, hi with
  | 0, _ => rfl
  | 1, _ => rfl
theorem XMade.drew {ws : World} {n : Nat} {tx : ByteArray} {zs : List Int} {vx : Value} {wq : World} (h : XMade ws n tx zs vx wq) : XMade ws n tx zs vx wq.drew := ⟨h.below.drew, h.x.drew, h.own.drew, h.size, h.z⟩
theorem XMade.later {ws : World} {n : Nat} {tx : ByteArray} {zs : List Int} {vx : Value} {wq w1 : World} (h : XMade ws n tx zs vx wq) (hb : Below wq.heap.size wq w1) : XMade ws n tx zs vx w1 :=
  ⟨below_then h.below hb, h.x.of_block (hb.block _ h.x.lt), own_of_block h.own fun b hb' => hb.block b (h.own.lt b hb').2, h.size, h.z⟩
theorem XMade.grown {ws : World} {n : Nat} {tx : ByteArray} {zs : List Int} {vx : Value} {wq w2 : World} (h : XMade ws n tx zs vx wq) (hg : wq.grownBy w2 vx.ownBlock) : w2.rowIs ws.heap.size 64 2 (tF (.string tx) vx) :=
  row_grown hg h.x (own_farM h.own (by omega))
theorem XMade.add {ws : World} {n : Nat} {tx : ByteArray} {zs : List Int} {vx v' : Value} {r : Nat} {wq w2 : World} (h : XMade ws n tx zs vx wq) (hg : wq.grownBy w2 vx.ownBlock)
    (ho : w2.ownsRow (ws.heap.size + 1) 3 1 v' (zs.length + 1) (zs.map (.int .i64) ++ [.int .i64 (r : Int)])) (hr : (r : Int) < n) : XMade ws n tx (zs ++ [(r : Int)]) v' (w2.setCell ⟨ws.heap.size, 1, none⟩ v') := by
  have hz := h.x.lt
  have hO : OnlyRow ws.heap.size w2 (w2.setCell ⟨ws.heap.size, 1, none⟩ v') := OnlyRow.setCell _ _ _ _
  refine ⟨hO.below (h.below.grown hg (by omega) fun k hk => by have := (h.own.lt k hk).1; omega) (Nat.le_refl _), ((h.grown hg).set 1 v').congr ?_, ?_, h.size, ?_⟩
  · intro i hi
    match i, hi with
    | 0, _ => simp [tF]
    | 1, _ => simp [tF]
  · rw [List.length_append, List.map_append]
    exact own_only hO ho fun e => own_farM ho (Nat.lt_succ_self _) e.symm
  · intro y hy
    simp at hy
    rcases hy with hy | rfl
    · exact h.z y hy
    · exact ⟨by omega, hr⟩

theorem x_cells {w : World} {T : Nat} {a b : Value} (h : w.rowIs T 64 2 (tF a b)) : w.cell? ⟨T, 0, none⟩ = some a ∧ w.cell? ⟨T, 1, none⟩ = some b ∧ w.frozen? ⟨T, 0, none⟩ = false ∧ w.frozen? ⟨T, 1, none⟩ = false :=
  ⟨h.cell (i := 0) (by omega), h.cell (i := 1) (by omega), h.frozen 0, h.frozen 1⟩
/-- the entry, its numbers put -/
theorem XMade.ent {ws : World} {n : Nat} {tx : ByteArray} {zs : List Int} {vx : Value} {wq : World} (h : XMade ws n tx zs vx wq) (h0 : 0 < zs.length) {base : Nat} (hb : base ≤ ws.heap.size + 1) :
    ∃ x : Ent, x.tx = tx ∧ x.list = vx ∧ x.k = zs.length ∧ EntIn wq base x ∧ ∀ q, q < x.k → 0 ≤ x.z q ∧ x.z q < (n : Int) := by
  obtain ⟨hl, h2⟩ := h.own
  rcases h2 with ⟨_, h2⟩ | ⟨g, cap, cur, hv, hg, hh, hnc, _, hcs, ht⟩
  · omega
  · refine ⟨⟨tx, g, zs.length, cap, fun q => zs.getD q 0⟩, rfl, hv.symm, rfl, ⟨cur.size, fun i => cur.getD i undef, ⟨cur, hh, rfl, fun i hi => by simp [hi]⟩, Nat.le_trans hb hg, by show zs.length ≤ cur.size; omega, fun q hq => ?_⟩, fun q hq => ?_⟩
    · have hq' : q < zs.length := hq
      have h3 : (zs.map (Value.int IntKind.i64))[q]? = some (.int .i64 (zs.getD q 0)) := by simp [hq']
      rw [← ht, List.getElem?_take, if_pos (by omega)] at h3
      simp only [Array.getElem?_toList] at h3
      simp [Array.getD_eq_getD_getElem?, h3]
    · have hq' : q < zs.length := hq
      have : zs.getD q 0 ∈ zs := by simp [List.getD_eq_getElem?_getD, hq']
      exact h.z _ this

theorem laid_some (x : Ent) (es : List Ent) (n : Nat) (v : Value) (base : Nat) (w : World) (hn : es.length = n) (hm : n ≤ 40) (ho : w.ownsRow base 64 2 v n (flat es)) :
    Calls Try.prog 28 #[v, .agg #[.string x.tx, x.list]] w fun e w' => ∃ (vo : Option Addr) (m vc : Nat), e = .returned (.slice vo m vc) ∧ (layL x es).length = m ∧ w'.ownsRow w.heap.size 64 2 (.slice vo m vc) m (flat (layL x es)) ∧ Below w.heap.size w w' := by
  refine (laid_any x es n v base w hn hm ho).mono ?_
  rintro e w' ⟨⟨v', rfl, hown⟩, hb⟩
  obtain ⟨vo, vc, gv, rfl, _, _⟩ := own_cells hown
  exact ⟨vo, _, vc, rfl, rfl, hown, hb⟩
theorem size29 : (Try.prog.info? 26).map (·.size) = some 2 := by kernel_rfl

/-! ### what 'made' gives -/
def MadeRes (w : World) (e : Ending) (w' : World) : Prop := ∃ (L : Lay) (k : Nat), e = .returned (.agg #[.slice L.na L.n L.nc, .slice L.ea L.m L.ec]) ∧ L.In w'.heap.size w' ∧ L.err = 0 ∧ 1 ≤ k ∧ k ≤ 12 ∧
  (∀ j, j < k → isText L.m L.tx (ltr j)) ∧ ((List.range L.m).countP fun i => decide ((L.tx i).size = 1)) = k ∧ Below w.heap.size w w'
theorem row2_cells {w : World} {b : Nat} {t : TypeId} {f : Nat → Value} (h : w.rowIs b t 2 f) : w.heap[b]? = some (.cells #[f 0, f 1] t (0, 0)) := by
  obtain ⟨c, hc, hs, hf⟩ := h
  have : c = #[f 0, f 1] := by
    apply Array.ext
    · simp [hs]
    · intro i h1 h2
      have := hf i (by omega)
      rw [Array.getElem?_eq_getElem h1] at this
      injection this with this
      rw [this]
      match i, (show i < 2 by omega) with
      | 0, _ => rfl
      | 1, _ => rfl
  rw [hc, this]
theorem countP_at (es : List Ent) (p : Ent → Bool) : (List.range es.length).countP (fun i => p (es.getD i default)) = es.countP p := by
  induction es with
  | nil => rfl
  | cons e r ih =>
    rw [List.length_cons, List.range_succ_eq_map, List.countP_cons, List.countP_cons, List.countP_map, ← ih]
    congr 1

theorem made_res {w : World} {R T : Nat} {ns : List Nd} {vo : Option Addr} {n vc : Nat} {es : List Ent} {eo : Option Addr} {m ec k : Nat} {wr w' : World} (h : MadeE w R T ns (.slice vo n vc) es (.slice eo m ec) wr) (hg : GoodE n k es) (hn : ns.length = n) (hn1 : n ≤ 48) (hm : es.length = m) (hm1 : m ≤ 48) (hk : 1 ≤ k ∧ k ≤ 12)
    (hO : OnlyRow R wr w') : MadeRes w (.returned (.agg #[.slice vo n vc, .slice eo m ec])) w' := by
  have e1 := h.eR
  have hN : w'.ownsRow (w.heap.size + 3) 60 3 (.slice vo n vc) n (flatN ns) := by have := own_only hO h.ownN fun e => own_farM h.ownN (by omega) e.symm; rw [hn] at this; exact this
  have hE : w'.ownsRow (w.heap.size + 3) 64 2 (.slice eo m ec) m (flat es) := by have := own_only hO h.ownE fun e => own_farM h.ownE (by omega) e.symm; rw [hm] at this; exact this
  obtain ⟨vo', vc', gn, hv, hna, hnc⟩ := own_cells hN
  obtain ⟨eo', ec', ge, hv', hea, hec⟩ := ents_cells hm hE
  injection hv with a1 a2 a3
  injection hv' with a4 a5 a6
  subst a1 a3 a4 a6
  have hat : ∀ i, i < m → es[i]? = some (es.getD i default) := fun i hi => by rw [List.getD_eq_getElem?_getD, List.getElem?_eq_getElem (by omega)]; rfl
  have hmem : ∀ i, i < m → es.getD i default ∈ es := fun i hi => List.mem_of_getElem? (hat i hi)
  refine ⟨⟨n, m, vo, eo, vc, ec, gn, 0, ge, 0, fun j => (ndAt ns j).1, fun j => (ndAt ns j).2.1, fun j => (ndAt ns j).2.2, fun i => (es.getD i default).tx, fun i => some ⟨(es.getD i default).b, 0, none⟩, fun i => (es.getD i default).k, fun i => (es.getD i default).c, fun i => (es.getD i default).b, fun _ => 0, fun i => (es.getD i default).z⟩, k, rfl, ⟨?_, ?_⟩, ?_, hk.1, hk.2, ?_, ?_, hO.below h.below (by omega)⟩
  · refine ⟨fun h0 => (hna h0).1, fun h0 => (hna h0).2.1, fun i hi => ?_, fun i hi => ?_, fun i hi => ?_, by show n * 24 ≤ _; omega⟩
    · have := hnc (i * 3) _ (by have hi' : i < n := hi; omega) (flatN_at ns i (by have hi' : i < n := hi; omega)).1
      simpa using this
    · have := hnc (i * 3 + 1) _ (by have hi' : i < n := hi; omega) (flatN_at ns i (by have hi' : i < n := hi; omega)).2.1
      simpa using this
    · have := hnc (i * 3 + 2) _ (by have hi' : i < n := hi; omega) (flatN_at ns i (by have hi' : i < n := hi; omega)).2.2
      simpa using this
  · refine ⟨fun h0 => (hea h0).1, fun h0 => (hea h0).2.1, fun i hi => ?_, fun i hi => ?_, fun i hi => ?_, by show m * 40 ≤ _; omega⟩
    · have := (hec i _ (hat i hi)).1
      simpa using this
    · have := (hec i _ (hat i hi)).2
      simpa [Ent.list] using this
    · obtain ⟨N, f, hr, hb, hkn, hz⟩ := h.ints _ (hmem i hi)
      have hr' := hO.row hr (by omega)
      have hk4 := (hg.kk _ (hmem i hi)).2
      refine ⟨fun _ => rfl, fun _ => hr'.lt, fun q hq => ?_, by show (es.getD i default).k * 8 ≤ _; omega⟩
      have hq' : q < (es.getD i default).k := hq
      have := hr'.cell (i := q) (by omega)
      rw [hz q hq'] at this
      simpa using this
  · refine (err_ok hn1 hm1 ?_ ?_).symm
    · exact (nodesB_true (by have := h.ok; unfold NsOk at this; rw [hn] at this; exact this)).symm
    · refine (entriesB_yes fun i hi => ⟨(entryB_yes ⟨hg.size _ (hmem i hi), hg.kk _ (hmem i hi), hg.z _ (hmem i hi)⟩).symm, fun h0 => ?_⟩).symm
      have hi' : i < m := hi
      have h1 := hat i hi'
      have h2 := hat (i - 1) (by omega)
      obtain ⟨p1, q1⟩ := List.getElem?_eq_some_iff.1 h1
      obtain ⟨p2, q2⟩ := List.getElem?_eq_some_iff.1 h2
      have := List.pairwise_iff_getElem.1 hg.rise (i - 1) i p2 p1 (by omega)
      rw [q1, q2] at this
      exact this
  · intro j hj
    obtain ⟨e, he, ht⟩ := hg.all j hj
    obtain ⟨i, hi, rfl⟩ := List.mem_iff_getElem.1 he
    refine ⟨i, by show i < m; omega, ?_⟩
    show (es.getD i default).tx = _
    rw [← ht]
    congr 1
    rw [List.getD_eq_getElem?_getD, List.getElem?_eq_getElem hi]; rfl
  · show (List.range m).countP (fun i => decide ((es.getD i default).tx.size = 1)) = k
    rw [← hm, countP_at es fun e => decide (e.tx.size = 1)]
    exact hg.ones

end Go.Proofs.Ytpclldccjpncdaa
