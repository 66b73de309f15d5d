import Derived.Test.YtpclldccjpncdabB13
namespace Go.Proofs.Ytpclldccjpncdab
open Go.RowKit

/-- entries as a table's -/
def layM (em : List Em) (ea : Option Addr) (ec eb eo : Nat) : Lay := { n := 0, m := (esM em).length, na := none, ea := ea, nc := 0, ec := ec, nb := 0, no := 0, eb := eb, eo := eo, p := fun _ => 0, s := fun _ => 0, t := fun _ => 0, tx := txE (esM em), la := laM em, k := kE (esM em), lc := lcM em, lb := fun i => aB (laM em i), lo := fun i => aO (laM em i), z := zE (esM em) }
theorem range_getD (l : List Int) : (List.range l.length).map (fun i => l.getD i 0) = l := by
  refine List.ext_getElem (by simp) fun i h1 h2 => ?_
  simp only [List.length_map, List.length_range] at h1
  simp [h1]
theorem numsW_Q (em : List Em) (ea : Option Addr) (ec eb eo : Nat) (s : ByteArray) : ∀ q, (∀ j, j < q → 0 < lenAt (esM em).length (txE (esM em)) s (pos (esM em).length (txE (esM em)) s j)) → numsW (layM em ea ec eb eo) s q = numsQ (esM em) s q
  | 0, _ => rfl
  | q + 1, h => by
    have ih := numsW_Q em ea ec eb eo s q fun j hj => h j (by omega)
    have ht := lenAt_text (h q (by omega))
    have hq : numsQ (esM em) s (q + 1) = numsQ (esM em) s q ++ look (esM em) (piece (esM em).length (txE (esM em)) s q) := by simp [numsQ, List.range_succ]
    rw [numsW_succ, ih, hq]
    congr 1
    rw [piece, look_idx ht]
    show (List.range ((esM em).getD (pidx (esM em).length (txE (esM em)) s q) default).zs.length).map (fun i => ((esM em).getD (pidx (esM em).length (txE (esM em)) s q) default).zs.getD i 0) = _
    rw [range_getD]
    rfl

theorem numbersE_any (em : List Em) (ea : Option Addr) (ec eb eo : Nat) (s : ByteArray) (w : World) (h : EmIn w.heap.size w ea eb eo em) (hm : em.length ≤ 48) (htx : ∀ e ∈ esM em, (1 ≤ e.tx.size ∧ e.tx.size ≤ 3) ∧ 1 ≤ e.zs.length ∧ e.zs.length ≤ 4) (hs : s.size ≤ 24) :
    Calls Try.prog 58 #[.slice ea em.length ec, .string s] w fun e w' => Below w.heap.size w w' ∧
      ((∃ l ao c, numsE (esM em) s = some l ∧ e = .returned (.tuple #[.slice ao l.length c, .bool true]) ∧ Hid (w'.ownsRow w.heap.size 3 1 (.slice ao l.length c) l.length (l.map (Value.int .i64)))) ∨
       (numsE (esM em) s = none ∧ e = .returned (.tuple #[.slice none 0 0, .bool false]))) := by
  have hl : (esM em).length = em.length := List.length_map _
  have hE := h.entries (by omega)
  have hin : ∀ i, i < (esM em).length → (esM em).getD i default ∈ esM em := fun i hi => by rw [getD_at hi]; exact List.getElem_mem hi
  have hc := numbers_any (layM em ea ec eb eo) s ea ec w hE (by show (esM em).length ≤ 48; omega) (fun i hi => (htx _ (hin i hi)).1) (fun i hi => (htx _ (hin i hi)).2) hs
  have key : (layM em ea ec eb eo).m = em.length := hl
  have ka : #[Value.slice ea em.length ec, .string s] = #[Value.slice ea (layM em ea ec eb eo).m ec, .string s] := by rw [key]
  rw [ka]
  refine hc.mono ?_
  rintro e w' ⟨q, hq, hb, hor⟩
  refine ⟨hb, ?_⟩
  rcases hor with ⟨hp, ao, c, he, hown⟩ | ⟨hp, he⟩
  · rw [numsW_Q em ea ec eb eo s q hq.go] at he hown
    exact .inl ⟨numsQ (esM em) s q, ao, c, numsE_some hq hp, he, hown⟩
  · exact .inr ⟨numsE_none hq hp, he⟩

/-! the draft in memory -/
/-- all but one block stays -/
structure KeepG (g : Nat) (w w' : World) : Prop where
  size : w.heap.size ≤ w'.heap.size
  cell : ∀ b o, b < w.heap.size → b ≠ g → w'.cell? ⟨b, o, none⟩ = w.cell? ⟨b, o, none⟩
theorem KeepG.below {g : Nat} {w w' : World} (h : Below w.heap.size w w') : KeepG g w w' := ⟨h.size, fun _ _ hb _ => h.cell (by exact hb)⟩
theorem KeepG.only {g : Nat} {w w' : World} (h : OnlyRow g w w') : KeepG g w w' := ⟨Nat.le_of_eq h.size.symm, fun b o _ hn => World.cell?_of_block (w := w) (a := ⟨b, o, none⟩) (h.block b hn)⟩
theorem KeepG.trans {g : Nat} {a b c : World} (h : KeepG g a b) (k : KeepG g b c) : KeepG g a c := ⟨Nat.le_trans h.size k.size, fun x o hx hn => (k.cell x o (Nat.lt_of_lt_of_le hx h.size) hn).trans (h.cell x o hx hn)⟩
/-- all but one block stays, block by block -/
structure KeepH (g : Nat) (w w' : World) : Prop where
  size : w.heap.size ≤ w'.heap.size
  block : ∀ b, b < w.heap.size → b ≠ g → w'.heap[b]? = w.heap[b]?
theorem KeepH.below {g : Nat} {w w' : World} (h : Below w.heap.size w w') : KeepH g w w' := ⟨h.size, fun b hb _ => h.block b hb⟩
theorem KeepH.only {g : Nat} {w w' : World} (h : OnlyRow g w w') : KeepH g w w' := ⟨Nat.le_of_eq h.size.symm, fun b _ hn => h.block b hn⟩
theorem KeepH.trans {g : Nat} {a b c : World} (h : KeepH g a b) (k : KeepH g b c) : KeepH g a c := ⟨Nat.le_trans h.size k.size, fun x hx hn => (k.block x (Nat.lt_of_lt_of_le hx h.size) hn).trans (h.block x hx hn)⟩
theorem KeepH.cells {g : Nat} {w w' : World} (h : KeepH g w w') : KeepG g w w' := ⟨h.size, fun b o hb hn => World.cell?_of_block (w := w) (a := ⟨b, o, none⟩) (h.block b hb hn)⟩
theorem KeepH.row {g : Nat} {w w' : World} (h : KeepH g w w') {b : Nat} {t : TypeId} {n : Nat} {f : Nat → Value} (hr : w.rowIs b t n f) (hn : b ≠ g) : w'.rowIs b t n f := hr.of_block (h.block b hr.lt hn)
theorem IntsIn.keep {g : Nat} {w w' : World} {ao : Option Addr} {k b off : Nat} {z : Nat → Int} (h : IntsIn w.heap.size w ao k b off z) (hk : KeepG g w w') (hn : 0 < k → b ≠ g) : IntsIn w'.heap.size w' ao k b off z :=
  ⟨h.addr, fun h0 => Nat.lt_of_lt_of_le (h.lt h0) hk.size, fun i hi => (hk.cell _ _ (h.lt (by omega)) (hn (by omega))).trans (h.cell i hi), h.le⟩
theorem SlIn.keep {g : Nat} {w w' : World} {v : Value} {zs : List Int} (h : SlIn w.heap.size w v zs) (hk : KeepG g w w') (hn : 0 < zs.length → aB (slA v) ≠ g) : SlIn w'.heap.size w' v zs := ⟨h.shape, h.ints.keep hk hn⟩
theorem MemIn.keep {g : Nat} {w w' : World} {la : Option Addr} {gv : Nat} {l : List Sp} (h : MemIn w.heap.size w la gv l) (hk : KeepG g w w') (hn : 0 < l.length → gv ≠ g) : MemIn w'.heap.size w' la gv l :=
  (h.same fun h0 o => hk.cell _ o (h.lt h0) (hn h0)).mono hk.size
theorem EmIn.keep {g : Nat} {w w' : World} {ea : Option Addr} {eb eo : Nat} {em : List Em} (h : EmIn w.heap.size w ea eb eo em) (hk : KeepG g w w') (hn : 0 < em.length → eb ≠ g) (hi : ∀ x ∈ em, 0 < x.1.zs.length → aB (slA x.2) ≠ g) : EmIn w'.heap.size w' ea eb eo em :=
  ⟨h.addr, fun h0 => Nat.lt_of_lt_of_le (h.lt h0) hk.size, fun i hi => (hk.cell _ _ (h.lt (by omega)) (hn (by omega))).trans (h.text i hi), fun i hi => (hk.cell _ _ (h.lt (by omega)) (hn (by omega))).trans (h.list i hi), fun x hx => (h.ints x hx).keep hk (hi x hx)⟩
def drF (la : Option Addr) (n lc : Nat) (ea : Option Addr) (m ec : Nat) (sv : Value) (an : Int) : Nat → Value := fun j => #[Value.slice la n lc, .slice ea m ec, sv, .int .i64 an].getD j undef
structure DrA (g : Nat) (K : Wk) (em : List Em) (la ea : Option Addr) (lc ec gv eb eo : Nat) (sv : Value) (w : World) : Prop where
  row : w.rowIs g 76 4 (drF la K.ls.length lc ea em.length ec sv K.anchor)
  es : esM em = K.es
  list : MemIn w.heap.size w la gv K.ls
  ents : EmIn w.heap.size w ea eb eo em
  stem : SlIn w.heap.size w sv K.stem
  farL : 0 < K.ls.length → gv ≠ g
  farE : 0 < em.length → eb ≠ g
  farI : ∀ x ∈ em, 0 < x.1.zs.length → aB (slA x.2) ≠ g
  farS : 0 < K.stem.length → aB (slA sv) ≠ g
theorem DrA.below {g : Nat} {K : Wk} {em : List Em} {la ea : Option Addr} {lc ec gv eb eo : Nat} {sv : Value} {w w' : World} (h : DrA g K em la ea lc ec gv eb eo sv w) (hb : Below w.heap.size w w') : DrA g K em la ea lc ec gv eb eo sv w' :=
  ⟨h.row.of_block (hb.block _ h.row.lt), h.es, h.list.keep (.below hb) h.farL, h.ents.keep (.below hb) h.farE h.farI, h.stem.keep (.below hb) h.farS, h.farL, h.farE, h.farI, h.farS⟩
theorem DrA.drew {g : Nat} {K : Wk} {em : List Em} {la ea : Option Addr} {lc ec gv eb eo : Nat} {sv : Value} {w : World} (h : DrA g K em la ea lc ec gv eb eo sv w) : DrA g K em la ea lc ec gv eb eo sv w.drew := h.below (Below.refl _ _).drew
theorem row4F {w : World} {g : Nat} {t : TypeId} {f : Nat → Value} (h : w.rowIs g t 4 f) : (w.cell? ⟨g, 0, none⟩ = some (f 0) ∧ w.cell? ⟨g, 1, none⟩ = some (f 1) ∧ w.cell? ⟨g, 2, none⟩ = some (f 2) ∧ w.cell? ⟨g, 3, none⟩ = some (f 3)) ∧ (w.frozen? ⟨g, 0, none⟩ = false ∧ w.frozen? ⟨g, 1, none⟩ = false ∧ w.frozen? ⟨g, 2, none⟩ = false ∧ w.frozen? ⟨g, 3, none⟩ = false) :=
  ⟨⟨h.cell (i := 0) (by omega), h.cell (i := 1) (by omega), h.cell (i := 2) (by omega), h.cell (i := 3) (by omega)⟩, h.frozen 0, h.frozen 1, h.frozen 2, h.frozen 3⟩
/-- the draft, wherever its lists lie -/
def Dr (g : Nat) (K : Wk) (w : World) : Prop := ∃ (em : List Em) (la ea : Option Addr) (lc ec gv eb eo : Nat) (sv : Value), DrA g K em la ea lc ec gv eb eo sv w

end Go.Proofs.Ytpclldccjpncdab

namespace Go.Proofs.Ytpclldccjpncdab
open Go.RowKit

theorem GoodK.tex {K : Wk} (h : GoodK K) : ∀ e ∈ K.es, (1 ≤ e.tx.size ∧ e.tx.size ≤ 3) ∧ 1 ≤ e.zs.length ∧ e.zs.length ≤ 4 := fun e he => ⟨(h.ent e he).1, (h.ent e he).2.1⟩
theorem GoodK.numbers {K : Wk} {g : Nat} {em : List Em} {la ea : Option Addr} {lc ec gv eb eo : Nat} {sv : Value} {w : World} (hK : GoodK K) (h : DrA g K em la ea lc ec gv eb eo sv w) (s : ByteArray) (hs : s.size ≤ 24) :
    Calls Try.prog 58 #[.slice ea em.length ec, .string s] w fun e w' => Below w.heap.size w w' ∧
      ((∃ l ao c, numsE K.es s = some l ∧ e = .returned (.tuple #[.slice ao l.length c, .bool true]) ∧ Hid (w'.ownsRow w.heap.size 3 1 (.slice ao l.length c) l.length (l.map (Value.int .i64)))) ∨
       (numsE K.es s = none ∧ e = .returned (.tuple #[.slice none 0 0, .bool false]))) := by
  have hl : em.length = K.es.length := by rw [← h.es]; exact (List.length_map _).symm
  have := numbersE_any em ea ec eb eo s w h.ents (by rw [hl]; exact hK.es) (by rw [h.es]; exact hK.tex) hs
  rw [h.es] at this
  exact this

set_option maxRecDepth 100000 in
set_option maxHeartbeats 2000000 in
theorem reset_any (B g : Nat) (K : Wk) (em : List Em) (la ea : Option Addr) (lc ec gv eb eo : Nat) (sv : Value) (w : World) (s : ByteArray) (hK : GoodK K) (h : DrA g K em la ea lc ec gv eb eo sv w) (hB : B ≤ g) (hs : s.size ≤ 6) (h0 : s.size ≠ 0) :
    Calls Try.prog 59 #[.pointer (some ⟨g, 0, none⟩), .string s] w fun e w' => ∃ b : Value, e = .returned b ∧ Hid ((numsE K.es s = none ∧ b = .bool false) ∨ (∃ l sv', numsE K.es s = some l ∧ b = .bool true ∧ DrA g { K with stem := l.dropLast, anchor := l.getLastD 0 } em la ea lc ec gv eb eo sv' w')) ∧ Hid (Below B w w') ∧ Hid (KeepH g w w') := by
  have HC : Hid (∀ wx, Below w.heap.size w wx → Calls Try.prog 58 #[.slice ea em.length ec, .string s] wx fun e w' => Below wx.heap.size wx w' ∧
      ((∃ l ao c, numsE K.es s = some l ∧ e = .returned (.tuple #[.slice ao l.length c, .bool true]) ∧ Hid (w'.ownsRow wx.heap.size 3 1 (.slice ao l.length c) l.length (l.map (Value.int .i64)))) ∨
       (numsE K.es s = none ∧ e = .returned (.tuple #[.slice none 0 0, .bool false])))) := fun wx hb => hK.numbers (h.below hb) s (by omega)
  have HK : Hid (GoodK K) := hK
  have HD : Hid (DrA g K em la ea lc ec gv eb eo sv w) := h
  have hg := h.row.lt
  obtain ⟨⟨c0, c1, c2, c3⟩, f0, f1, f2, f3⟩ := row4F h.row
  have c1' : w.cell? ⟨g, 1, none⟩ = some (.slice ea em.length ec) := c1
  clear h hK c0 c1 c2 c3 f0 f1 f2 f3
  go_enter Try.func59, Try.ntmps59
  go_wp2_with fail
  refine (HC.out _ (Below.refl _ _)).mono ?_
  rintro e w1 ⟨hb1, hor⟩
  have hBw : B ≤ w.heap.size := by omega
  have HB1 : Hid (Below B w w1) := hb1.mono hBw
  have HKB : Hid (KeepH g w w1) := .below hb1
  rcases hor with ⟨l, ao, c, hl, rfl, hown⟩ | ⟨hl, rfl⟩
  · have hla := numsE_all HK.out hl
    have hne : l ≠ [] := hla.2.1 h0
    have hlen : 0 < l.length := List.length_pos_iff.2 hne
    have hl24 : l.length ≤ 24 := by have := hla.1; omega
    have hdl : l.dropLast.length = l.length - 1 := List.length_dropLast
    obtain ⟨vo, vc, gn, hv, hva, hvc⟩ := ownC_cells hown.out
    injection hv with hv1 _ hv3
    obtain ⟨ha1, ha2, ha3⟩ := hva hlen
    rw [← hv1] at ha1
    subst ha1
    have hcap := ownC_cap hown.out
    have HD1 := HD.out.below hb1
    obtain ⟨⟨c0, c1, c2, c3⟩, f0, f1, f2, f3⟩ := row4F HD1.row
    simp only [drF] at c0 c1 c2 c3
    have hlast : w1.cell? ⟨gn, l.length - 1, none⟩ = some (.int .i64 (l.getLastD 0)) := by
      refine hvc _ _ (by omega) ?_
      rw [List.getElem?_map, List.getElem?_eq_getElem (by omega), List.getLastD_eq_getLast?, List.getLast?_eq_some_getLast hne, List.getLast_eq_getElem]
      rfl
    have HSL : Hid (SlIn w1.heap.size w1 (.slice (some ⟨gn, 0, none⟩) (l.length - 1) c) l.dropLast) := by
      show SlIn _ _ _ _
      rw [← hdl]
      refine SlIn.of (b := gn) (o := 0) ⟨fun _ => rfl, fun _ => ha2, fun i hi => ?_, by omega⟩
      rw [Nat.zero_add]
      refine hvc i _ (by omega) ?_
      rw [List.getElem?_map, List.getElem?_eq_getElem (by omega), List.getD_eq_getElem?_getD, List.getElem?_eq_getElem hi, List.getElem_dropLast]
      rfl
    have HNL : Hid (numsE K.es s = some l) := hl
    obtain ⟨n, hn⟩ : ∃ n, n = l.length := ⟨_, rfl⟩
    obtain ⟨x, hx⟩ : ∃ x, x = l.getLastD 0 := ⟨_, rfl⟩
    have HX : Hid (x = l.getLastD 0) := hx
    rw [← hn] at HSL hlast hl24 hlen hcap ⊢
    rw [← hx] at hlast
    have hgn : gn ≠ g := by omega
    have r1 := HD1.row.set 2 (.slice (some ⟨gn, 0, none⟩) (n - 1) c)
    have r2 := r1.set 3 (.int .i64 x)
    have hl2 : (w1.setCell ⟨g, 2, none⟩ (.slice (some ⟨gn, 0, none⟩) (n - 1) c)).cell? ⟨gn, n - 1, none⟩ = some (.int .i64 x) := (OnlyRow.setCell _ _ _ _).cell hlast (by show gn ≠ g; exact hgn)
    have z3 := r1.frozen 3
    have y3 := r1.cell (i := 3) (by omega)
    simp only [drF] at y3
    have HO : Hid (OnlyRow g w1 ((w1.setCell ⟨g, 2, none⟩ (.slice (some ⟨gn, 0, none⟩) (n - 1) c)).setCell ⟨g, 3, none⟩ (.int .i64 x))) := (OnlyRow.setCell _ _ _ _).trans (OnlyRow.setCell _ _ _ _)
    have HR2 : Hid (((w1.setCell ⟨g, 2, none⟩ (.slice (some ⟨gn, 0, none⟩) (n - 1) c)).setCell ⟨g, 3, none⟩ (.int .i64 x)).rowIs g 76 4 (drF la K.ls.length lc ea em.length ec (.slice (some ⟨gn, 0, none⟩) (n - 1) c) x)) := r2.congr fun j hj => by
      have : j = 0 ∨ j = 1 ∨ j = 2 ∨ j = 3 := by omega
      rcases this with rfl | rfl | rfl | rfl <;> rfl
    have HD1' : Hid (DrA g K em la ea lc ec gv eb eo sv w1) := HD1
    have hn1 : ((n : Int) - 1) = ((n - 1 : Nat) : Int) := by omega
    have hn2 : ((n : Int) == 0) = false := by simp; omega
    have hn3 : (n == 0) = false := by simp; omega
    have hn4 : (((n : Int) - 1)).toNat = n - 1 := by omega
    have HGN : Hid (gn ≠ g) := hgn
    clear hn hx r1 r2 HD1 hv1 hv3 hvc hva hl hla hne hdl hown HC
    go_wp2
    go_ret
    refine ⟨_, rfl, .inr ⟨l, .slice (some ⟨gn, 0, none⟩) (n - 1) c, HNL.out, rfl, ?_⟩, HO.out.below HB1.out hB, (HKB.out.trans (.only HO.out))⟩
    have hD := HD1'.out
    have hk : KeepG g w1 ((w1.setCell ⟨g, 2, none⟩ (.slice (some ⟨gn, 0, none⟩) (n - 1) c)).setCell ⟨g, 3, none⟩ (.int .i64 x)) := .only HO.out
    refine ⟨?_, hD.es, hD.list.keep hk hD.farL, hD.ents.keep hk hD.farE hD.farI, HSL.out.keep hk (fun _ => HGN.out), hD.farL, hD.farE, hD.farI, fun _ => HGN.out⟩
    have hr := HR2.out
    rw [HX.out] at hr ⊢
    exact hr
  · have HNN : Hid (numsE K.es s = none) := hl
    clear hl
    go_wp2
    go_ret
    exact ⟨_, rfl, .inl ⟨HNN.out, rfl⟩, HB1, HKB⟩

def rvF (x : Rl) : Nat → Value := fun j => #[Value.string x.reset, .int .i64 x.before, .int .i64 x.level, .string x.text, .string x.more].getD j undef
/-- the place of a rule's new node, and whether there is one -/
def plA (l : List Sp) (an : Int) (r : Rl) : Int := if r.before = 0 then (behindS l an r.level : Nat) else if r.level ≠ r.before then 0 else if startS l an r.before < 0 then 0 else startS l an r.before
def plB (l : List Sp) (an : Int) (r : Rl) : Bool := if r.before = 0 then true else if r.level ≠ r.before then false else decide (0 ≤ startS l an r.before)

set_option maxRecDepth 100000 in
set_option maxHeartbeats 2000000 in
theorem placeFor_any (g : Nat) (K : Wk) (em : List Em) (la ea : Option Addr) (lc ec gv eb eo : Nat) (sv : Value) (w : World) (r : Rl) (hK : GoodK K) (hA : 0 ≤ K.anchor ∧ K.anchor < K.names) (h : DrA g K em la ea lc ec gv eb eo sv w) :
    Calls Try.prog 60 #[.pointer (some ⟨g, 0, none⟩), r.v] w fun e w' => e = .returned (.tuple #[.int .i64 (plA K.ls K.anchor r), .bool (plB K.ls K.anchor r)]) ∧ Below w.heap.size w w' := by
  obtain ⟨rs, be, lv, tx, mo⟩ := r
  obtain ⟨a, ha⟩ : ∃ a, a = plA K.ls K.anchor ⟨rs, be, lv, tx, mo⟩ := ⟨_, rfl⟩
  obtain ⟨b, hb⟩ : ∃ b, b = plB K.ls K.anchor ⟨rs, be, lv, tx, mo⟩ := ⟨_, rfl⟩
  have HA : Hid (a = plA K.ls K.anchor ⟨rs, be, lv, tx, mo⟩ ∧ b = plB K.ls K.anchor ⟨rs, be, lv, tx, mo⟩) := ⟨ha, hb⟩
  rw [← ha, ← hb]
  clear ha hb
  have HIN : Hid (∃ x ∈ K.ls, x.name = K.anchor) := hK.name K.anchor hA.1 hA.2
  have hl48 := hK.ls
  obtain ⟨W, hW⟩ : ∃ W, W = w.alloc (.cells #[.string rs, .int .i64 be, .int .i64 lv, .string tx, .string mo] 48) := ⟨_, rfl⟩
  have HD : Hid (DrA g K em la ea lc ec gv eb eo sv W) := by show DrA _ _ _ _ _ _ _ _ _ _ _ _; rw [hW]; exact h.below (below_one _)
  have HB0 : Hid (Below w.heap.size w W) := by show Below _ _ _; rw [hW]; exact below_one _
  have HRW : Hid (W.rowIs w.heap.size 48 5 (rvF ⟨rs, be, lv, tx, mo⟩)) := by show World.rowIs _ _ _ _ _; rw [hW]; exact row_new _ _ _ 5 rfl
  have HC1 : Hid (∀ wz, Below W.heap.size W wz → Calls Try.prog 77 #[.slice la K.ls.length lc, .int .i64 K.anchor, .int .i64 lv] wz fun e w' => e = .returned (.int .i64 (behindS K.ls K.anchor lv : Nat)) ∧ Below wz.heap.size wz w') := fun wz hb => by
    refine (placeBehind_any la lc gv K.ls K.anchor lv wz (by omega) HIN.out (HD.out.below hb).list).mono ?_
    rintro e w' ⟨he, hw⟩
    exact ⟨he, by rw [hw]; exact Below.refl _ _⟩
  have HC2 : Hid (∀ wz, Below W.heap.size W wz → Calls Try.prog 78 #[.slice la K.ls.length lc, .int .i64 K.anchor, .int .i64 be] wz fun e w' => e = .returned (.tuple #[.int .i64 (if startS K.ls K.anchor be < 0 then 0 else startS K.ls K.anchor be), .bool (decide (0 ≤ startS K.ls K.anchor be))]) ∧ Below wz.heap.size wz w') := fun wz hb => by
    refine (placeBefore_any la lc gv K.ls K.anchor be wz (by omega) HIN.out (HD.out.below hb).list).mono ?_
    rintro e w' ⟨he, hw⟩
    exact ⟨he, by rw [hw]; exact Below.refl _ _⟩
  obtain ⟨⟨c0, c1, c2, c3⟩, _⟩ := row4F HD.out.row
  have hg := HD.out.row.lt
  have hw0 := HRW.out.lt
  have r1 : W.cell? ⟨w.heap.size, 1, none⟩ = some (.int .i64 be) := HRW.out.cell (i := 1) (by omega)
  have r2 : W.cell? ⟨w.heap.size, 2, none⟩ = some (.int .i64 lv) := HRW.out.cell (i := 2) (by omega)
  simp only [drF] at c0 c3
  generalize hks : K.ls.length = n at c0 HC1 HC2
  generalize hka : K.anchor = an at c3 HC1 HC2 HA
  have HKA : Hid (K.anchor = an) := hka
  have c0' : W.cell? ⟨g, 0, none⟩ = some (.slice la n lc) := c0
  have c3' : W.cell? ⟨g, 3, none⟩ = some (.int .i64 an) := c3
  clear h hK hA c0 c1 c2 c3 hks hka
  have b0 := Wb.cell (w := W) (B := W.heap.size) (by show g < _; omega) c0'
  have b3 := Wb.cell (w := W) (B := W.heap.size) (by show g < _; omega) c3'
  have b1 := Wb.cell (w := W) (B := W.heap.size) (by show w.heap.size < _; omega) r1
  have b2 := Wb.cell (w := W) (B := W.heap.size) (by show w.heap.size < _; omega) r2
  show Calls Try.prog 60 #[.pointer (some ⟨g, 0, none⟩), .agg #[.string rs, .int .i64 be, .int .i64 lv, .string tx, .string mo]] w _
  go_enter Try.func60, Try.ntmps60
  by_cases hbe : be = 0
  · have HE : Hid (a = (behindS K.ls an lv : Nat) ∧ b = true) := by
      show _ ∧ _
      rw [HA.out.1, HA.out.2, plA, plB]
      exact ⟨if_pos hbe, if_pos hbe⟩
    generalize (behindS K.ls an lv : Nat) = q at HE HC1
    clear HA HC2
    subst hbe
    go_wp2
    rw [← hW]
    clear hW
    refine wp_region_below W.heap.size (by kernel_rfl) (by kernel_rfl) ?_
    repeat (go_big_quiet_step ((go_at_call 77; exact Wb.ofCall _ (Nat.le_refl _) (HC1.out _ (Wb.below _)))))
    refine wpQuiet_nil ?_
    rintro _ ⟨y, rfl⟩
    have hy := y.below
    generalize y.val = w1 at hy
    clear b0 b1 b2 b3
    go_wp2
    go_ret2
    refine ⟨?_, below_then HB0.out hy⟩
    rw [HE.out.1, HE.out.2]
    rfl
  · have hbe' : (be == 0) = false := beq_eq_false_iff_ne.2 hbe
    by_cases hlb : lv = be
    · have HE : Hid (a = (if startS K.ls an be < 0 then 0 else startS K.ls an be) ∧ b = decide (0 ≤ startS K.ls an be)) := by
        show _ ∧ _
        rw [HA.out.1, HA.out.2, plA, plB]
        simp only [if_neg hbe, hlb, ne_eq, not_true_eq_false, if_false]
        exact ⟨trivial, trivial⟩
      generalize (if startS K.ls an be < 0 then 0 else startS K.ls an be) = qa at HE HC2
      generalize decide (0 ≤ startS K.ls an be) = qb at HE HC2
      clear HA HC1 hbe
      subst hlb
      go_wp2
      rw [← hW]
      clear hW
      refine wp_region_below W.heap.size (by kernel_rfl) (by kernel_rfl) ?_
      repeat (go_big_quiet_step ((go_at_call 78; exact Wb.ofCall _ (Nat.le_refl _) (HC2.out _ (Wb.below _)))))
      refine wpQuiet_nil ?_
      rintro _ ⟨y, rfl⟩
      have hy := y.below
      generalize y.val = w1 at hy
      clear b0 b1 b2 b3
      go_wp2
      go_ret2
      refine ⟨?_, below_then HB0.out hy⟩
      rw [HE.out.1, HE.out.2]
      rfl
    · have hlb' : (lv == be) = false := beq_eq_false_iff_ne.2 hlb
      have hlb2 : (lv != be) = true := by simp [hlb]
      have HE : Hid (a = 0 ∧ b = false) := by
        show _ ∧ _
        rw [HA.out.1, HA.out.2, plA, plB]
        exact ⟨by rw [if_neg hbe, if_pos hlb], by rw [if_neg hbe, if_pos hlb]⟩
      clear HA HC1 HC2 hbe hlb
      go_wp2
      go_ret2
      refine ⟨?_, below_one _⟩
      rw [HE.out.1, HE.out.2]
      rfl

end Go.Proofs.Ytpclldccjpncdab

namespace Go.Proofs.Ytpclldccjpncdab
open Go.RowKit

theorem sizeNodC : (Try.prog.info? 60).map (·.size) = some 3 := by kernel_rfl
theorem new_atC (w : World) (cs : Array Value) (t : TypeId) {B : Nat} (hB : w.heap.size = B) : (w.alloc (.cells cs t)).heap[B]? = some (.cells cs t (0, 0)) := hB ▸ heap_alloc_new w _

set_option maxRecDepth 100000 in
set_option maxHeartbeats 1000000 in
theorem nodeBehind_any (p s t : Int) (x : Sp) (w : World) (hp : 0 ≤ p ∧ p ≤ 250) (hs : 0 ≤ s ∧ s ≤ 250) (ht : 0 ≤ t ∧ t ≤ 250) (ho : x.old = false) (hx : x.str = 1 ∨ x.str = 2 ∨ x.str = 3) :
    Calls Try.prog 64 #[.agg #[.int .i64 p, .int .i64 s, .int .i64 t], .int .i64 x.str] w fun e w' => e = .returned (.agg #[.int .i64 (wgt p s t x).p, .int .i64 (wgt p s t x).s, .int .i64 (wgt p s t x).t]) ∧ Below w.heap.size w w' := by
  have hb : ¬ x.old = true := by rw [ho]; simp
  rcases hx with hx | hx | hx
  · have HE : Hid ((wgt p s t x).p = p + 1 ∧ (wgt p s t x).s = 8 ∧ (wgt p s t x).t = 8) := by
      show _ ∧ _ ∧ _
      unfold wgt
      rw [if_neg hb, if_pos hx]
      exact ⟨rfl, rfl, rfl⟩
    rw [HE.out.1, HE.out.2.1, HE.out.2.2, hx]
    clear hx ho hb HE
    go_enter Try.func64, Try.ntmps64
    go_wp2
    refine bodyPost_ret (results_cell_row rfl _ _ (w.heap.size + 1) 60 _ (0, 0) _ (by rfl) (new_atC _ _ _ (by simp)) Try.underlying60 rfl sizeNodC) rfl ?_
    exact ⟨rfl, below_then (below_one _) (below_one _)⟩
  · have HE : Hid ((wgt p s t x).p = p ∧ (wgt p s t x).s = s + 1 ∧ (wgt p s t x).t = 8) := by
      show _ ∧ _ ∧ _
      unfold wgt
      rw [if_neg hb, if_neg (by rw [hx]; decide), if_pos hx]
      exact ⟨rfl, rfl, rfl⟩
    rw [HE.out.1, HE.out.2.1, HE.out.2.2, hx]
    clear hx ho hb HE
    go_enter Try.func64, Try.ntmps64
    go_wp2
    refine bodyPost_ret (results_cell_row rfl _ _ (w.heap.size + 1) 60 _ (0, 0) _ (by rfl) (new_atC _ _ _ (by simp)) Try.underlying60 rfl sizeNodC) rfl ?_
    exact ⟨rfl, below_then (below_one _) (below_one _)⟩
  · have HE : Hid ((wgt p s t x).p = p ∧ (wgt p s t x).s = s ∧ (wgt p s t x).t = t + 1) := by
      show _ ∧ _ ∧ _
      unfold wgt
      rw [if_neg hb, if_neg (by rw [hx]; decide), if_neg (by rw [hx]; decide), if_pos hx]
      exact ⟨rfl, rfl, rfl⟩
    rw [HE.out.1, HE.out.2.1, HE.out.2.2, hx]
    clear hx ho hb HE
    go_enter Try.func64, Try.ntmps64
    go_wp2
    refine bodyPost_ret (results_cell_row rfl _ _ (w.heap.size + 1) 60 _ (0, 0) _ (by rfl) (new_atC _ _ _ (by simp)) Try.underlying60 rfl sizeNodC) rfl ?_
    exact ⟨rfl, below_then (below_one _) (below_one _)⟩

set_option maxRecDepth 100000 in
set_option maxHeartbeats 1000000 in
theorem fits_any (p s t : Int) (y : Sp) (w : World) :
    Calls Try.prog 65 #[.agg #[.int .i64 y.p, .int .i64 y.s, .int .i64 y.t], .agg #[.int .i64 p, .int .i64 s, .int .i64 t], .int .i64 y.str] w fun e w' => e = .returned (.bool (okW p s t y)) ∧ Below w.heap.size w w' := by
  obtain ⟨yn, st, yo, yp, ys, yt⟩ := y
  obtain ⟨b1, h1⟩ : ∃ b, b = nodeB yp ys yt := ⟨_, rfl⟩
  obtain ⟨b2, h2⟩ : ∃ b, b = aboveB yp ys yt p s t := ⟨_, rfl⟩
  obtain ⟨sg, h3⟩ : ∃ b, b = stI p s t yp ys yt := ⟨_, rfl⟩
  obtain ⟨r, hr⟩ : ∃ b, b = okW p s t ⟨yn, st, yo, yp, ys, yt⟩ := ⟨_, rfl⟩
  have HR : Hid (r = (b2 && decide (sg = st) && b1)) := by show _ = _; rw [hr, h1, h2, h3]; rfl
  have HC1 : Hid (∀ w, Calls Try.prog 67 #[.agg #[.int .i64 yp, .int .i64 ys, .int .i64 yt]] w fun e w' => e = .returned (.bool b1) ∧ Below w.heap.size w w') := fun w => by rw [h1]; exact isNode_any _ _ _ _
  have HC2 : Hid (∀ w, Calls Try.prog 68 #[.agg #[.int .i64 yp, .int .i64 ys, .int .i64 yt], .agg #[.int .i64 p, .int .i64 s, .int .i64 t]] w fun e w' => e = .returned (.bool b2) ∧ Below w.heap.size w w') := fun w => by rw [h2]; exact isAbove_any _ _ _ _ _ _ _
  have HC3 : Hid (∀ w, Calls Try.prog 57 #[.agg #[.int .i64 yp, .int .i64 ys, .int .i64 yt], .agg #[.int .i64 p, .int .i64 s, .int .i64 t]] w fun e w' => e = .returned (.int .i64 sg) ∧ Below w.heap.size w w') := fun w => by rw [h3]; exact strengthP_any _ _ _ _ _ _ _
  rw [← hr]
  clear h1 h2 h3 hr
  show Calls Try.prog 65 #[.agg #[.int .i64 yp, .int .i64 ys, .int .i64 yt], .agg #[.int .i64 p, .int .i64 s, .int .i64 t], .int .i64 st] w _
  obtain ⟨W, hW⟩ : ∃ W, W = (w.alloc (.cells #[.int .i64 yp, .int .i64 ys, .int .i64 yt] 60)).alloc (.cells #[.int .i64 p, .int .i64 s, .int .i64 t] 60) := ⟨_, rfl⟩
  have HA : Hid (W.rowIs w.heap.size 60 3 (ndF yp ys yt)) := by show World.rowIs _ _ _ _ _; rw [hW]; exact (row_new _ _ _ 3 rfl).alloc _
  have HB : Hid (W.rowIs (w.heap.size + 1) 60 3 (ndF p s t)) := by show World.rowIs _ _ _ _ _; rw [hW]; exact row_at (row_new _ _ _ 3 rfl) (by simp) (fun _ _ => rfl)
  have HBW : Hid (Below w.heap.size w W) := by show Below _ _ _; rw [hW]; exact below_then (below_one _) (below_one _)
  have HLD : Hid (∀ wx, Below W.heap.size W wx → (wx.cell? ⟨w.heap.size, 0, none⟩ = some (.int .i64 yp) ∧ wx.cell? ⟨w.heap.size, 1, none⟩ = some (.int .i64 ys) ∧ wx.cell? ⟨w.heap.size, 2, none⟩ = some (.int .i64 yt)) ∧ wx.cell? ⟨w.heap.size + 1, 0, none⟩ = some (.int .i64 p) ∧ wx.cell? ⟨w.heap.size + 1, 1, none⟩ = some (.int .i64 s) ∧ wx.cell? ⟨w.heap.size + 1, 2, none⟩ = some (.int .i64 t)) := fun wx hb => by
    have a := HA.out.of_block (hb.block _ HA.out.lt)
    have b := HB.out.of_block (hb.block _ HB.out.lt)
    exact ⟨⟨a.cell (i := 0) (by omega), a.cell (i := 1) (by omega), a.cell (i := 2) (by omega)⟩, b.cell (i := 0) (by omega), b.cell (i := 1) (by omega), b.cell (i := 2) (by omega)⟩
  obtain ⟨⟨l0, l1, l2⟩, l3, l4, l5⟩ := HLD.out W (Below.refl _ _)
  go_enter Try.func65, Try.ntmps65
  cases b1
  · have HE : Hid (r = false) := by show _ = _; rw [HR.out]; simp
    clear HR
    go_wp2_with fail
    rw [← hW]
    refine (HC1.out _).mono ?_
    rintro e w1 ⟨rfl, hb1⟩
    go_wp2
    go_ret
    exact ⟨by rw [HE.out]; rfl, below_then HBW.out hb1⟩
  · go_wp2_with fail
    rw [← hW]
    refine (HC1.out _).mono ?_
    rintro e w1 ⟨rfl, hb1⟩
    obtain ⟨⟨k0, k1, k2⟩, k3, k4, k5⟩ := HLD.out w1 hb1
    clear l0 l1 l2 l3 l4 l5 hW
    go_wp2_with fail
    refine (HC2.out _).mono ?_
    rintro e w2 ⟨rfl, hb2⟩
    have HB2 := below_then hb1 hb2
    obtain ⟨⟨j0, j1, j2⟩, j3, j4, j5⟩ := HLD.out w2 HB2
    clear k0 k1 k2 k3 k4 k5
    cases b2
    · have HE : Hid (r = false) := by show _ = _; rw [HR.out]; simp
      clear HR
      go_wp2
      go_ret
      exact ⟨by rw [HE.out]; rfl, below_then HBW.out HB2⟩
    · go_wp2_with fail
      refine (HC3.out _).mono ?_
      rintro e w3 ⟨rfl, hb3⟩
      have HE : Hid ((sg == st) = r) := by show _ = _; rw [HR.out]; simp; by_cases e : sg = st <;> simp [e]
      clear HR
      go_wp2
      go_ret
      refine ⟨?_, below_then HBW.out (below_then HB2 hb3)⟩
      rw [← HE.out]
      rfl

def ndsC (d : List Sp) : List Value := d.flatMap fun x => [.int .i64 x.p, .int .i64 x.s, .int .i64 x.t]
theorem ndsC_app (a b : List Sp) : ndsC (a ++ b) = ndsC a ++ ndsC b := by simp [ndsC]
theorem wgt_str (p s t : Int) (x : Sp) : (wgt p s t x).str = x.str ∧ (wgt p s t x).name = x.name := by
  unfold wgt
  repeat' split
  all_goals exact ⟨rfl, rfl⟩
theorem okW_bd {p s t : Int} {y : Sp} (h : okW p s t y = true) : (0 ≤ y.p ∧ y.p ≤ 250) ∧ (0 ≤ y.s ∧ y.s ≤ 250) ∧ (0 ≤ y.t ∧ y.t ≤ 250) := by
  unfold okW at h
  simp only [Bool.and_eq_true] at h
  have := h.2
  simp only [nodeB, decide_eq_true_eq] at this
  omega

set_option maxRecDepth 100000 in
set_option maxHeartbeats 4000000 in
theorem weighedP_any (la : Option Addr) (lc gv : Nat) (l : List Sp) (w : World) (hl : l.length ≤ 1000) (h : MemIn w.heap.size w la gv l) (hstr : ∀ x ∈ l, x.str = 1 ∨ x.str = 2 ∨ x.str = 3) :
    Calls Try.prog 42 #[.slice la l.length lc] w fun e w' => ∃ (a : Option Addr) (n c : Nat) (b : Bool), e = .returned (.tuple #[.slice a n c, .bool b]) ∧ Hid ((weigh l 0 0 0 = none ∧ b = false) ∨ (∃ ls', weigh l 0 0 0 = some ls' ∧ b = true ∧ n = ls'.length ∧ w'.ownsRow w.heap.size 60 3 (.slice a n c) n (ndsC ls'))) ∧ Below w.heap.size w w' := by
  obtain ⟨i0, hi0, hq0, hq1, hq2⟩ := info_parts infoNodeC
  have HL : Hid (∀ wx, Below w.heap.size w wx → MemIn w.heap.size wx la gv l) := fun wx hb => h.below hb
  have HS : Hid (∀ x ∈ l, x.str = 1 ∨ x.str = 2 ∨ x.str = 3) := hstr
  clear h hstr
  obtain ⟨n, hn⟩ : ∃ n, n = l.length := ⟨_, rfl⟩
  have HN : Hid (n = l.length) := hn
  rw [← hn] at hl ⊢
  clear hn
  obtain ⟨W, hW⟩ : ∃ W, W = w.alloc (.cells #[.int .i64 0, .int .i64 0, .int .i64 0] 60) := ⟨_, rfl⟩
  have HR0 : Hid (W.rowIs w.heap.size 60 3 (ndF 0 0 0)) := by show World.rowIs _ _ _ _ _; rw [hW]; exact row_new _ _ _ 3 rfl
  have HB0 : Hid (Below w.heap.size w W) := by show Below _ _ _; rw [hW]; exact below_one _
  go_enter Try.func42, Try.ntmps42
  go_wp2
  rw [← hW]
  clear hW
  go_loopw [4, 6] (fun v iv wr => ∃ (i : Nat) (d : List Sp) (p s t : Int), i ≤ n ∧ iv = .int .i64 (i : Nat) ∧ Hid (weigh l 0 0 0 = (weigh (l.drop i) p s t).map (d ++ ·)) ∧ Hid (d.length = i) ∧ ((0 ≤ p ∧ p ≤ 250) ∧ (0 ≤ s ∧ s ≤ 250) ∧ (0 ≤ t ∧ t ≤ 250)) ∧ Hid (wr.rowIs w.heap.size 60 3 (ndF p s t)) ∧ Hid (wr.ownsRow (w.heap.size + 1) 60 3 v i (ndsC d)) ∧ Below w.heap.size w wr) (fun _ iv _ => n - (intOf iv).toNat)
  case atStart => exact ⟨0, [], 0, 0, 0, Nat.zero_le _, rfl, by show _ = _; rw [List.drop_zero]; cases weigh l 0 0 0 <;> rfl, rfl, by omega, HR0, World.ownsRow_nil _ _ _ _, HB0.out⟩
  case round =>
    obtain ⟨i, d, p, s, t, hi, rfl, HWE, HDL, ⟨⟨hp0, hp1⟩, ⟨hs0, hs1⟩, ht0, ht1⟩, HLA, HO, hbel⟩ := hrel
    have hwr : w.heap.size < wr.heap.size := HLA.out.lt
    obtain ⟨va, vc, hv⟩ := ownC_shape HO.out
    subst hv
    by_cases hlt : i < n
    · have hlt' : i < l.length := by rw [← HN.out]; exact hlt
      have hltI : (i : Int) < (n : Int) := by omega
      obtain ⟨x, hx⟩ : ∃ x, x = l.getD i default := ⟨_, rfl⟩
      have hdrop : l.drop i = x :: l.drop (i + 1) := by rw [List.drop_eq_getElem_cons hlt', hx, getD_at hlt']
      have hxm : x ∈ l := by rw [hx, getD_at hlt']; exact List.getElem_mem hlt'
      have hxs := HS.out x hxm
      have HWE' : Hid (weigh l 0 0 0 = (weigh (x :: l.drop (i + 1)) p s t).map (d ++ ·)) := by show _ = _; rw [← hdrop]; exact HWE.out
      have HLX : Hid (∀ wx, Below w.heap.size w wx → gv < w.heap.size ∧ wx.cell? ⟨gv, i * 6 + 1, none⟩ = some (.int .i64 x.str) ∧ wx.cell? ⟨gv, i * 6 + 2, none⟩ = some (.bool (!x.old)) ∧ wx.cell? ⟨gv, i * 6 + 3, none⟩ = some (.int .i64 x.p) ∧ wx.cell? ⟨gv, i * 6 + 4, none⟩ = some (.int .i64 x.s) ∧ wx.cell? ⟨gv, i * 6 + 5, none⟩ = some (.int .i64 x.t)) := fun wx hb => by
        have hL := HL.out wx hb
        rw [hx]
        exact ⟨hL.lt (by omega), hL.str i hlt', hL.new i hlt', hL.p i hlt', hL.s i hlt', hL.t i hlt'⟩
      have hla := (HL.out wr hbel).addr (by omega)
      subst hla
      clear hx hdrop hxm hlt'
      obtain ⟨hgv, c1, c2, c3, c4, c5⟩ := HLX.out wr hbel
      have hgv' : gv < wr.heap.size := by omega
      obtain ⟨nw, hnw⟩ : ∃ b, b = !x.old := ⟨_, rfl⟩
      rw [← hnw] at c2
      have HNW : Hid (nw = !x.old) := hnw
      clear hnw
      obtain ⟨y, hy⟩ : ∃ y, y = wgt p s t x := ⟨_, rfl⟩
      have HY : Hid (y = wgt p s t x) := hy
      have hyst : y.str = x.str := by rw [hy]; exact (wgt_str p s t x).1
      have HYS : Hid (y.str = x.str) := hyst
      clear hy hyst
      go_upto_if 24 with (fail)
      go_cut [] from 9 to 45 (fun wc => Hid (wc.rowIs wr.heap.size 60 3 (ndF y.p y.s y.t)) ∧ Hid (wc.rowIs w.heap.size 60 3 (ndF p s t)) ∧ Hid (wc.ownsRow (w.heap.size + 1) 60 3 (.slice va i vc) i (ndsC d)) ∧ Hid (Below w.heap.size w wc))
      case first =>
        cases nw
        · have hol : x.old = true := by have := HNW.out; simpa using this.symm
          have HYX : Hid (y = x) := by show _ = _; rw [HY.out]; unfold wgt; rw [if_pos hol]
          clear hol
          go_wp2
          go_meet
          rw [HYX.out]
          exact ⟨row_new _ _ _ 3 rfl, HLA.out.alloc _, HO.out.alloc _, below_then hbel (below_one _)⟩
        · have hol' : x.old = false := by have := HNW.out; simpa using this.symm
          have HCN : Hid (∀ wz, Calls Try.prog 64 #[.agg #[.int .i64 p, .int .i64 s, .int .i64 t], .int .i64 x.str] wz fun e w' => e = .returned (.agg #[.int .i64 y.p, .int .i64 y.s, .int .i64 y.t]) ∧ Below wz.heap.size wz w') := fun wz => by
            rw [HY.out]
            exact nodeBehind_any p s t x wz ⟨hp0, hp1⟩ ⟨hs0, hs1⟩ ⟨ht0, ht1⟩ hol' hxs
          have k0 : wr.cell? ⟨w.heap.size, 0, none⟩ = some (.int .i64 p) := HLA.out.cell (i := 0) (by omega)
          have k1 : wr.cell? ⟨w.heap.size, 1, none⟩ = some (.int .i64 s) := HLA.out.cell (i := 1) (by omega)
          have k2 : wr.cell? ⟨w.heap.size, 2, none⟩ = some (.int .i64 t) := HLA.out.cell (i := 2) (by omega)
          clear hol'
          go_wp2
          have HR1 : Hid ((wr.alloc (.cells #[.int .i64 x.p, .int .i64 x.s, .int .i64 x.t] 60)).rowIs wr.heap.size 60 3 (ndF x.p x.s x.t)) := row_new _ _ _ 3 rfl
          have HL1 : Hid ((wr.alloc (.cells #[.int .i64 x.p, .int .i64 x.s, .int .i64 x.t] 60)).rowIs w.heap.size 60 3 (ndF p s t)) := HLA.out.alloc _
          have HO1 : Hid ((wr.alloc (.cells #[.int .i64 x.p, .int .i64 x.s, .int .i64 x.t] 60)).ownsRow (w.heap.size + 1) 60 3 (.slice va i vc) i (ndsC d)) := HO.out.alloc _
          have HBW1 : Hid (Below w.heap.size w (wr.alloc (.cells #[.int .i64 x.p, .int .i64 x.s, .int .i64 x.t] 60))) := below_then hbel (below_one _)
          have HZ1 : Hid ((wr.alloc (.cells #[.int .i64 x.p, .int .i64 x.s, .int .i64 x.t] 60)).heap.size = wr.heap.size + 1) := by show _ = _; simp
          clear k0 k1 k2 c1 c2 c3 c4 c5
          generalize wr.alloc (.cells #[.int .i64 x.p, .int .i64 x.s, .int .i64 x.t] 60) = W1 at HR1 HL1 HO1 HBW1 HZ1 ⊢
          have hz1 := HZ1.out
          obtain ⟨_, e1, _, _, _, _⟩ := HLX.out W1 HBW1.out
          have k0 : W1.cell? ⟨w.heap.size, 0, none⟩ = some (.int .i64 p) := HL1.out.cell (i := 0) (by omega)
          have k1 : W1.cell? ⟨w.heap.size, 1, none⟩ = some (.int .i64 s) := HL1.out.cell (i := 1) (by omega)
          have k2 : W1.cell? ⟨w.heap.size, 2, none⟩ = some (.int .i64 t) := HL1.out.cell (i := 2) (by omega)
          go_region_with (go_at_call 64; refine (HCN.out _).mono ?_; rintro e wq ⟨rfl, hbq⟩; have hrq := (HR1.out.drew).of_block (hbq.block _ (by simp; omega)); have q0 := hrq.cell (i := 0) (by omega); have q1 := hrq.cell (i := 1) (by omega); have q2 := hrq.cell (i := 2) (by omega); have f0 := hrq.frozen 0; have f1 := hrq.frozen 1; have f2 := hrq.frozen 2)
          all_goals
            have hO : OnlyRow wr.heap.size wq (((wq.setCell ⟨wr.heap.size, 0, none⟩ (.int .i64 y.p)).setCell ⟨wr.heap.size, 1, none⟩ (.int .i64 y.s)).setCell ⟨wr.heap.size, 2, none⟩ (.int .i64 y.t)) := ((OnlyRow.setCell _ _ _ _).trans (OnlyRow.setCell _ _ _ _)).trans (OnlyRow.setCell _ _ _ _)
            have HR2 : Hid ((((wq.setCell ⟨wr.heap.size, 0, none⟩ (.int .i64 y.p)).setCell ⟨wr.heap.size, 1, none⟩ (.int .i64 y.s)).setCell ⟨wr.heap.size, 2, none⟩ (.int .i64 y.t)).rowIs wr.heap.size 60 3 (ndF y.p y.s y.t)) := (((hrq.set 0 _).set 1 _).set 2 _).congr fun j hj => by
              have : j = 0 ∨ j = 1 ∨ j = 2 := by omega
              rcases this with rfl | rfl | rfl <;> rfl
            have HL2 : Hid ((((wq.setCell ⟨wr.heap.size, 0, none⟩ (.int .i64 y.p)).setCell ⟨wr.heap.size, 1, none⟩ (.int .i64 y.s)).setCell ⟨wr.heap.size, 2, none⟩ (.int .i64 y.t)).rowIs w.heap.size 60 3 (ndF p s t)) := hO.row ((HL1.out.drew).of_block (hbq.block _ (by simp; omega))) (by omega)
            have hob : wq.ownsRow (w.heap.size + 1) 60 3 (.slice va i vc) i (ndsC d) := ownC_below HO1.out.drew hbq
            have HO2 : Hid ((((wq.setCell ⟨wr.heap.size, 0, none⟩ (.int .i64 y.p)).setCell ⟨wr.heap.size, 1, none⟩ (.int .i64 y.s)).setCell ⟨wr.heap.size, 2, none⟩ (.int .i64 y.t)).ownsRow (w.heap.size + 1) 60 3 (.slice va i vc) i (ndsC d)) := own_only hO hob (fun e => by have := (ownC_lt HO.out e).1; omega)
            have HB2 : Hid (Below w.heap.size w (((wq.setCell ⟨wr.heap.size, 0, none⟩ (.int .i64 y.p)).setCell ⟨wr.heap.size, 1, none⟩ (.int .i64 y.s)).setCell ⟨wr.heap.size, 2, none⟩ (.int .i64 y.t))) := hO.below (HBW1.out.drew.trans (hbq.mono (by simp; omega))) (by omega)
            clear hob hO q0 q1 q2 f0 f1 f2 hrq hbq
            go_wp2
            go_meet
            exact ⟨HR2, HL2, HO2, HB2⟩
      case rest =>
        rename World => wc
        obtain ⟨HRc, HLc, HOc, HBc⟩ := hcut
        have hzc := HRc.out.lt
        have hzw := HLc.out.lt
        obtain ⟨_, e1, _, _, _, _⟩ := HLX.out wc HBc.out
        obtain ⟨ok, hok⟩ : ∃ b, b = okW p s t y := ⟨_, rfl⟩
        have HOK : Hid (ok = okW p s t y) := hok
        have HCF : Hid (∀ wz, Calls Try.prog 65 #[.agg #[.int .i64 y.p, .int .i64 y.s, .int .i64 y.t], .agg #[.int .i64 p, .int .i64 s, .int .i64 t], .int .i64 x.str] wz fun e w' => e = .returned (.bool ok) ∧ Below wz.heap.size wz w') := fun wz => by
          rw [hok, ← HYS.out]
          exact fits_any p s t y wz
        clear hok c1 c2 c3 c4 c5
        have k0 : wc.cell? ⟨w.heap.size, 0, none⟩ = some (.int .i64 p) := HLc.out.cell (i := 0) (by omega)
        have k1 : wc.cell? ⟨w.heap.size, 1, none⟩ = some (.int .i64 s) := HLc.out.cell (i := 1) (by omega)
        have k2 : wc.cell? ⟨w.heap.size, 2, none⟩ = some (.int .i64 t) := HLc.out.cell (i := 2) (by omega)
        have j0 : wc.cell? ⟨wr.heap.size, 0, none⟩ = some (.int .i64 y.p) := HRc.out.cell (i := 0) (by omega)
        have j1 : wc.cell? ⟨wr.heap.size, 1, none⟩ = some (.int .i64 y.s) := HRc.out.cell (i := 1) (by omega)
        have j2 : wc.cell? ⟨wr.heap.size, 2, none⟩ = some (.int .i64 y.t) := HRc.out.cell (i := 2) (by omega)
        have b0 := Wb.cell (w := wc) (B := wc.heap.size) (by show w.heap.size < _; omega) k0
        have b1 := Wb.cell (w := wc) (B := wc.heap.size) (by show w.heap.size < _; omega) k1
        have b2 := Wb.cell (w := wc) (B := wc.heap.size) (by show w.heap.size < _; omega) k2
        have b3 := Wb.cell (w := wc) (B := wc.heap.size) (by show wr.heap.size < _; omega) j0
        have b4 := Wb.cell (w := wc) (B := wc.heap.size) (by show wr.heap.size < _; omega) j1
        have b5 := Wb.cell (w := wc) (B := wc.heap.size) (by show wr.heap.size < _; omega) j2
        have b6 := Wb.cell (w := wc) (B := wc.heap.size) (by show gv < _; omega) e1
        go_wp2
        refine wp_region_below wc.heap.size (by kernel_rfl) (by kernel_rfl) ?_
        repeat (go_big_quiet_step ((go_at_call 65; exact Wb.ofCall _ (Nat.le_refl _) (HCF.out _))))
        refine wpQuiet_nil ?_
        rintro _ ⟨z, rfl⟩
        have hy := z.below
        generalize z.val = w1 at hy
        have hz1 := hy.size
        clear b0 b1 b2 b3 b4 b5 b6 k0 k1 k2 j0 j1 j2 e1
        have HBW1 : Hid (Below w.heap.size w w1) := HBc.out.trans (hy.mono (by omega))
        cases ok
        · have HNO : Hid (weigh l 0 0 0 = none) := by
            show _ = _
            rw [HWE'.out, weigh, ← HY.out, ← HOK.out]
            rfl
          go_wp2
          go_ret2
          exact ⟨_, _, _, _, rfl, .inl ⟨HNO.out, rfl⟩, HBW1.out⟩
        · have HR1 : Hid (w1.rowIs wr.heap.size 60 3 (ndF y.p y.s y.t)) := HRc.out.of_block (hy.block _ hzc)
          have HL1 : Hid (w1.rowIs w.heap.size 60 3 (ndF p s t)) := HLc.out.of_block (hy.block _ hzw)
          have HO1 : Hid (w1.ownsRow (w.heap.size + 1) 60 3 (.slice va i vc) i (ndsC d)) := ownC_below HOc.out hy
          have HWE2 : Hid (weigh l 0 0 0 = (weigh (l.drop (i + 1)) y.p y.s y.t).map ((d ++ [y]) ++ ·)) := by
            show _ = _
            rw [HWE'.out, weigh, ← HY.out, ← HOK.out, if_pos rfl]
            cases weigh (l.drop (i + 1)) y.p y.s y.t with
            | none => rfl
            | some q => simp
          obtain ⟨⟨bp0, bp1⟩, ⟨bs0, bs1⟩, bt0, bt1⟩ := okW_bd HOK.out.symm
          have j0 : w1.cell? ⟨wr.heap.size, 0, none⟩ = some (.int .i64 y.p) := HR1.out.cell (i := 0) (by omega)
          have j1 : w1.cell? ⟨wr.heap.size, 1, none⟩ = some (.int .i64 y.s) := HR1.out.cell (i := 1) (by omega)
          have j2 : w1.cell? ⟨wr.heap.size, 2, none⟩ = some (.int .i64 y.t) := HR1.out.cell (i := 2) (by omega)
          have hz1' := HR1.out.lt
          have HNB : Hid (ndsC (d ++ [y]) = ndsC d ++ [.int .i64 y.p, .int .i64 y.s, .int .i64 y.t]) := by show _ = _; rw [ndsC_app]; rfl
          clear hy
          go_wp2_with (first
            | (at_builtin; refine wpList_append_lies _ (by rfl) (.tmp 41) (.tmp 43) 24 (by rfl) (w.heap.size + 1) 60 i0 (.agg #[.int .i64 0, .int .i64 0, .int .i64 0]) 3 24 Try.underlying24 hi0 hq0 hq1 hq2 rfl (by omega) _ i _ (by rfl) (HO1.out.alloc _) ⟨w1.heap.size, 0, none⟩ 1 1 [.int .i64 y.p, .int .i64 y.s, .int .i64 y.t] (by rfl) (by rfl) ?g1 ?g2 (by omega) ?g3 ?g5 ?g4 (w1.heap.size + 1) (by simp) ?_))
          case g1 => exact newC3 _ rfl _ _ _ _
          case g2 => intro u hu; simp at hu; rcases hu with rfl | rfl | rfl <;> rfl
          case g3 => unfold maxLen; omega
          case g5 => omega
          case g4 => simp; omega
          · intro g3 cap3 w3 hown3 hgrow3 _ _
            have HB3 : Hid (Below w.heap.size w w3) := ownC_grown_below (below_then HBW1.out (below_one _)) (by simp; omega) (HO1.out.alloc _) (by omega) hgrow3
            have HO3 : Hid (w3.ownsRow (w.heap.size + 1) 60 3 (.slice (some ⟨g3, 0, none⟩) (i + 1) cap3) (i + 1) (ndsC (d ++ [y]))) := by
              show World.ownsRow _ _ _ _ _ _ _
              rw [HNB.out]
              exact hown3
            have hne : some w.heap.size ≠ (Value.slice va i vc).ownBlock := fun e => by have := (ownC_lt HO1.out e.symm).2; omega
            have hne2 : some wr.heap.size ≠ (Value.slice va i vc).ownBlock := fun e => by have := (ownC_lt HO.out e.symm).1; omega
            have HL3 : Hid (w3.rowIs w.heap.size 60 3 (ndF p s t)) := (HL1.out.alloc _).of_block (hgrow3.block _ (by simp; omega) hne)
            have HR3 : Hid (w3.rowIs wr.heap.size 60 3 (ndF y.p y.s y.t)) := (HR1.out.alloc _).of_block (hgrow3.block _ (by simp; omega) hne2)
            have hz3 := HL3.out.lt
            have m0 : w3.cell? ⟨wr.heap.size, 0, none⟩ = some (.int .i64 y.p) := HR3.out.cell (i := 0) (by omega)
            have m1 : w3.cell? ⟨wr.heap.size, 1, none⟩ = some (.int .i64 y.s) := HR3.out.cell (i := 1) (by omega)
            have m2 : w3.cell? ⟨wr.heap.size, 2, none⟩ = some (.int .i64 y.t) := HR3.out.cell (i := 2) (by omega)
            have q0 := HL3.out.frozen 0
            have q1 := HL3.out.frozen 1
            have q2 := HL3.out.frozen 2
            have r0 : w3.cell? ⟨w.heap.size, 0, none⟩ = some (.int .i64 p) := HL3.out.cell (i := 0) (by omega)
            have r1 : w3.cell? ⟨w.heap.size, 1, none⟩ = some (.int .i64 s) := HL3.out.cell (i := 1) (by omega)
            have r2 : w3.cell? ⟨w.heap.size, 2, none⟩ = some (.int .i64 t) := HL3.out.cell (i := 2) (by omega)
            have hgg : g3 ≠ w.heap.size := by have := (ownC_lt HO3.out (b := g3) rfl).2; omega
            have HOn : Hid (OnlyRow w.heap.size w3 (((w3.setCell ⟨w.heap.size, 0, none⟩ (.int .i64 y.p)).setCell ⟨w.heap.size, 1, none⟩ (.int .i64 y.s)).setCell ⟨w.heap.size, 2, none⟩ (.int .i64 y.t))) := ((OnlyRow.setCell _ _ _ _).trans (OnlyRow.setCell _ _ _ _)).trans (OnlyRow.setCell _ _ _ _)
            have HNX : Hid ((((w3.setCell ⟨w.heap.size, 0, none⟩ (.int .i64 y.p)).setCell ⟨w.heap.size, 1, none⟩ (.int .i64 y.s)).setCell ⟨w.heap.size, 2, none⟩ (.int .i64 y.t)).rowIs w.heap.size 60 3 (ndF y.p y.s y.t)) := (((HL3.out.set 0 _).set 1 _).set 2 _).congr fun j hj => by
              have : j = 0 ∨ j = 1 ∨ j = 2 := by omega
              rcases this with rfl | rfl | rfl <;> rfl
            clear hown3 hgrow3 j0 j1 j2 hne hne2
            go_wp2
            go_roundw
            case rel => exact ⟨i + 1, d ++ [y], y.p, y.s, y.t, by omega, by go_num, HWE2, by show _ = _; rw [List.length_append, HDL.out]; rfl, ⟨⟨bp0, bp1⟩, ⟨bs0, bs1⟩, bt0, bt1⟩, HNX, own_only HOn.out HO3.out (fun e => hgg (by simpa [Value.ownBlock] using e)), HOn.out.below HB3.out (Nat.le_refl _)⟩
            case measure => simp [intOf]; omega
    · have hie : i = n := by omega
      have HFIN : Hid (weigh l 0 0 0 = some d ∧ i = d.length ∧ wr.ownsRow w.heap.size 60 3 (.slice va i vc) i (ndsC d)) := by
        refine ⟨?_, HDL.out.symm, ownC_base HO.out (by omega)⟩
        rw [HWE.out, List.drop_of_length_le (by rw [← HN.out]; omega)]
        simp [weigh]
      clear hie
      have hge : (n : Int) ≤ (i : Int) := by omega
      go_wp2
      go_ret2
      exact ⟨_, _, _, _, rfl, .inr ⟨d, HFIN.out.1, rfl, HFIN.out.2.1, HFIN.out.2.2⟩, hbel⟩

end Go.Proofs.Ytpclldccjpncdab

namespace Go.Proofs.Ytpclldccjpncdab
open Go.RowKit

/-! what Read gives are rules, and the first has a reset -/
structure RdI (S : St) : Prop where
  out : ∀ r ∈ S.out, r.ok
  first : ∀ r, S.out.head? = some r → r.reset.size ≠ 0
  reset : S.nx.reset.size ≤ 6
  before : 0 ≤ S.nx.before ∧ S.nx.before ≤ 3
  level : 0 ≤ S.nx.level ∧ S.nx.level ≤ 3
  more : S.nx.more.size = 0
  s0 : S.st = 0 → S.out = []
  s3 : S.st = 3 → S.nx.reset.size ≠ 0
  s4 : S.st = 4 → S.nx.reset.size ≠ 0 ∨ (S.out ≠ [] ∧ S.nx.before = 0)
  s5 : S.st = 5 ∨ S.st = 6 ∨ S.st = 7 → S.out ≠ [] ∧ S.nx.before = 0
theorem tkA_some {s : ByteArray} {a : Nat} (h : (tkA s a).kind = 5) : 1 ≤ (tkA s a).tx.length := by
  revert h
  unfold tkA
  repeat' split
  all_goals intro h
  all_goals first
    | (exfalso; simp at h; done)
    | (show 1 ≤ (part s a).1.length
       have hn := (not_congr (part_nil (s := s) (i := a) (by omega))).2 (by assumption)
       cases hl : (part s a).1 with
       | nil => exact absurd hl hn
       | cons _ _ => simp)
theorem setMore_mem {l : List Rl} {m : ByteArray} {r : Rl} (h : r ∈ setMore l m) : r ∈ l ∨ ∃ x ∈ l, r = { x with more := m } := by
  unfold setMore at h
  rcases List.mem_append.1 h with h | h
  · exact .inl (List.dropLast_subset l h)
  · split at h
    · cases h
    · next x hx =>
      rw [List.mem_singleton] at h
      exact .inr ⟨x, List.mem_of_getLast? hx, h⟩
theorem setMore_head {l : List Rl} {m : ByteArray} {r : Rl} (h : (setMore l m).head? = some r) : ∃ x, l.head? = some x ∧ x.reset = r.reset := by
  unfold setMore at h
  match l, h with
  | [], h => simp at h
  | [x], h =>
    simp at h
    exact ⟨x, rfl, by rw [← h]⟩
  | x :: y :: l, h =>
    simp at h
    exact ⟨x, rfl, by rw [h]⟩
theorem setMore_ne {l : List Rl} {m : ByteArray} (h : l ≠ []) : setMore l m ≠ [] := by
  unfold setMore
  rw [List.getLast?_eq_some_getLast h]
  simp
theorem adv_st (S : St) (st' : Nat) (t : Tk) : (adv S st' t).st = st' := by
  unfold adv
  repeat' split
  all_goals rfl
theorem adv_inv {s : ByteArray} {S : St} {st' : Nat} (hI : RdI S) (h : thn S.st (tk s S.i).kind = some st') (hl : ¬ lim st' < (tk s S.i).tx.length) (h8 : st' ≠ 8) : RdI (adv S st' (tk s S.i)) := by
  have hn := tkA_n s (skp s S.i)
  have hn' : (tk s S.i).n ≤ 3 := hn
  have h5 : (tk s S.i).kind = 5 → 1 ≤ (tk s S.i).tx.length := tkA_some
  generalize tk s S.i = t at h hl hn' h5
  obtain ⟨io, i1, i2, i3, i4, i5, i6, i7, i8, i9⟩ := hI
  have hsz : ∀ l : List Int, (strOfNums l).size = l.length := fun l => strOfNums_size l
  unfold thn at h
  split at h
  · split at h
    · injection h with h
      subst h
      exact ⟨io, i1, i2, i3, i4, i5, (fun h => by rw [adv_st] at h; omega), (fun h => by rw [adv_st] at h; omega), (fun h => by rw [adv_st] at h; omega), (fun h => by rw [adv_st] at h; omega)⟩
    · cases h
  · split at h
    · split at h
      · injection h with h
        subst h
        exact ⟨io, i1, i2, ⟨by show (0 : Int) ≤ (t.n : Int); omega, by show (t.n : Int) ≤ 3; omega⟩, i4, i5, (fun h => by rw [adv_st] at h; omega), (fun h => by rw [adv_st] at h; omega), (fun h => by rw [adv_st] at h; omega), (fun h => by rw [adv_st] at h; omega)⟩
      · cases h
    · split at h
      · split at h
        · next hst =>
          injection h with h
          subst h
          refine ⟨io, i1, i2, i3, ⟨by show (0 : Int) ≤ (t.n : Int); omega, by show (t.n : Int) ≤ 3; omega⟩, i5, (fun h => by rw [adv_st] at h; omega), (fun h => by rw [adv_st] at h; omega), (fun _ => ?_), (fun h => by rw [adv_st] at h; omega)⟩
          show S.nx.reset.size ≠ 0 ∨ (S.out ≠ [] ∧ S.nx.before = 0)
          rcases hst with hst | hst | hst
          · exact .inl (i7 hst)
          · exact .inr (i9 (.inl hst))
          · exact .inr (i9 (.inr (.inr hst)))
        · cases h
      · split at h
        · split at h
          · next hst =>
            injection h with h
            subst h
            exact ⟨io, i1, i2, i3, i4, i5, (fun h => by rw [adv_st] at h; omega), (fun h => by rw [adv_st] at h; omega), (fun h => by rw [adv_st] at h; omega), (fun _ => i9 (.inl hst))⟩
          · cases h
        · split at h
          · split at h
            · injection h with h
              exact absurd h.symm h8
            · cases h
          · split at h
            · next hk =>
              have ht1 := h5 hk
              split at h
              · injection h with h
                subst h
                have hl6 : t.tx.length ≤ 6 := by have : lim 3 = 6 := rfl; omega
                refine ⟨io, i1, ?_, i3, i4, i5, (fun h => by rw [adv_st] at h; omega), (fun _ => ?_), (fun h => by rw [adv_st] at h; omega), (fun h => by rw [adv_st] at h; omega)⟩
                · show (strOfNums t.tx).size ≤ 6
                  rw [hsz]; exact hl6
                · show (strOfNums t.tx).size ≠ 0
                  rw [hsz]; omega
              · split at h
                · next hst =>
                  injection h with h
                  subst h
                  have hl3 : t.tx.length ≤ 3 := by have : lim 5 = 3 := rfl; omega
                  have h4 := i8 hst
                  have hok : Rl.ok { S.nx with text := strOfNums t.tx } := by
                    refine ⟨?_, ?_, i2, i4, i3, ?_⟩
                    · show 1 ≤ (strOfNums t.tx).size ∧ (strOfNums t.tx).size ≤ 3
                      rw [hsz]; omega
                    · show S.nx.more.size ≤ 6
                      omega
                    · rcases h4 with h4 | h4
                      · exact .inr h4
                      · exact .inl h4.2
                  refine ⟨fun r hr => ?_, fun r hr => ?_, (by show (ByteArray.empty : ByteArray).size ≤ 6; decide), (by show (0 : Int) ≤ 0 ∧ (0 : Int) ≤ 3; decide), (by show (0 : Int) ≤ 0 ∧ (0 : Int) ≤ 3; decide), (by show (ByteArray.empty : ByteArray).size = 0; rfl), (fun h => by rw [adv_st] at h; omega), (fun h => by rw [adv_st] at h; omega), (fun h => by rw [adv_st] at h; omega), (fun _ => ⟨?_, rfl⟩)⟩
                  · have hr : r ∈ S.out ++ [{ S.nx with text := strOfNums t.tx }] := hr
                    rcases List.mem_append.1 hr with hr | hr
                    · exact io r hr
                    · rw [List.mem_singleton] at hr
                      rw [hr]; exact hok
                  · have hr : (S.out ++ [{ S.nx with text := strOfNums t.tx }]).head? = some r := hr
                    cases ho : S.out with
                    | nil =>
                      rw [ho] at hr h4
                      simp at hr
                      rw [← hr]
                      rcases h4 with h4 | h4
                      · exact h4
                      · exact absurd rfl h4.1
                    | cons x l =>
                      rw [ho] at hr
                      simp at hr
                      exact i1 r (by rw [ho, ← hr]; rfl)
                  · show S.out ++ [{ S.nx with text := strOfNums t.tx }] ≠ []
                    simp
                · split at h
                  · next hst =>
                    injection h with h
                    subst h
                    have hl6 : t.tx.length ≤ 6 := by have : lim 7 = 6 := rfl; omega
                    have h9 := i9 (.inr (.inl hst))
                    refine ⟨fun r hr => ?_, fun r hr => ?_, i2, i3, i4, i5, (fun h => by rw [adv_st] at h; omega), (fun h => by rw [adv_st] at h; omega), (fun h => by rw [adv_st] at h; omega), (fun _ => ⟨setMore_ne h9.1, h9.2⟩)⟩
                    · rcases setMore_mem (m := strOfNums t.tx) hr with hr | ⟨x, hx, rfl⟩
                      · exact io r hr
                      · obtain ⟨a, _, c, d, e, f⟩ := io x hx
                        exact ⟨a, by show (strOfNums t.tx).size ≤ 6; rw [hsz]; exact hl6, c, d, e, f⟩
                    · obtain ⟨x, hx, he⟩ := setMore_head (m := strOfNums t.tx) hr
                      rw [← he]
                      exact i1 x hx
                  · cases h
            · cases h
theorem rd_good {s : ByteArray} : ∀ k (S : St), s.size - S.i ≤ k → RdI S → ∀ L a, rd s S = (L, 0, a) → (∀ r ∈ L, r.ok) ∧ (∀ r, L.head? = some r → r.reset.size ≠ 0) ∧ a = 0 := by
  intro k
  induction k with
  | zero =>
    intro S hk hI L a h
    rw [rd] at h
    cases ht : thn S.st (tk s S.i).kind with
    | none => rw [ht] at h; simp at h
    | some st' =>
      rw [ht] at h
      simp only at h
      split at h
      · simp at h
      · split at h
        · simp at h
          obtain ⟨rfl, rfl⟩ := h
          exact ⟨hI.out, hI.first, rfl⟩
        · split at h
          · omega
          · simp at h
            obtain ⟨rfl, rfl⟩ := h
            exact ⟨hI.out, hI.first, rfl⟩
  | succ k ih =>
    intro S hk hI L a h
    cases ht : thn S.st (tk s S.i).kind with
    | none => rw [rd_bad ht] at h; simp at h
    | some st' =>
      by_cases hl : lim st' < (tk s S.i).tx.length
      · rw [rd_part ht hl] at h; simp at h
      · by_cases h8 : st' = 8
        · rw [h8] at ht
          rw [rd_end ht] at h
          simp at h
          obtain ⟨rfl, rfl⟩ := h
          exact ⟨hI.out, hI.first, rfl⟩
        · rw [rd_step ht hl h8] at h
          obtain ⟨k7, _, _⟩ := thn_go ht h8
          obtain ⟨t1, t2, t3⟩ := tk_to (s := s) (i := S.i) k7
          exact ih _ (by rw [adv_i]; omega) (adv_inv hI ht hl h8) L a h
theorem rdAll_good {s : ByteArray} {L : List Rl} {a : Nat} (h : rdAll s = (L, 0, a)) : (∀ r ∈ L, r.ok) ∧ (∀ r, L.head? = some r → r.reset.size ≠ 0) ∧ a = 0 := by
  unfold rdAll at h
  split at h
  · simp at h
  · refine rd_good _ _ (Nat.le_refl _) ⟨fun r hr => ?_, fun r hr => ?_, by decide, by decide, by decide, by decide, fun _ => rfl, (fun h => absurd h (by decide)), (fun h => absurd h (by decide)), (fun h => absurd h (by decide))⟩ L a h
    · cases hr
    · cases hr

end Go.Proofs.Ytpclldccjpncdab
