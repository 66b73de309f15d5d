import Derived.Test.YtpclldccjpncdabB20
import Derived.Deep.Cut
import Derived.Deep.CutRange
import Derived.Deep.DeepCutAuto
namespace Go.Proofs.Ytpclldccjpncdab
open Go.RowKit

/-- an entry's numbers lie in a row of their own -/
def EntIn (wr : World) (base : Nat) (e : Ent) : Prop := ∃ N f, wr.rowIs e.b 3 N f ∧ base ≤ e.b ∧ e.k ≤ N ∧ ∀ q, q < e.k → f q = .int .i64 (e.z q)

/-- what 'made' has while it makes its entries -/
structure MadeE (w : World) (R T : Nat) (ns : List Nd) (va : Value) (es : List Ent) (ve : Value) (wr : World) : Prop where
  below : Below w.heap.size w wr
  eR : R = w.heap.size
  eT : T = w.heap.size + 1
  room : w.heap.size + 3 ≤ wr.heap.size
  res : wr.rowIs R 27 2 (fun _ => .slice none 0 0)
  t : wr.rowIs T 27 2 (tF va ve)
  ownN : wr.ownsRow (w.heap.size + 3) 60 3 va ns.length (flatN ns)
  ownE : wr.ownsRow (w.heap.size + 3) 41 2 ve es.length (flat es)
  ok : NsOk ns
  ints : ∀ e, e ∈ es → EntIn wr (w.heap.size + 3) e
theorem MadeE.later {w : World} {R T : Nat} {ns : List Nd} {va : Value} {es : List Ent} {ve : Value} {wr w1 : World} (h : MadeE w R T ns va es ve wr) (hb : Below wr.heap.size wr w1) : MadeE w R T ns va es ve w1 :=
  ⟨below_then h.below hb, h.eR, h.eT, Nat.le_trans h.room hb.size, h.res.of_block (hb.block _ h.res.lt), h.t.of_block (hb.block _ h.t.lt), own_of_block h.ownN fun b hb' => hb.block b (h.ownN.lt b hb').2, own_of_block h.ownE fun b hb' => hb.block b (h.ownE.lt b hb').2, h.ok,
    fun e he => let ⟨N, f, a, b, c⟩ := h.ints e he; ⟨N, f, a.of_block (hb.block _ a.lt), b, c⟩⟩
theorem MadeN.toE {w : World} {R T A : Nat} {ns : List Nd} {v : Value} {wr : World} (h : MadeN w R T A ns v wr) : MadeE w R T ns v [] (.slice none 0 0) wr :=
  ⟨h.below, h.eR, h.eT, by have := h.last.lt; have := h.eA; omega, h.res, h.t, h.own, World.ownsRow_nil _ _ _ _, h.ok, by simp⟩
/-- no node could be made: one is put -/
theorem MadeN.fill {w : World} {R T A : Nat} {v v' : Value} {x : Nd} {wr w2 : World} (h : MadeN w R T A [] v wr) (hg : wr.grownBy w2 v.ownBlock)
    (ho : w2.ownsRow (w.heap.size + 3) 60 3 v' 1 (ndC x)) (hx : nodeB x.1 x.2.1 x.2.2 = true) : MadeE w R T [x] v' [] (.slice none 0 0) (w2.setCell ⟨T, 0, none⟩ v') := by
  obtain ⟨g1, g2, g3, g4⟩ := h.grown hg
  have e1 := h.eR
  have e2 := h.eT
  have e3 := h.eA
  have hz := h.last.lt
  have hz2 := hg.size
  have hT : OnlyRow T w2 (w2.setCell ⟨T, 0, none⟩ v') := OnlyRow.setCell _ _ _ _
  refine ⟨hT.below g1 (by omega), e1, e2, by rw [hT.size]; omega, hT.row g2 (by omega), (g3.set 0 v').congr ?_, own_only hT (by simpa [flatN] using ho) fun e => own_farM ho (by omega) e.symm, World.ownsRow_nil _ _ _ _, nsOk_add nsOk_nil hx (fun h => by simp at h), by simp⟩
  intro i hi
  match i, hi with
  | 0, _ => simp [tF]
  | 1, _ => simp [tF]

theorem MadeE.grown {w : World} {R T : Nat} {ns : List Nd} {va : Value} {es : List Ent} {ve : Value} {wr w2 : World} (h : MadeE w R T ns va es ve wr) (hg : wr.grownBy w2 ve.ownBlock) :
    Below w.heap.size w w2 ∧ w2.rowIs R 27 2 (fun _ => .slice none 0 0) ∧ w2.rowIs T 27 2 (tF va ve) ∧ w2.ownsRow (w.heap.size + 3) 60 3 va ns.length (flatN ns) ∧ ∀ e, EntIn wr (w.heap.size + 3) e → EntIn w2 (w.heap.size + 3) e := by
  have hz := h.room
  have e1 := h.eR
  have e2 := h.eT
  refine ⟨h.below.grown hg (by omega) fun r hr => by have := (h.ownE.lt r hr).1; omega, row_grown hg h.res (own_farM h.ownE (by omega)), row_grown hg h.t (own_farM h.ownE (by omega)), ?_, ?_⟩
  · refine own_of_block h.ownN fun b hb => hg.block b (h.ownN.lt b hb).2 fun he => ?_
    obtain ⟨N, hN⟩ := h.ownN
    rcases hN with ⟨hv, _⟩ | ⟨g, cap, cur, hv, _, hh, _⟩
    · rw [hv] at hb; simp [Value.ownBlock] at hb
    · rw [hv] at hb
      simp [Value.ownBlock] at hb
      subst hb
      exact own_ne (t := 60) (n := cur.size) (f := fun i => cur.getD i undef) h.ownE ⟨cur, hh, rfl, fun i hi => by simp [hi]⟩ (by decide) he
  · rintro e ⟨N, f, a, b, c⟩
    exact ⟨N, f, row_grown hg a (own_ne h.ownE a (by decide)), b, c⟩

/-- one more entry behind the others, and the field set -/
theorem MadeE.add {w : World} {R T : Nat} {ns : List Nd} {va : Value} {es : List Ent} {ve v' : Value} {x : Ent} {wr w2 : World} (h : MadeE w R T ns va es ve wr) (hg : wr.grownBy w2 ve.ownBlock)
    (ho : w2.ownsRow (w.heap.size + 3) 41 2 v' (es.length + 1) (flat (es ++ [x]))) (hx : EntIn wr (w.heap.size + 3) x) :
    MadeE w R T ns va (es ++ [x]) v' (w2.setCell ⟨T, 1, none⟩ v') := by
  obtain ⟨g1, g2, g3, g4, g5⟩ := h.grown hg
  have e1 := h.eR
  have e2 := h.eT
  have hz := h.room
  have hz2 := hg.size
  have hT : OnlyRow T w2 (w2.setCell ⟨T, 1, none⟩ v') := OnlyRow.setCell _ _ _ _
  refine ⟨hT.below g1 (by omega), e1, e2, by rw [hT.size]; omega, hT.row g2 (by omega), (g3.set 1 v').congr ?_, own_only hT g4 fun e => own_farM g4 (by omega) e.symm, ?_, h.ok, ?_⟩
  · intro i hi
    match i, hi with
    | 0, _ => simp [tF]
    | 1, _ => simp [tF]
  · rw [List.length_append]
    exact own_only hT ho fun e => own_farM ho (by omega) e.symm
  · intro e he
    have : EntIn w2 (w.heap.size + 3) e := by
      simp at he
      rcases he with he | rfl
      · exact g5 e (h.ints e he)
      · exact g5 e hx
    obtain ⟨N, f, a, b, c⟩ := this
    exact ⟨N, f, hT.row a (by omega), b, c⟩

/-- the entries laid anew, and the field set -/
theorem MadeE.turn {w : World} {R T : Nat} {ns : List Nd} {va : Value} {es es' : List Ent} {ve v' : Value} {wr w2 : World} (h : MadeE w R T ns va es ve wr) (hb : Below wr.heap.size wr w2)
    (ho : w2.ownsRow wr.heap.size 41 2 v' es'.length (flat es')) (hx : ∀ e, e ∈ es' → EntIn wr (w.heap.size + 3) e) :
    MadeE w R T ns va es' v' (w2.setCell ⟨T, 1, none⟩ v') := by
  have h' := h.later hb
  have e1 := h.eR
  have e2 := h.eT
  have hz := h.room
  have hz2 := hb.size
  have ho' := own_base ho hz
  have hT : OnlyRow T w2 (w2.setCell ⟨T, 1, none⟩ v') := OnlyRow.setCell _ _ _ _
  refine ⟨hT.below h'.below (by omega), e1, e2, by rw [hT.size]; omega, hT.row h'.res (by omega), (h'.t.set 1 v').congr ?_, own_only hT h'.ownN fun e => own_farM h'.ownN (by omega) e.symm, own_only hT ho' fun e => own_farM ho' (by omega) e.symm, h.ok, ?_⟩
  · intro i hi
    match i, hi with
    | 0, _ => simp [tF]
    | 1, _ => simp [tF]
  · intro e he
    obtain ⟨N, f, a, b, c⟩ := hx e he
    exact ⟨N, f, hT.row (a.of_block (hb.block _ a.lt)) (by omega), b, c⟩

theorem new_two_at (w : World) (g : Nat) (a b : Value) (t : TypeId) (hg : g = w.heap.size) : ∀ (j : Nat) (u : Value), [a, b][j]? = some u → (w.alloc (.cells #[a, b] t)).cell? ((⟨g, 0, none⟩ : Addr).add j) = some u := hg ▸ new_two w a b t
theorem new_one_at (w : World) (g : Nat) (a : Value) (t : TypeId) (hg : g = w.heap.size) : ∀ (j : Nat) (u : Value), [a][j]? = some u → (w.alloc (.cells #[a] t)).cell? ((⟨g, 0, none⟩ : Addr).add j) = some u := hg ▸ cell_one_new w a t
/-- behind 't.Entries = append(t.Entries, api.Entry{Text: letter(i), Nodes: []int{i}})' -/
def LetterMade (w : World) (R T : Nat) (ns : List Nd) (va : Value) (es : List Ent) (i : Nat) (wf : World) : Prop :=
  ∃ (x : Ent) (eo : Option Addr) (ec : Nat), x.tx = ltr i ∧ x.k = 1 ∧ x.z 0 = (i : Int) ∧ MadeE w R T ns va (es ++ [x]) (.slice eo (i + 1) ec) wf
theorem letter_made {w : World} {R T : Nat} {ns : List Nd} {va : Value} {es : List Ent} {i : Nat} {ve : Value} {ws w3 : World} {g cap : Nat} (h : MadeE w R T ns va es ve ws) (hl : es.length = i)
    (ho : w3.ownsRow (w.heap.size + 3) 41 2 (.slice (some ⟨g, 0, none⟩) (i + 1) cap) (i + 1) (flat es ++ [.string (ltr i), .slice (some ⟨ws.heap.size, 0, none⟩) 1 1]))
    (hg : World.grownBy ((ws.drew.alloc (.cells #[.int .i64 i] 3)).alloc (.cells #[.string (ltr i), .slice (some ⟨ws.heap.size, 0, none⟩) 1 1] 41)) w3 ve.ownBlock) :
    LetterMade w R T ns va es i (w3.setCell ⟨T, 1, none⟩ (.slice (some ⟨g, 0, none⟩) (i + 1) cap)) := by
  have h' := ((h.later (Below.refl _ _).drew).later (below_one (.cells #[.int .i64 i] 3))).later (below_one (.cells #[.string (ltr i), .slice (some ⟨ws.heap.size, 0, none⟩) 1 1] 41))
  refine ⟨⟨ltr i, ws.heap.size, 1, 1, fun _ => i⟩, _, _, rfl, rfl, rfl, h'.add hg ?_ ⟨1, _, (row_new ws.drew #[.int .i64 i] 3 1 rfl).alloc _, h.room, by show 1 ≤ 1; omega, fun q hq => ?_⟩⟩
  · rw [hl]
    exact own_add ho rfl rfl
  · have hq' : q < 1 := hq
    have : q = 0 := by omega
    subst this
    rfl
/-! ### the letters -/
def LettersE (i : Nat) (es : List Ent) : Prop := es.length = i ∧ ∀ j e, es[j]? = some e → e.tx = ltr j ∧ e.k = 1 ∧ e.z 0 = (j : Int)
theorem lettersE_nil : LettersE 0 [] := ⟨rfl, by simp⟩
theorem lettersE_add {i : Nat} {es : List Ent} {x : Ent} (h : LettersE i es) (hx : x.tx = ltr i ∧ x.k = 1 ∧ x.z 0 = (i : Int)) : LettersE (i + 1) (es ++ [x]) := by
  refine ⟨by simp [h.1], fun j e he => ?_⟩
  by_cases hj : j < es.length
  · rw [List.getElem?_append_left hj] at he
    exact h.2 j e he
  · rw [List.getElem?_append_right (by omega)] at he
    have hl := h.1
    have : j - es.length = 0 := by
      cases hq : j - es.length with
      | zero => rfl
      | succ q => rw [hq] at he; simp at he
    rw [this] at he
    simp at he
    subst he
    have : j = i := by omega
    subst this
    exact hx
theorem ltr_rise : ∀ i, i < 12 → ∀ j, j < i → lessB (ltr j) (ltr i) = true := by decide +kernel
theorem ltr_size (i : Nat) : (ltr i).size = 1 := rfl

/-- what holds of the entries of a table that was made -/
structure GoodE (n k : Nat) (es : List Ent) : Prop where
  rise : Rise es
  size : ∀ e, e ∈ es → 1 ≤ e.tx.size ∧ e.tx.size ≤ 3
  kk : ∀ e, e ∈ es → 1 ≤ e.k ∧ e.k ≤ 4
  z : ∀ e, e ∈ es → ∀ q, q < e.k → 0 ≤ e.z q ∧ e.z q < n
  ones : es.countP (fun e => decide (e.tx.size = 1)) = k
  all : ∀ j, j < k → ∃ e, e ∈ es ∧ e.tx = ltr j
theorem goodE_letters {n k : Nat} {es : List Ent} (h : LettersE k es) (hk : k ≤ 12) (hn : k ≤ n) : GoodE n k es := by
  have hm : ∀ e, e ∈ es → ∃ j, j < k ∧ e.tx = ltr j ∧ e.k = 1 ∧ e.z 0 = (j : Int) := fun e he => by
    obtain ⟨j, hj, rfl⟩ := List.mem_iff_getElem.1 he
    exact ⟨j, by have := h.1; omega, h.2 j _ (List.getElem?_eq_getElem hj)⟩
  refine ⟨?_, fun e he => ?_, fun e he => ?_, fun e he q hq => ?_, ?_, fun j hj => ?_⟩
  · refine List.pairwise_iff_getElem.2 fun i j hi hj hij => ?_
    rw [(h.2 i _ (List.getElem?_eq_getElem hi)).1, (h.2 j _ (List.getElem?_eq_getElem hj)).1]
    exact ltr_rise j (by have := h.1; omega) i hij
  · obtain ⟨j, _, ht, _⟩ := hm e he
    rw [ht, ltr_size]; omega
  · obtain ⟨j, _, _, hk, _⟩ := hm e he
    omega
  · obtain ⟨j, hj, _, hk', hz⟩ := hm e he
    have : q = 0 := by omega
    subst this
    omega
  · rw [← h.1]
    refine List.countP_eq_length.2 fun e he => ?_
    obtain ⟨j, _, ht, _⟩ := hm e he
    rw [ht, ltr_size]; rfl
  · have hj' : j < es.length := by rw [h.1]; exact hj
    exact ⟨_, List.getElem_mem hj', (h.2 j _ (List.getElem?_eq_getElem hj')).1⟩
theorem goodE_lay {n k : Nat} {es : List Ent} {x : Ent} (h : GoodE n k es) (h1 : 2 ≤ x.tx.size ∧ x.tx.size ≤ 3) (h2 : 1 ≤ x.k ∧ x.k ≤ 4) (h3 : ∀ q, q < x.k → 0 ≤ x.z q ∧ x.z q < n) : GoodE n k (layL x es) := by
  refine ⟨layL_rise x es h.rise, fun e he => ?_, fun e he => ?_, fun e he => ?_, ?_, fun j hj => ?_⟩
  · rcases layL_mem x es e he with rfl | he
    · omega
    · exact h.size e he
  · rcases layL_mem x es e he with rfl | he
    · exact h2
    · exact h.kk e he
  · rcases layL_mem x es e he with rfl | he
    · exact h3
    · exact h.z e he
  · rw [layL_ones x (by omega)]; exact h.ones
  · obtain ⟨e, he, ht⟩ := h.all j hj
    exact ⟨e, layL_has x es e he, ht⟩

end Go.Proofs.Ytpclldccjpncdab

namespace Go.Proofs.Ytpclldccjpncdab
open Go.RowKit

/-- the entry x while its numbers are put: ws is the world in which the round began; x lies in the next block -/
structure XMade (ws : World) (n : Nat) (tx : ByteArray) (zs : List Int) (vx : Value) (wq : World) : Prop where
  below : Below ws.heap.size ws wq
  x : wq.rowIs ws.heap.size 41 2 (tF (.string tx) vx)
  own : wq.ownsRow (ws.heap.size + 1) 3 1 vx zs.length (zs.map (.int .i64))
  size : 2 ≤ tx.size ∧ tx.size ≤ 3
  z : ∀ y, y ∈ zs → 0 ≤ y ∧ y < (n : Int)
theorem xMade_start (ws : World) (n : Nat) (tx : ByteArray) (h : 2 ≤ tx.size ∧ tx.size ≤ 3) : XMade ws n tx [] (.slice none 0 0) (ws.alloc (.cells #[.string tx, .slice none 0 0] 41)) := by
  refine ⟨below_one _, row_at (row_new ws _ _ 2 rfl) rfl ?_, World.ownsRow_nil _ _ _ _, h, by simp⟩
  intro i hi
  match i, hi with
  | 0, _ => rfl
  | 1, _ => rfl
theorem XMade.drew {ws : World} {n : Nat} {tx : ByteArray} {zs : List Int} {vx : Value} {wq : World} (h : XMade ws n tx zs vx wq) : XMade ws n tx zs vx wq.drew := ⟨h.below.drew, h.x.drew, h.own.drew, h.size, h.z⟩
theorem XMade.later {ws : World} {n : Nat} {tx : ByteArray} {zs : List Int} {vx : Value} {wq w1 : World} (h : XMade ws n tx zs vx wq) (hb : Below wq.heap.size wq w1) : XMade ws n tx zs vx w1 :=
  ⟨below_then h.below hb, h.x.of_block (hb.block _ h.x.lt), own_of_block h.own fun b hb' => hb.block b (h.own.lt b hb').2, h.size, h.z⟩
theorem XMade.grown {ws : World} {n : Nat} {tx : ByteArray} {zs : List Int} {vx : Value} {wq w2 : World} (h : XMade ws n tx zs vx wq) (hg : wq.grownBy w2 vx.ownBlock) : w2.rowIs ws.heap.size 41 2 (tF (.string tx) vx) :=
  row_grown hg h.x (own_farM h.own (by omega))
theorem XMade.add {ws : World} {n : Nat} {tx : ByteArray} {zs : List Int} {vx v' : Value} {r : Nat} {wq w2 : World} (h : XMade ws n tx zs vx wq) (hg : wq.grownBy w2 vx.ownBlock)
    (ho : w2.ownsRow (ws.heap.size + 1) 3 1 v' (zs.length + 1) (zs.map (.int .i64) ++ [.int .i64 (r : Int)])) (hr : (r : Int) < n) : XMade ws n tx (zs ++ [(r : Int)]) v' (w2.setCell ⟨ws.heap.size, 1, none⟩ v') := by
  have hz := h.x.lt
  have hO : OnlyRow ws.heap.size w2 (w2.setCell ⟨ws.heap.size, 1, none⟩ v') := OnlyRow.setCell _ _ _ _
  refine ⟨hO.below (h.below.grown hg (by omega) fun k hk => by have := (h.own.lt k hk).1; omega) (Nat.le_refl _), ((h.grown hg).set 1 v').congr ?_, ?_, h.size, ?_⟩
  · intro i hi
    match i, hi with
    | 0, _ => simp [tF]
    | 1, _ => simp [tF]
  · rw [List.length_append, List.map_append]
    exact own_only hO ho fun e => own_farM ho (Nat.lt_succ_self _) e.symm
  · intro y hy
    simp at hy
    rcases hy with hy | rfl
    · exact h.z y hy
    · exact ⟨by omega, hr⟩

theorem x_cells {w : World} {T : Nat} {a b : Value} (h : w.rowIs T 41 2 (tF a b)) : w.cell? ⟨T, 0, none⟩ = some a ∧ w.cell? ⟨T, 1, none⟩ = some b ∧ w.frozen? ⟨T, 0, none⟩ = false ∧ w.frozen? ⟨T, 1, none⟩ = false :=
  ⟨h.cell (i := 0) (by omega), h.cell (i := 1) (by omega), h.frozen 0, h.frozen 1⟩
/-- the entry, its numbers put -/
theorem XMade.ent {ws : World} {n : Nat} {tx : ByteArray} {zs : List Int} {vx : Value} {wq : World} (h : XMade ws n tx zs vx wq) (h0 : 0 < zs.length) {base : Nat} (hb : base ≤ ws.heap.size + 1) :
    ∃ x : Ent, x.tx = tx ∧ x.list = vx ∧ x.k = zs.length ∧ EntIn wq base x ∧ ∀ q, q < x.k → 0 ≤ x.z q ∧ x.z q < (n : Int) := by
  obtain ⟨hl, h2⟩ := h.own
  rcases h2 with ⟨_, h2⟩ | ⟨g, cap, cur, hv, hg, hh, hnc, _, hcs, ht⟩
  · omega
  · refine ⟨⟨tx, g, zs.length, cap, fun q => zs.getD q 0⟩, rfl, hv.symm, rfl, ⟨cur.size, fun i => cur.getD i undef, ⟨cur, hh, rfl, fun i hi => by simp [hi]⟩, Nat.le_trans hb hg, by show zs.length ≤ cur.size; omega, fun q hq => ?_⟩, fun q hq => ?_⟩
    · have hq' : q < zs.length := hq
      have h3 : (zs.map (Value.int IntKind.i64))[q]? = some (.int .i64 (zs.getD q 0)) := by simp [hq']
      rw [← ht, List.getElem?_take, if_pos (by omega)] at h3
      simp only [Array.getElem?_toList] at h3
      simp [Array.getD_eq_getD_getElem?, h3]
    · have hq' : q < zs.length := hq
      have : zs.getD q 0 ∈ zs := by simp [List.getD_eq_getElem?_getD, hq']
      exact h.z _ this

theorem laid_some (x : Ent) (es : List Ent) (n : Nat) (v : Value) (base : Nat) (w : World) (hn : es.length = n) (hm : n ≤ 40) (ho : w.ownsRow base 41 2 v n (flat es)) :
    Calls Try.prog 28 #[v, .agg #[.string x.tx, x.list]] w fun e w' => ∃ (vo : Option Addr) (m vc : Nat), e = .returned (.slice vo m vc) ∧ (layL x es).length = m ∧ w'.ownsRow w.heap.size 41 2 (.slice vo m vc) m (flat (layL x es)) ∧ Below w.heap.size w w' := by
  refine (laid_any x es n v base w hn hm ho).mono ?_
  rintro e w' ⟨⟨v', rfl, hown⟩, hb⟩
  obtain ⟨vo, vc, gv, rfl, _, _⟩ := own_cells hown
  exact ⟨vo, _, vc, rfl, rfl, hown, hb⟩
theorem size29 : (Try.prog.info? 27).map (·.size) = some 2 := by kernel_rfl

/-! ### what 'made' gives -/
/-- with its bounds -/
def MadeResB (w : World) (e : Ending) (w' : World) : Prop := ∃ (L : Lay) (k : Nat), e = .returned (.agg #[.slice L.na L.n L.nc, .slice L.ea L.m L.ec]) ∧ L.In w'.heap.size w' ∧ L.err = 0 ∧ 1 ≤ k ∧ k ≤ 12 ∧
  (∀ j, j < k → isText L.m L.tx (ltr j)) ∧ ((List.range L.m).countP fun i => decide ((L.tx i).size = 1)) = k ∧ Below w.heap.size w w' ∧ L.n ≤ 20 ∧ L.m ≤ 22
def MadeRes (w : World) (e : Ending) (w' : World) : Prop := ∃ (L : Lay) (k : Nat), e = .returned (.agg #[.slice L.na L.n L.nc, .slice L.ea L.m L.ec]) ∧ L.In w'.heap.size w' ∧ L.err = 0 ∧ 1 ≤ k ∧ k ≤ 12 ∧
  (∀ j, j < k → isText L.m L.tx (ltr j)) ∧ ((List.range L.m).countP fun i => decide ((L.tx i).size = 1)) = k ∧ Below w.heap.size w w'
theorem row2_cells {w : World} {b : Nat} {t : TypeId} {f : Nat → Value} (h : w.rowIs b t 2 f) : w.heap[b]? = some (.cells #[f 0, f 1] t (0, 0)) := by
  obtain ⟨c, hc, hs, hf⟩ := h
  have : c = #[f 0, f 1] := by
    apply Array.ext
    · simp [hs]
    · intro i h1 h2
      have := hf i (by omega)
      rw [Array.getElem?_eq_getElem h1] at this
      injection this with this
      rw [this]
      match i, (show i < 2 by omega) with
      | 0, _ => rfl
      | 1, _ => rfl
  rw [hc, this]
theorem countP_at (es : List Ent) (p : Ent → Bool) : (List.range es.length).countP (fun i => p (es.getD i default)) = es.countP p := by
  induction es with
  | nil => rfl
  | cons e r ih =>
    rw [List.length_cons, List.range_succ_eq_map, List.countP_cons, List.countP_cons, List.countP_map, ← ih]
    congr 1

theorem made_res {w : World} {R T : Nat} {ns : List Nd} {vo : Option Addr} {n vc : Nat} {es : List Ent} {eo : Option Addr} {m ec k : Nat} {wr w' : World} (h : MadeE w R T ns (.slice vo n vc) es (.slice eo m ec) wr) (hg : GoodE n k es) (hn : ns.length = n) (hn1 : n ≤ 20) (hm : es.length = m) (hm1 : m ≤ 22) (hk : 1 ≤ k ∧ k ≤ 12)
    (hO : OnlyRow R wr w') : MadeResB w (.returned (.agg #[.slice vo n vc, .slice eo m ec])) w' := by
  have e1 := h.eR
  have hN : w'.ownsRow (w.heap.size + 3) 60 3 (.slice vo n vc) n (flatN ns) := by have := own_only hO h.ownN fun e => own_farM h.ownN (by omega) e.symm; rw [hn] at this; exact this
  have hE : w'.ownsRow (w.heap.size + 3) 41 2 (.slice eo m ec) m (flat es) := by have := own_only hO h.ownE fun e => own_farM h.ownE (by omega) e.symm; rw [hm] at this; exact this
  obtain ⟨vo', vc', gn, hv, hna, hnc⟩ := own_cells hN
  obtain ⟨eo', ec', ge, hv', hea, hec⟩ := ents_cells hm hE
  injection hv with a1 a2 a3
  injection hv' with a4 a5 a6
  subst a1 a3 a4 a6
  have hat : ∀ i, i < m → es[i]? = some (es.getD i default) := fun i hi => by rw [List.getD_eq_getElem?_getD, List.getElem?_eq_getElem (by omega)]; rfl
  have hmem : ∀ i, i < m → es.getD i default ∈ es := fun i hi => List.mem_of_getElem? (hat i hi)
  refine ⟨⟨n, m, vo, eo, vc, ec, gn, 0, ge, 0, fun j => (ndAt ns j).1, fun j => (ndAt ns j).2.1, fun j => (ndAt ns j).2.2, fun i => (es.getD i default).tx, fun i => some ⟨(es.getD i default).b, 0, none⟩, fun i => (es.getD i default).k, fun i => (es.getD i default).c, fun i => (es.getD i default).b, fun _ => 0, fun i => (es.getD i default).z⟩, k, rfl, ⟨?_, ?_⟩, ?_, hk.1, hk.2, ?_, ?_, hO.below h.below (by omega), hn1, hm1⟩
  · refine ⟨fun h0 => (hna h0).1, fun h0 => (hna h0).2.1, fun i hi => ?_, fun i hi => ?_, fun i hi => ?_, by show n * 24 ≤ _; omega⟩
    · have := hnc (i * 3) _ (by have hi' : i < n := hi; omega) (flatN_at ns i (by have hi' : i < n := hi; omega)).1
      simpa using this
    · have := hnc (i * 3 + 1) _ (by have hi' : i < n := hi; omega) (flatN_at ns i (by have hi' : i < n := hi; omega)).2.1
      simpa using this
    · have := hnc (i * 3 + 2) _ (by have hi' : i < n := hi; omega) (flatN_at ns i (by have hi' : i < n := hi; omega)).2.2
      simpa using this
  · refine ⟨fun h0 => (hea h0).1, fun h0 => (hea h0).2.1, fun i hi => ?_, fun i hi => ?_, fun i hi => ?_, by show m * 40 ≤ _; omega⟩
    · have := (hec i _ (hat i hi)).1
      simpa using this
    · have := (hec i _ (hat i hi)).2
      simpa [Ent.list] using this
    · obtain ⟨N, f, hr, hb, hkn, hz⟩ := h.ints _ (hmem i hi)
      have hr' := hO.row hr (by omega)
      have hk4 := (hg.kk _ (hmem i hi)).2
      refine ⟨fun _ => rfl, fun _ => hr'.lt, fun q hq => ?_, by show (es.getD i default).k * 8 ≤ _; omega⟩
      have hq' : q < (es.getD i default).k := hq
      have := hr'.cell (i := q) (by omega)
      rw [hz q hq'] at this
      simpa using this
  · refine (err_ok (Nat.le_trans hn1 (by decide)) (Nat.le_trans hm1 (by decide)) ?_ ?_).symm
    · exact (nodesB_true (by have := h.ok; unfold NsOk at this; rw [hn] at this; exact this)).symm
    · refine (entriesB_yes fun i hi => ⟨(entryB_yes ⟨hg.size _ (hmem i hi), hg.kk _ (hmem i hi), hg.z _ (hmem i hi)⟩).symm, fun h0 => ?_⟩).symm
      have hi' : i < m := hi
      have h1 := hat i hi'
      have h2 := hat (i - 1) (by omega)
      obtain ⟨p1, q1⟩ := List.getElem?_eq_some_iff.1 h1
      obtain ⟨p2, q2⟩ := List.getElem?_eq_some_iff.1 h2
      have := List.pairwise_iff_getElem.1 hg.rise (i - 1) i p2 p1 (by omega)
      rw [q1, q2] at this
      exact this
  · intro j hj
    obtain ⟨e, he, ht⟩ := hg.all j hj
    obtain ⟨i, hi, rfl⟩ := List.mem_iff_getElem.1 he
    refine ⟨i, by show i < m; omega, ?_⟩
    show (es.getD i default).tx = _
    rw [← ht]
    congr 1
    rw [List.getD_eq_getElem?_getD, List.getElem?_eq_getElem hi]; rfl
  · show (List.range m).countP (fun i => decide ((es.getD i default).tx.size = 1)) = k
    rw [← hm, countP_at es fun e => decide (e.tx.size = 1)]
    exact hg.ones

end Go.Proofs.Ytpclldccjpncdab

namespace Go.Proofs.Ytpclldccjpncdab
open Go.RowKit

noncomputable def ones (L : Lay) (i : Nat) : Nat := (List.range i).countP fun j => decide ((L.tx j).size = 1)
theorem ones_succ (L : Lay) (i : Nat) : ones L (i + 1) = ones L i + (if (L.tx i).size = 1 then 1 else 0) := by
  unfold ones
  rw [List.range_succ, List.countP_append]
  by_cases h : (L.tx i).size = 1 <;> simp [h]
theorem ones_le (L : Lay) (i : Nat) : ones L i ≤ i := by
  have := List.countP_le_length (l := List.range i) (p := fun j => decide ((L.tx j).size = 1))
  simpa [ones] using this

set_option maxHeartbeats 1000000 in
theorem singles_any (L : Lay) (w : World) (h : L.In w.heap.size w) (hm : L.m ≤ 48) :
    Calls Try.prog 29 #[.agg #[.slice L.na L.n L.nc, .slice L.ea L.m L.ec]] w fun e w' => e = .returned (.int .i64 (ones L L.m : Nat)) ∧ Below w.heap.size w w' := by
  have HL : Hid (L.In w.heap.size w) := h
  clear h
  go_enter Try.func29, Try.ntmps29
  go_wp2
  go_loopw [3, 4] (fun nv iv wr => ∃ i c : Nat, i ≤ L.m ∧ iv = .int .i64 (i : Nat) ∧ nv = .int .i64 (c : Nat) ∧ c = ones L i ∧ Below (w.heap.size + 1) (w.alloc (.cells #[.slice L.na L.n L.nc, .slice L.ea L.m L.ec] 27)) wr) (fun _ iv _ => L.m - (intOf iv).toNat)
  case atStart => exact ⟨0, 0, Nat.zero_le _, rfl, rfl, rfl, Below.refl _ _⟩
  case round =>
    obtain ⟨i, c, hi, rfl, rfl, hc, hbel⟩ := hrel
    have HC : Hid (c = ones L i) := hc
    have hcl : c ≤ 48 := by have := ones_le L i; omega
    clear hc
    have b1 : wr.cell? ⟨w.heap.size, 1, none⟩ = some (.slice L.ea L.m L.ec) := cellTo hbel ((row_new w #[.slice L.na L.n L.nc, .slice L.ea L.m L.ec] 27 2 rfl).cell (i := 1) (by omega)) (Nat.lt_succ_self _)
    by_cases hlt : i < L.m
    · have hbb := HL.out.entries.lt (by omega)
      rw [HL.out.entries.addr (by omega)] at b1
      have c0 := cellTo hbel (((below_one (w := w) (.cells #[.slice L.na L.n L.nc, .slice L.ea L.m L.ec] 27)).cell (by exact hbb)).trans (HL.out.entries.text i hlt)) (by show L.eb < _; omega)
      by_cases h1 : (L.tx i).size = 1
      · have HS : Hid (ones L (i + 1) = c + 1) := by show _ = _; rw [ones_succ, if_pos h1, ← HC.out]
        go_wp2
        go_roundw
        case rel => exact ⟨i + 1, c + 1, by omega, by go_num, by go_num, HS.out.symm, hbel⟩
        case measure => simp [intOf]; omega
      · have HS : Hid (ones L (i + 1) = c) := by show _ = _; rw [ones_succ, if_neg h1, ← HC.out]; rfl
        go_wp2
        go_roundw
        case rel => exact ⟨i + 1, c, by omega, by go_num, rfl, HS.out.symm, hbel⟩
        case measure => simp [intOf]; omega
    · have hie : i = L.m := by omega
      go_wp2
      go_ret
      refine ⟨?_, below_then (below_one _) (by simpa using hbel)⟩
      rw [← hie, ← HC.out]
      rfl

/-- has the table an entry with that text? -/
noncomputable def hasT (L : Lay) (s : ByteArray) : Bool := by
  classical
  exact decide (isText L.m L.tx s)
theorem hasT_yes {L : Lay} {s : ByteArray} (h : isText L.m L.tx s) : true = hasT L s := by simp [hasT, h]
theorem hasT_no {L : Lay} {s : ByteArray} (h : ¬ isText L.m L.tx s) : false = hasT L s := by simp [hasT, h]

set_option maxHeartbeats 1000000 in
theorem has_any (L : Lay) (s : ByteArray) (w : World) (h : L.In w.heap.size w) (hm : L.m ≤ 48) :
    Calls Try.prog 14 #[.agg #[.slice L.na L.n L.nc, .slice L.ea L.m L.ec], .string s] w fun e w' => e = .returned (.bool (hasT L s)) ∧ Below w.heap.size w w' := by
  have HL : Hid (L.In w.heap.size w) := h
  clear h
  go_enter Try.func14, Try.ntmps14
  go_wp2
  go_loopw [5] (fun iv wr => ∃ i : Nat, i ≤ L.m ∧ iv = .int .i64 (i : Nat) ∧ (∀ j, j < i → L.tx j ≠ s) ∧ Below (w.heap.size + 1) (w.alloc (.cells #[.slice L.na L.n L.nc, .slice L.ea L.m L.ec] 27)) wr) (fun iv _ => L.m - (intOf iv).toNat)
  case atStart => exact ⟨0, Nat.zero_le _, rfl, fun j hj => by omega, Below.refl _ _⟩
  case round =>
    obtain ⟨i, hi, rfl, hno, hbel⟩ := hrel
    have HNO : Hid (∀ j, j < i → L.tx j ≠ s) := hno
    clear hno
    have b1 : wr.cell? ⟨w.heap.size, 1, none⟩ = some (.slice L.ea L.m L.ec) := cellTo hbel ((row_new w #[.slice L.na L.n L.nc, .slice L.ea L.m L.ec] 27 2 rfl).cell (i := 1) (by omega)) (Nat.lt_succ_self _)
    by_cases hlt : i < L.m
    · have hbb := HL.out.entries.lt (by omega)
      rw [HL.out.entries.addr (by omega)] at b1
      have c0 := cellTo hbel (((below_one (w := w) (.cells #[.slice L.na L.n L.nc, .slice L.ea L.m L.ec] 27)).cell (by exact hbb)).trans (HL.out.entries.text i hlt)) (by show L.eb < _; omega)
      by_cases h1 : ((L.tx i).toList == s.toList) = true
      · have HB : Hid (true = hasT L s) := hasT_yes ⟨i, hlt, bytes_eq.1 (by simpa using h1)⟩
        go_wp2
        go_ret
        exact ⟨ret_bool HB.out, below_then (below_one _) (by simpa using hbel)⟩
      · have h1' : ((L.tx i).toList == s.toList) = false := by simpa using h1
        have HN : Hid (L.tx i ≠ s) := fun e => h1 (by simp [e])
        clear h1
        go_wp2
        go_roundw
        case rel => exact ⟨i + 1, by omega, by go_num, fun j hj => by
          by_cases e : j = i
          · rw [e]; exact HN.out
          · exact HNO.out j (by omega), hbel⟩
        case measure => simp [intOf]; omega
    · have hie : i = L.m := by omega
      have HB : Hid (false = hasT L s) := hasT_no fun ⟨j, hj, hx⟩ => HNO.out j (by omega) hx
      go_wp2
      go_ret
      exact ⟨ret_bool HB.out, below_then (below_one _) (by simpa using hbel)⟩

end Go.Proofs.Ytpclldccjpncdab

namespace Go.Proofs.Ytpclldccjpncdab
open Go.RowKit

/-- every byte of the text is a text of the table -/
def Spelt (L : Lay) (s : ByteArray) : Prop := ∀ p, p < s.size → isText L.m L.tx (sub s p 1)
theorem sub_old (s u : ByteArray) (p : Nat) (h : p < s.size) : sub (s ++ u) p 1 = sub s p 1 := by
  apply ByteArray.ext
  have h' : p < s.data.size := h
  simp [sub, ByteArray.data_extract, ByteArray.data_append, Array.extract_append]
  omega
theorem sub_new (s : ByteArray) (i : Nat) : sub (s ++ ltr i) s.size 1 = ltr i := by
  unfold sub
  exact ByteArray.extract_append_eq_right rfl (by rw [ltr_size])
theorem letter_0 (w : World) : Calls Try.prog 27 #[.int .i64 0] w fun e w' => e = .returned (.string (ltr 0)) ∧ w' = w := letter_any 0 w (by omega)
/-- every byte is one of the first letters -/
def SpL (k : Nat) (s : ByteArray) : Prop := ∀ p, p < s.size → ∃ j, j < k ∧ sub s p 1 = ltr j
theorem spL_nil (k : Nat) : SpL k ByteArray.empty := fun p hp => by simp at hp
theorem spL_add {k : Nat} {s : ByteArray} {i : Nat} (h : SpL k s) (hi : i < k) : SpL k (s ++ ltr i) := by
  intro p hp
  rw [ByteArray.size_append, ltr_size] at hp
  by_cases e : p = s.size
  · rw [e, sub_new]; exact ⟨i, hi, rfl⟩
  · rw [sub_old s _ p (by omega)]; exact h p (by omega)
theorem spL_spelt {L : Lay} {k : Nat} {s : ByteArray} (h : SpL k s) (hl : ∀ j, j < k → isText L.m L.tx (ltr j)) : Spelt L s := fun p hp => by
  obtain ⟨j, hj, e⟩ := h p hp
  rw [e]; exact hl j hj

set_option maxRecDepth 100000 in
set_option maxHeartbeats 1000000 in
theorem spelledL_any (L : Lay) (rk rc rb ro : Nat) (ra : Option Addr) (rz : Nat → Int) (most k : Nat) (w : World) (h : L.In w.heap.size w) (hm : L.m ≤ 48) (hk : 1 ≤ k ∧ k ≤ 12) (ho : ones L L.m = k)
    (hr : IntsIn w.heap.size w ra rk rb ro rz) (hrz : ∀ i, i < rk → -9223372036854775808 ≤ rz i ∧ rz i ≤ 9223372036854775807) (hmost : 1 ≤ most ∧ most ≤ 24) :
    Calls Try.prog 16 #[.agg #[.slice L.na L.n L.nc, .slice L.ea L.m L.ec], .slice ra rk rc, .int .i64 (most : Nat)] w fun e w' => (∃ s, e = .returned (.string s) ∧ 1 ≤ s.size ∧ s.size ≤ most ∧ SpL k s) ∧ Below w.heap.size w w' := by
  have HL : Hid (∀ w', Below w.heap.size w w' → L.In w'.heap.size w') := fun w' hb => h.later hb
  have HO : Hid (ones L L.m = k) := ho
  have HR : Hid (IntsIn w.heap.size w ra rk rb ro rz) := hr
  have HRZ : Hid (∀ i, i < rk → -9223372036854775808 ≤ rz i ∧ rz i ≤ 9223372036854775807) := hrz
  obtain ⟨hk1, hk12⟩ := hk
  obtain ⟨hm1, hm24⟩ := hmost
  clear h ho hr hrz
  go_enter Try.func16, Try.ntmps16
  go_wp2_with (go_at_call 29; refine (singles_any L _ (HL.out _ (below_one _)) hm).mono ?_; rintro e w1 ⟨rfl, hb1⟩; rw [HO.out])
  have HB1 : Hid (Below w.heap.size w w1) := below_then (below_one _) hb1
  clear hb1
  go_loopw [8, 9] (fun sv iv wr => ∃ (i : Nat) (s : ByteArray), i ≤ most ∧ iv = .int .i64 (i : Nat) ∧ sv = .string s ∧ s.size = i ∧ SpL k s ∧ Below w.heap.size w wr) (fun _ iv _ => most - (intOf iv).toNat)
  case atStart => exact ⟨0, ByteArray.empty, Nat.zero_le _, rfl, rfl, rfl, spL_nil k, HB1.out⟩
  case round =>
    clear HB1
    rename World => ws
    obtain ⟨i, s, hi, rfl, rfl, hsi, hsp, hbel⟩ := hrel
    have HSI : Hid (s.size = i) := hsi
    have HSP : Hid (SpL k s) := hsp
    have hss : s.size ≤ 24 := by omega
    clear hsi hsp
    by_cases hlt : i < rk ∧ i < most
    · obtain ⟨hlt1, hlt2⟩ := hlt
      have ha := HR.out.addr (by omega)
      subst ha
      have c0 := cellTo hbel (HR.out.cell i hlt1) (HR.out.lt (by omega))
      have hz := HRZ.out i hlt1
      go_wp2_with (first
        | (go_at_call 17; refine (pick_any _ _ _ (by omega) (by omega)).mono ?_; rintro e w1 ⟨r, rfl, hr, hw⟩; obtain rfl := hw.symm)
        | (go_at_call 27; refine (letter_any _ _ (by omega)).mono ?_; rintro e w1 ⟨rfl, hw⟩; obtain rfl := hw.symm; have hls := ltr_size r))
      go_roundw
      case rel => exact ⟨i + 1, s ++ ltr r, by omega, by go_num, rfl, by rw [ByteArray.size_append, ltr_size, HSI.out], spL_add HSP.out (by omega), hbel⟩
      case measure => simp [intOf]; omega
    · have HLT : Hid (¬ (i < rk ∧ i < most)) := hlt
      clear hlt
      go_upto_region 4 with (fail)
      go_cut [20] from 12 to 31 (fun b wc => b = .bool false ∧ wc = ws)
      case first =>
        by_cases hk : i < rk
        · have hk2 : ¬ i < most := fun h => HLT.out ⟨hk, h⟩
          go_wp2
          go_meet
          exact ⟨by simp <;> omega, rfl⟩
        · go_wp2
          go_meet
          exact ⟨rfl, rfl⟩
      case rest =>
        obtain ⟨rfl, hwc⟩ := hcut
        rename World => wy
        subst hwc
        by_cases h0 : s = ByteArray.empty
        · subst h0
          go_wp2_with (go_at_call 27; refine (letter_0 _).mono ?_; rintro e w1 ⟨rfl, hw⟩; obtain rfl := hw.symm)
          all_goals first | (exfalso; simp_all; done) | skip
          go_ret
          exact ⟨⟨_, rfl, by rw [ltr_size]; omega, by rw [ltr_size]; omega, by have := spL_add (spL_nil k) (i := 0) (by omega); simpa using this⟩, hbel⟩
        · have h1 : s.toList.isEmpty = false := by
            cases hq : s.toList with
            | nil => exact absurd (bytes_eq.1 (hq.trans (by simp))) h0
            | cons a b => rfl
          have hs1 : 1 ≤ s.size := by
            rcases Nat.eq_zero_or_pos s.size with e | e
            · exact absurd (ByteArray.ext (Array.ext' (by simpa using Array.size_eq_zero_iff.1 e))) h0
            · exact e
          go_wp2
          go_ret
          exact ⟨⟨s, rfl, hs1, by have := HSI.out; omega, HSP.out⟩, hbel⟩

theorem spelled_any (L : Lay) (rk rc rb ro : Nat) (ra : Option Addr) (rz : Nat → Int) (most k : Nat) (w : World) (h : L.In w.heap.size w) (hm : L.m ≤ 48) (hk : 1 ≤ k ∧ k ≤ 12) (ho : ones L L.m = k) (hl : ∀ j, j < k → isText L.m L.tx (ltr j))
    (hr : IntsIn w.heap.size w ra rk rb ro rz) (hrz : ∀ i, i < rk → -9223372036854775808 ≤ rz i ∧ rz i ≤ 9223372036854775807) (hmost : 1 ≤ most ∧ most ≤ 24) :
    Calls Try.prog 16 #[.agg #[.slice L.na L.n L.nc, .slice L.ea L.m L.ec], .slice ra rk rc, .int .i64 (most : Nat)] w fun e w' => (∃ s, e = .returned (.string s) ∧ 1 ≤ s.size ∧ s.size ≤ most ∧ Spelt L s) ∧ Below w.heap.size w w' := by
  refine (spelledL_any L rk rc rb ro ra rz most k w h hm hk ho hr hrz hmost).mono ?_
  rintro e w' ⟨⟨s, h1, h2, h3, h4⟩, hb⟩
  exact ⟨⟨s, h1, h2, h3, spL_spelt h4 hl⟩, hb⟩

end Go.Proofs.Ytpclldccjpncdab
