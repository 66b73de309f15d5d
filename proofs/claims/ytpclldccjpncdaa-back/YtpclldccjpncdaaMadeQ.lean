import Derived.Test.YtpclldccjpncdaaMadeP
namespace Go.Proofs.Ytpclldccjpncdaa
open Go.RowKit

/-- an entry's numbers lie in a row of their own -/
def EntIn (wr : World) (base : Nat) (e : Ent) : Prop := ∃ N f, wr.rowIs e.b 3 N f ∧ base ≤ e.b ∧ e.k ≤ N ∧ ∀ q, q < e.k → f q = .int .i64 (e.z q)

/-- what 'made' has while it makes its entries -/
structure MadeE (w : World) (R T : Nat) (ns : List Nd) (va : Value) (es : List Ent) (ve : Value) (wr : World) : Prop where
  below : Below w.heap.size w wr
  eR : R = w.heap.size
  eT : T = w.heap.size + 1
  room : w.heap.size + 3 ≤ wr.heap.size
  res : wr.rowIs R 26 2 (fun _ => .slice none 0 0)
  t : wr.rowIs T 26 2 (tF va ve)
  ownN : wr.ownsRow (w.heap.size + 3) 60 3 va ns.length (flatN ns)
  ownE : wr.ownsRow (w.heap.size + 3) 64 2 ve es.length (flat es)
  ok : NsOk ns
  ints : ∀ e, e ∈ es → EntIn wr (w.heap.size + 3) e
theorem MadeE.later {w : World} {R T : Nat} {ns : List Nd} {va : Value} {es : List Ent} {ve : Value} {wr w1 : World} (h : MadeE w R T ns va es ve wr) (hb : Below wr.heap.size wr w1) : MadeE w R T ns va es ve w1 :=
  ⟨below_then h.below hb, h.eR, h.eT, Nat.le_trans h.room hb.size, h.res.of_block (hb.block _ h.res.lt), h.t.of_block (hb.block _ h.t.lt), own_of_block h.ownN fun b hb' => hb.block b (h.ownN.lt b hb').2, own_of_block h.ownE fun b hb' => hb.block b (h.ownE.lt b hb').2, h.ok,
    fun e he => let ⟨N, f, a, b, c⟩ := h.ints e he; ⟨N, f, a.of_block (hb.block _ a.lt), b, c⟩⟩
theorem MadeN.toE {w : World} {R T A : Nat} {ns : List Nd} {v : Value} {wr : World} (h : MadeN w R T A ns v wr) : MadeE w R T ns v [] (.slice none 0 0) wr :=
  ⟨h.below, h.eR, h.eT, by have := h.last.lt; have := h.eA; omega, h.res, h.t, h.own, World.ownsRow_nil _ _ _ _, h.ok, by simp⟩
/-- no node could be made: one is put -/
theorem MadeN.fill {w : World} {R T A : Nat} {v v' : Value} {x : Nd} {wr w2 : World} (h : MadeN w R T A [] v wr) (hg : wr.grownBy w2 v.ownBlock)
    (ho : w2.ownsRow (w.heap.size + 3) 60 3 v' 1 (ndC x)) (hx : nodeB x.1 x.2.1 x.2.2 = true) : MadeE w R T [x] v' [] (.slice none 0 0) (w2.setCell ⟨T, 0, none⟩ v') := by
  obtain ⟨g1, g2, g3, g4⟩ := h.grown hg
  have e1 := h.eR
  have e2 := h.eT
  have e3 := h.eA
  have hz := h.last.lt
  have hz2 := hg.size
  have hT : OnlyRow T w2 (w2.setCell ⟨T, 0, none⟩ v') := OnlyRow.setCell _ _ _ _
  refine ⟨hT.below g1 (by omega), e1, e2, by rw [hT.size]; omega, hT.row g2 (by omega), (g3.set 0 v').congr ?_, own_only hT (by simpa [flatN] using ho) fun e => own_farM ho (by omega) e.symm, World.ownsRow_nil _ _ _ _, nsOk_add nsOk_nil hx (fun h => by simp at h), by simp⟩
  intro i hi
  match i, hi with
  | 0, _ => simp [tF]
  | 1, _ => simp [tF]

theorem MadeE.grown {w : World} {R T : Nat} {ns : List Nd} {va : Value} {es : List Ent} {ve : Value} {wr w2 : World} (h : MadeE w R T ns va es ve wr) (hg : wr.grownBy w2 ve.ownBlock) :
    Below w.heap.size w w2 ∧ w2.rowIs R 26 2 (fun _ => .slice none 0 0) ∧ w2.rowIs T 26 2 (tF va ve) ∧ w2.ownsRow (w.heap.size + 3) 60 3 va ns.length (flatN ns) ∧ ∀ e, EntIn wr (w.heap.size + 3) e → EntIn w2 (w.heap.size + 3) e := by
  have hz := h.room
  have e1 := h.eR
  have e2 := h.eT
  refine ⟨h.below.grown hg (by omega) fun r hr => by have := (h.ownE.lt r hr).1; omega, row_grown hg h.res (own_farM h.ownE (by omega)), row_grown hg h.t (own_farM h.ownE (by omega)), ?_, ?_⟩
  · refine own_of_block h.ownN fun b hb => hg.block b (h.ownN.lt b hb).2 fun he => ?_
    obtain ⟨N, hN⟩ := h.ownN
    rcases hN with ⟨hv, _⟩ | ⟨g, cap, cur, hv, _, hh, _⟩
    · rw [hv] at hb; simp [Value.ownBlock] at hb
    · rw [hv] at hb
      simp [Value.ownBlock] at hb
      subst hb
      exact own_ne (t := 60) (n := cur.size) (f := fun i => cur.getD i undef) h.ownE ⟨cur, hh, rfl, fun i hi => by simp [hi]⟩ (by decide) he
  · rintro e ⟨N, f, a, b, c⟩
    exact ⟨N, f, row_grown hg a (own_ne h.ownE a (by decide)), b, c⟩

/-- one more entry behind the others, and the field set -/
theorem MadeE.add {w : World} {R T : Nat} {ns : List Nd} {va : Value} {es : List Ent} {ve v' : Value} {x : Ent} {wr w2 : World} (h : MadeE w R T ns va es ve wr) (hg : wr.grownBy w2 ve.ownBlock)
    (ho : w2.ownsRow (w.heap.size + 3) 64 2 v' (es.length + 1) (flat (es ++ [x]))) (hx : EntIn wr (w.heap.size + 3) x) :
    MadeE w R T ns va (es ++ [x]) v' (w2.setCell ⟨T, 1, none⟩ v') := by
  obtain ⟨g1, g2, g3, g4, g5⟩ := h.grown hg
  have e1 := h.eR
  have e2 := h.eT
  have hz := h.room
  have hz2 := hg.size
  have hT : OnlyRow T w2 (w2.setCell ⟨T, 1, none⟩ v') := OnlyRow.setCell _ _ _ _
  refine ⟨hT.below g1 (by omega), e1, e2, by rw [hT.size]; omega, hT.row g2 (by omega), (g3.set 1 v').congr ?_, own_only hT g4 fun e => own_farM g4 (by omega) e.symm, ?_, h.ok, ?_⟩
  · intro i hi
    match i, hi with
    | 0, _ => simp [tF]
    | 1, _ => simp [tF]
  · rw [List.length_append]
    exact own_only hT ho fun e => own_farM ho (by omega) e.symm
  · intro e he
    have : EntIn w2 (w.heap.size + 3) e := by
      simp at he
      rcases he with he | rfl
      · exact g5 e (h.ints e he)
      · exact g5 e hx
    obtain ⟨N, f, a, b, c⟩ := this
    exact ⟨N, f, hT.row a (by omega), b, c⟩

/-- the entries laid anew, and the field set -/
theorem MadeE.turn {w : World} {R T : Nat} {ns : List Nd} {va : Value} {es es' : List Ent} {ve v' : Value} {wr w2 : World} (h : MadeE w R T ns va es ve wr) (hb : Below wr.heap.size wr w2)
    (ho : w2.ownsRow wr.heap.size 64 2 v' es'.length (flat es')) (hx : ∀ e, e ∈ es' → EntIn wr (w.heap.size + 3) e) :
    MadeE w R T ns va es' v' (w2.setCell ⟨T, 1, none⟩ v') := by
  have h' := h.later hb
  have e1 := h.eR
  have e2 := h.eT
  have hz := h.room
  have hz2 := hb.size
  have ho' := own_base ho hz
  have hT : OnlyRow T w2 (w2.setCell ⟨T, 1, none⟩ v') := OnlyRow.setCell _ _ _ _
  refine ⟨hT.below h'.below (by omega), e1, e2, by rw [hT.size]; omega, hT.row h'.res (by omega), (h'.t.set 1 v').congr ?_, own_only hT h'.ownN fun e => own_farM h'.ownN (by omega) e.symm, own_only hT ho' fun e => own_farM ho' (by omega) e.symm, h.ok, ?_⟩
  · intro i hi
    match i, hi with
    | 0, _ => simp [tF]
    | 1, _ => simp [tF]
  · intro e he
    obtain ⟨N, f, a, b, c⟩ := hx e he
    exact ⟨N, f, hT.row (a.of_block (hb.block _ a.lt)) (by omega), b, c⟩

theorem new_two_at (w : World) (g : Nat) (a b : Value) (t : TypeId) (hg : g = w.heap.size) : ∀ (j : Nat) (u : Value), [a, b][j]? = some u → (w.alloc (.cells #[a, b] t)).cell? ((⟨g, 0, none⟩ : Addr).add j) = some u := hg ▸ new_two w a b t
theorem new_one_at (w : World) (g : Nat) (a : Value) (t : TypeId) (hg : g = w.heap.size) : ∀ (j : Nat) (u : Value), [a][j]? = some u → (w.alloc (.cells #[a] t)).cell? ((⟨g, 0, none⟩ : Addr).add j) = some u := hg ▸ cell_one_new w a t
/-- behind 't.Entries = append(t.Entries, api.Entry{Text: letter(i), Nodes: []int{i}})' -/
def LetterMade (w : World) (R T : Nat) (ns : List Nd) (va : Value) (es : List Ent) (i : Nat) (wf : World) : Prop :=
  ∃ (x : Ent) (eo : Option Addr) (ec : Nat), x.tx = ltr i ∧ x.k = 1 ∧ x.z 0 = (i : Int) ∧ MadeE w R T ns va (es ++ [x]) (.slice eo (i + 1) ec) wf
theorem letter_made {w : World} {R T : Nat} {ns : List Nd} {va : Value} {es : List Ent} {i : Nat} {ve : Value} {ws w3 : World} {g cap : Nat} (h : MadeE w R T ns va es ve ws) (hl : es.length = i)
    (ho : w3.ownsRow (w.heap.size + 3) 64 2 (.slice (some ⟨g, 0, none⟩) (i + 1) cap) (i + 1) (flat es ++ [.string (ltr i), .slice (some ⟨ws.heap.size, 0, none⟩) 1 1]))
    (hg : World.grownBy ((ws.drew.alloc (.cells #[.int .i64 i] 3)).alloc (.cells #[.string (ltr i), .slice (some ⟨ws.heap.size, 0, none⟩) 1 1] 64)) w3 ve.ownBlock) :
    LetterMade w R T ns va es i (w3.setCell ⟨T, 1, none⟩ (.slice (some ⟨g, 0, none⟩) (i + 1) cap)) := by
  have h' := ((h.later (Below.refl _ _).drew).later (below_one (.cells #[.int .i64 i] 3))).later (below_one (.cells #[.string (ltr i), .slice (some ⟨ws.heap.size, 0, none⟩) 1 1] 64))
  refine ⟨⟨ltr i, ws.heap.size, 1, 1, fun _ => i⟩, _, _, rfl, rfl, rfl, h'.add hg ?_ ⟨1, _, (row_new ws.drew #[.int .i64 i] 3 1 rfl).alloc _, h.room, by show 1 ≤ 1; omega, fun q hq => ?_⟩⟩
  · rw [hl]
    exact own_add ho rfl rfl
  · have hq' : q < 1 := hq
    have : q = 0 := by omega
    subst this
    rfl
/-! ### the letters -/
def LettersE (i : Nat) (es : List Ent) : Prop := es.length = i ∧ ∀ j e, es[j]? = some e → e.tx = ltr j ∧ e.k = 1 ∧ e.z 0 = (j : Int)
theorem lettersE_nil : LettersE 0 [] := ⟨rfl, by simp⟩
theorem lettersE_add {i : Nat} {es : List Ent} {x : Ent} (h : LettersE i es) (hx : x.tx = ltr i ∧ x.k = 1 ∧ x.z 0 = (i : Int)) : LettersE (i + 1) (es ++ [x]) := by
  refine ⟨by simp [h.1], fun j e he => ?_⟩
  by_cases hj : j < es.length
  · rw [List.getElem?_append_left hj] at he
    exact h.2 j e he
  · rw [List.getElem?_append_right (by omega)] at he
    have hl := h.1
    have : j - es.length = 0 := by
      cases hq : j - es.length with
      | zero => rfl
      | succ q => rw [hq] at he; simp at he
    rw [this] at he
    simp at he
    subst he
    have : j = i := by omega
    subst this
    exact hx
theorem ltr_rise : ∀ i, i < 12 → ∀ j, j < i → lessB (ltr j) (ltr i) = true := by decide +kernel
theorem ltr_size (i : Nat) : (ltr i).size = 1 := rfl

/-- what holds of the entries of a table that was made -/
structure GoodE (n k : Nat) (es : List Ent) : Prop where
  rise : Rise es
  size : ∀ e, e ∈ es → 1 ≤ e.tx.size ∧ e.tx.size ≤ 3
  kk : ∀ e, e ∈ es → 1 ≤ e.k ∧ e.k ≤ 4
  z : ∀ e, e ∈ es → ∀ q, q < e.k → 0 ≤ e.z q ∧ e.z q < n
  ones : es.countP (fun e => decide (e.tx.size = 1)) = k
  all : ∀ j, j < k → ∃ e, e ∈ es ∧ e.tx = ltr j
theorem goodE_letters {n k : Nat} {es : List Ent} (h : LettersE k es) (hk : k ≤ 12) (hn : k ≤ n) : GoodE n k es := by
  have hm : ∀ e, e ∈ es → ∃ j, j < k ∧ e.tx = ltr j ∧ e.k = 1 ∧ e.z 0 = (j : Int) := fun e he => by
    obtain ⟨j, hj, rfl⟩ := List.mem_iff_getElem.1 he
    exact ⟨j, by have := h.1; omega, h.2 j _ (List.getElem?_eq_getElem hj)⟩
  refine ⟨?_, fun e he => ?_, fun e he => ?_, fun e he q hq => ?_, ?_, fun j hj => ?_⟩
  · refine List.pairwise_iff_getElem.2 fun i j hi hj hij => ?_
    rw [(h.2 i _ (List.getElem?_eq_getElem hi)).1, (h.2 j _ (List.getElem?_eq_getElem hj)).1]
    exact ltr_rise j (by have := h.1; omega) i hij
  · obtain ⟨j, _, ht, _⟩ := hm e he
    rw [ht, ltr_size]; omega
  · obtain ⟨j, _, _, hk, _⟩ := hm e he
    omega
  · obtain ⟨j, hj, _, hk', hz⟩ := hm e he
    have : q = 0 := by omega
    subst this
    omega
  · rw [← h.1]
    refine List.countP_eq_length.2 fun e he => ?_
    obtain ⟨j, _, ht, _⟩ := hm e he
    rw [ht, ltr_size]; rfl
  · have hj' : j < es.length := by rw [h.1]; exact hj
    exact ⟨_, List.getElem_mem hj', (h.2 j _ (List.getElem?_eq_getElem hj')).1⟩
theorem goodE_lay {n k : Nat} {es : List Ent} {x : Ent} (h : GoodE n k es) (h1 : 2 ≤ x.tx.size ∧ x.tx.size ≤ 3) (h2 : 1 ≤ x.k ∧ x.k ≤ 4) (h3 : ∀ q, q < x.k → 0 ≤ x.z q ∧ x.z q < n) : GoodE n k (layL x es) := by
  refine ⟨layL_rise x es h.rise, fun e he => ?_, fun e he => ?_, fun e he => ?_, ?_, fun j hj => ?_⟩
  · rcases layL_mem x es e he with rfl | he
    · omega
    · exact h.size e he
  · rcases layL_mem x es e he with rfl | he
    · exact h2
    · exact h.kk e he
  · rcases layL_mem x es e he with rfl | he
    · exact h3
    · exact h.z e he
  · rw [layL_ones x (by omega)]; exact h.ones
  · obtain ⟨e, he, ht⟩ := h.all j hj
    exact ⟨e, layL_has x es e he, ht⟩

end Go.Proofs.Ytpclldccjpncdaa
