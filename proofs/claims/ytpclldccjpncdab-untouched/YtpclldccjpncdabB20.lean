import Derived.Test.YtpclldccjpncdabB19
namespace Go.Proofs.Ytpclldccjpncdab
open Go.RowKit

def pickZ (c n : Int) : Int := (if c < 0 then -(c + 1) else c).tmod n
theorem pickZ_in (c n : Int) (hn : 1 ≤ n) : 0 ≤ pickZ c n ∧ pickZ c n < n := by
  unfold pickZ
  split
  · exact ⟨Int.tmod_nonneg _ (by omega), Int.tmod_lt_of_pos _ (by omega)⟩
  · exact ⟨Int.tmod_nonneg _ (by omega), Int.tmod_lt_of_pos _ (by omega)⟩

theorem wrapIn (x : Int) : -9223372036854775808 ≤ IntKind.i64.wrap x ∧ IntKind.i64.wrap x ≤ 9223372036854775807 := by
  rw [IntKind.wrap_i64]; omega
theorem quoIn (c : Int) (hc : -9223372036854775808 ≤ c ∧ c ≤ 9223372036854775807) (d : Int) (hd : 1 ≤ d) : -9223372036854775808 ≤ c.tdiv d ∧ c.tdiv d ≤ 9223372036854775807 := by
  have h := IntWalk.i64_quo' c d ⟨hc.1, hc.2, hd⟩
  rw [← h]
  exact wrapIn _

theorem pick_eq (c n : Int) (w : World) (hc : -9223372036854775808 ≤ c ∧ c ≤ 9223372036854775807) (hn : 1 ≤ n ∧ n ≤ 1000) :
    Calls Try.prog 17 #[.int .i64 c, .int .i64 n] w fun e w' => e = .returned (.int .i64 (pickZ c n)) ∧ w' = w := by
  obtain ⟨h1, h2⟩ := hn
  obtain ⟨h3, h4⟩ := hc
  have hq := pickZ_in c n h1
  unfold pickZ at hq ⊢
  by_cases h0 : c < 0
  · rw [if_pos h0] at hq ⊢
    go_enter Try.func17, Try.ntmps17
    go_wp2
    go_ret
    exact ⟨by rw [Int.neg_tmod]; rfl, rfl⟩
  · rw [if_neg h0] at hq ⊢
    go_enter Try.func17, Try.ntmps17
    go_wp2
    go_ret
    exact ⟨by rw [Int.tmod_eq_emod_of_nonneg (by omega)]; rfl, rfl⟩

theorem pick_any (c n : Int) (w : World) (hc : -9223372036854775808 ≤ c ∧ c ≤ 9223372036854775807) (hn : 1 ≤ n ∧ n ≤ 1000) :
    Calls Try.prog 17 #[.int .i64 c, .int .i64 n] w fun e w' => ∃ r : Nat, e = .returned (.int .i64 r) ∧ (r : Int) < n ∧ w' = w := by
  refine (pick_eq c n w hc hn).mono ?_
  rintro e w' ⟨rfl, rfl⟩
  obtain ⟨h1, h2⟩ := pickZ_in c n hn.1
  refine ⟨(pickZ c n).toNat, ?_, by omega, rfl⟩
  rw [Int.toNat_of_nonneg h1]

def ltr (i : Nat) : ByteArray := ⟨#[(97 + i).toUInt8]⟩
theorem letter_any (i : Nat) (w : World) (hi : i < 12) : Calls Try.prog 27 #[.int .i64 i] w fun e w' => e = .returned (.string (ltr i)) ∧ w' = w := by
  have : i = 0 ∨ i = 1 ∨ i = 2 ∨ i = 3 ∨ i = 4 ∨ i = 5 ∨ i = 6 ∨ i = 7 ∨ i = 8 ∨ i = 9 ∨ i = 10 ∨ i = 11 := by omega
  rcases this with rfl | rfl | rfl | rfl | rfl | rfl | rfl | rfl | rfl | rfl | rfl | rfl
  all_goals
    go_enter Try.func27, Try.ntmps27
    go_wp2
    go_ret
    exact ⟨rfl, rfl⟩

/-- a node as the walk of 'made' holds it: what 'next' may be given and what it gives -/
structure NodeFit (p s t : Int) : Prop where
  p0 : 0 ≤ p
  p1 : p ≤ 250
  s0 : 0 ≤ s
  s1 : s ≤ 250
  t0 : 0 ≤ t
  t1 : t ≤ 250
  ps : p = 0 ∨ 0 < s
theorem new_at (w : World) (o : Obj) (g : Nat) (h : g = w.heap.size) : (w.alloc o).heap[g]? = some o := h ▸ heap_alloc_new w o
theorem size53 : (Try.prog.info? 60).map (·.size) = some 3 := by kernel_rfl
structure NextOf (p s t p' s' t' : Int) : Prop where
  p0 : 0 ≤ p' ∧ p' ≤ 1000
  s0 : 0 ≤ s' ∧ s' ≤ 1000
  t0 : 1 ≤ t' ∧ t' ≤ 1000
  ps : p' = 0 ∨ 0 < s'
  above : aboveB p' s' t' p s t = true

theorem next0 {p s t : Int} (h : NodeFit p s t) {a b c : Nat} (ha : (a : Int) < 20) (hb : (b : Int) < 20) (hc : (c : Int) < 20) : NextOf p s t (IntKind.i64.wrap (p + (1 + a))) (IntKind.i64.wrap (1 + b)) (IntKind.i64.wrap (1 + c)) := by
  obtain ⟨p0, p1, s0, s1, t0, t1, ps⟩ := h
  rw [IntWalk.i64_in _ (by omega), IntWalk.i64_in _ (by omega), IntWalk.i64_in _ (by omega)]
  refine ⟨by omega, by omega, by omega, by omega, ?_⟩
  unfold aboveB
  rw [if_neg (by omega)]
  simp; omega
theorem next1 {p s t : Int} (h : NodeFit p s t) {a b : Nat} (ha : (a : Int) < 20) (hb : (b : Int) < 20) : NextOf p s t p (IntKind.i64.wrap (s + (1 + a))) (IntKind.i64.wrap (1 + b)) := by
  obtain ⟨p0, p1, s0, s1, t0, t1, ps⟩ := h
  rw [IntWalk.i64_in _ (by omega), IntWalk.i64_in _ (by omega)]
  refine ⟨by omega, by omega, by omega, by omega, ?_⟩
  unfold aboveB
  rw [if_pos rfl, if_neg (by omega)]
  simp; omega
theorem next2 {p s t : Int} (h : NodeFit p s t) {a : Nat} (ha : (a : Int) < 20) : NextOf p s t p s (t + (1 + a)) := by
  obtain ⟨p0, p1, s0, s1, t0, t1, ps⟩ := h
  refine ⟨by omega, by omega, by omega, by omega, ?_⟩
  unfold aboveB
  rw [if_pos rfl, if_pos rfl]
  simp; omega

set_option maxHeartbeats 1000000 in
theorem next_any (p s t v : Int) (w : World) (hf : NodeFit p s t) (hv : -9223372036854775808 ≤ v ∧ v ≤ 9223372036854775807) :
    Calls Try.prog 26 #[.agg #[.int .i64 p, .int .i64 s, .int .i64 t], .int .i64 v] w fun e w' => (∃ p' s' t', e = .returned (.agg #[.int .i64 p', .int .i64 s', .int .i64 t']) ∧ NextOf p s t p' s' t') ∧ Below w.heap.size w w' := by
  have HF : Hid (NodeFit p s t) := hf
  obtain ⟨p0, p1, s0, s1, t0, t1, _⟩ := hf
  have v3 := quoIn v hv 3 (by omega)
  have v36 := quoIn v hv 36 (by omega)
  have v7 := quoIn v hv 7 (by omega)
  have e36 := IntWalk.i64_quo' v 36 ⟨hv.1, hv.2, by omega⟩
  have e7 := IntWalk.i64_quo' v 7 ⟨hv.1, hv.2, by omega⟩
  go_enter Try.func26, Try.ntmps26
  go_wp2_with (go_at_call 17; refine (pick_any _ _ _ (by omega) (by omega)).mono ?_; rintro e w1 ⟨r, rfl, hr, rfl⟩)
  · go_region_with (go_at_call 17; refine (pick_any _ _ _ (by first | omega | exact wrapIn _) (by omega)).mono ?_; rintro e w1 ⟨r, rfl, hr, rfl⟩)
    all_goals
      go_wp2
      refine bodyPost_ret (results_cell_row rfl _ _ (w.heap.size + 1) 60 _ (0, 0) _ (by rfl) (new_at _ _ _ (by simp)) Try.underlying60 rfl size53) rfl ?_
      refine ⟨⟨_, _, _, rfl, ?_⟩, (below_then (below_one _) (below_one _)).drew⟩
      exact next0 HF.out (by omega) (by omega) (by omega)
  · go_region_with (go_at_call 17; refine (pick_any _ _ _ (by first | omega | exact wrapIn _) (by omega)).mono ?_; rintro e w1 ⟨r, rfl, hr, rfl⟩)
    all_goals
      go_wp2
      refine bodyPost_ret (results_cell_row rfl _ _ (w.heap.size + 1) 60 _ (0, 0) _ (by rfl) (new_at _ _ _ (by simp)) Try.underlying60 rfl size53) rfl ?_
      refine ⟨⟨_, _, _, rfl, ?_⟩, (below_then (below_one _) (below_one _)).drew⟩
      exact next1 HF.out (by omega) (by omega)
  · go_wp2
    refine bodyPost_ret (results_cell_row rfl _ _ (w.heap.size + 1) 60 _ (0, 0) _ (by rfl) (new_at _ _ _ (by simp)) Try.underlying60 rfl size53) rfl ?_
    refine ⟨⟨_, _, _, rfl, ?_⟩, below_then (below_one _) (below_one _)⟩
    exact next2 HF.out (by omega)

end Go.Proofs.Ytpclldccjpncdab

namespace Go.Proofs.Ytpclldccjpncdab
open Go.RowKit


/-- an entry that was made: its text, its list (block, length, room), its numbers -/
structure Ent where
  tx : ByteArray
  b : Nat
  k : Nat
  c : Nat
  z : Nat → Int
instance : Inhabited Ent := ⟨⟨ByteArray.empty, 0, 0, 0, fun _ => 0⟩⟩
def Ent.list (e : Ent) : Value := .slice (some ⟨e.b, 0, none⟩) e.k e.c
def flat (es : List Ent) : List Value := es.flatMap fun e => [.string e.tx, e.list]
theorem flat_len (es : List Ent) : (flat es).length = es.length * 2 := by
  induction es with
  | nil => rfl
  | cons e r ih => simp [flat] at ih ⊢; omega
theorem flat_app (a b : List Ent) : flat (a ++ b) = flat a ++ flat b := by simp [flat]
theorem flat_one (e : Ent) : flat [e] = [.string e.tx, e.list] := by simp [flat]
theorem flat_at : ∀ (es : List Ent) (i : Nat) (e : Ent), es[i]? = some e → (flat es)[i * 2]? = some (.string e.tx) ∧ (flat es)[i * 2 + 1]? = some e.list
  | [], i, e, h => by simp at h
  | a :: r, 0, e, h => by simp at h; subst h; simp [flat]
  | a :: r, i + 1, e, h => by
    have ih := flat_at r i e (by simpa using h)
    have h1 : (i + 1) * 2 = i * 2 + 1 + 1 := by omega
    rw [h1]
    simpa [flat] using ih

noncomputable def layL (x : Ent) : List Ent → List Ent
  | [] => [x]
  | e :: r => if lessB e.tx x.tx = true then e :: layL x r else if lessB x.tx e.tx = true then x :: e :: r else e :: r

theorem layL_app (x : Ent) : ∀ (a r : List Ent), (∀ e ∈ a, lessB e.tx x.tx = true) → layL x (a ++ r) = a ++ layL x r
  | [], r, _ => rfl
  | e :: a, r, h => by
    have h1 := h e (by simp)
    have h2 := layL_app x a r fun e' he => h e' (by simp [he])
    rw [List.cons_append, layL, if_pos h1, h2, List.cons_append]
theorem layL_len (x : Ent) : ∀ es : List Ent, (layL x es).length ≤ es.length + 1
  | [] => by simp [layL]
  | e :: r => by
    have ih := layL_len x r
    unfold layL
    split
    · simp; omega
    · split <;> simp
theorem layL_mem (x : Ent) : ∀ (es : List Ent) (e : Ent), e ∈ layL x es → e = x ∨ e ∈ es
  | [], e, h => by simp [layL] at h; exact .inl h
  | a :: r, e, h => by
    have ih := layL_mem x r e
    unfold layL at h
    split at h
    · simp at h ⊢
      rcases h with h | h
      · exact .inr (.inl h)
      · rcases ih h with h | h
        · exact .inl h
        · exact .inr (.inr h)
    · split at h
      · simpa using h
      · exact .inr h
theorem layL_has (x : Ent) : ∀ (es : List Ent) (e : Ent), e ∈ es → e ∈ layL x es
  | [], e, h => by simp at h
  | a :: r, e, h => by
    have ih := layL_has x r e
    unfold layL
    split
    · simp at h ⊢
      rcases h with h | h
      · exact .inl h
      · exact .inr (ih h)
    · split
      · simp at h ⊢; exact .inr h
      · exact h
def Rise (es : List Ent) : Prop := es.Pairwise fun a b => lessB a.tx b.tx = true
theorem layL_rise (x : Ent) : ∀ es : List Ent, Rise es → Rise (layL x es)
  | [], _ => by simp [Rise, layL]
  | a :: r, h => by
    have h0 : (∀ e ∈ r, lessB a.tx e.tx = true) ∧ Rise r := by simpa [Rise] using h
    have ih := layL_rise x r h0.2
    unfold layL
    split
    · rename_i h1
      refine List.pairwise_cons.2 ⟨fun e he => ?_, ih⟩
      rcases layL_mem x r e he with rfl | he
      · exact h1
      · exact h0.1 e he
    · split
      · rename_i h1 h2
        refine List.pairwise_cons.2 ⟨fun e he => ?_, h⟩
        simp at he
        rcases he with rfl | he
        · exact h2
        · exact lessB_trans h2 (h0.1 e he)
      · exact h
theorem layL_ones (x : Ent) (hx : ¬ x.tx.size = 1) : ∀ es : List Ent, (layL x es).countP (fun e => decide (e.tx.size = 1)) = es.countP (fun e => decide (e.tx.size = 1))
  | [] => by simp [layL, hx]
  | a :: r => by
    have ih := layL_ones x hx r
    unfold layL
    split
    · rw [List.countP_cons, List.countP_cons, ih]
    · split
      · rw [List.countP_cons]; simp [hx]
      · rfl

/-- the state of 'laid' behind i rounds -/
def LaidTo (x : Ent) (es : List Ent) (i : Nat) (d : Bool) (out : List Ent) : Prop :=
  (d = false ∧ out = es.take i ∧ ∀ e ∈ out, lessB e.tx x.tx = true) ∨ (d = true ∧ out ++ es.drop i = layL x es)
theorem laidTo_start (x : Ent) (es : List Ent) : LaidTo x es 0 false [] := .inl ⟨rfl, by simp, by simp⟩
theorem drop_at {es : List Ent} {i : Nat} {e : Ent} (h : es[i]? = some e) : es.drop i = e :: es.drop (i + 1) := by
  obtain ⟨hi, rfl⟩ := List.getElem?_eq_some_iff.1 h
  exact List.drop_eq_getElem_cons hi
theorem take_at {es : List Ent} {i : Nat} {e : Ent} (h : es[i]? = some e) : es.take (i + 1) = es.take i ++ [e] := by
  rw [List.take_add_one, h]; rfl
theorem laidTo_on {x : Ent} {es : List Ent} {i : Nat} {out : List Ent} {e : Ent} (h : LaidTo x es i true out) (he : es[i]? = some e) : LaidTo x es (i + 1) true (out ++ [e]) := by
  rcases h with ⟨h, _⟩ | ⟨_, h⟩
  · cases h
  · refine .inr ⟨rfl, ?_⟩
    rw [drop_at he] at h
    simpa using h
theorem laidTo_less {x : Ent} {es : List Ent} {i : Nat} {out : List Ent} {e : Ent} (h : LaidTo x es i false out) (he : es[i]? = some e) (hl : lessB e.tx x.tx = true) : LaidTo x es (i + 1) false (out ++ [e]) := by
  rcases h with ⟨_, h1, h2⟩ | ⟨h, _⟩
  · refine .inl ⟨rfl, by rw [take_at he, h1], fun e' h' => ?_⟩
    simp at h'
    rcases h' with h' | rfl
    · exact h2 e' h'
    · exact hl
  · cases h
theorem laidTo_here {x : Ent} {es : List Ent} {i : Nat} {out : List Ent} {e : Ent} (h : LaidTo x es i false out) (he : es[i]? = some e) (hl : lessB e.tx x.tx = false) (hg : lessB x.tx e.tx = true) : LaidTo x es (i + 1) true (out ++ [x] ++ [e]) := by
  rcases h with ⟨_, h1, h2⟩ | ⟨h, _⟩
  · refine .inr ⟨rfl, ?_⟩
    have : es = out ++ es.drop i := by rw [h1, List.take_append_drop]
    rw [this, layL_app x out _ h2, ← this, drop_at he, layL, if_neg (by simp [hl]), if_pos hg]
    simp
  · cases h
theorem laidTo_same {x : Ent} {es : List Ent} {i : Nat} {out : List Ent} {e : Ent} (h : LaidTo x es i false out) (he : es[i]? = some e) (hl : lessB e.tx x.tx = false) (hg : lessB x.tx e.tx = false) : LaidTo x es (i + 1) true (out ++ [e]) := by
  rcases h with ⟨_, h1, h2⟩ | ⟨h, _⟩
  · refine .inr ⟨rfl, ?_⟩
    have : es = out ++ es.drop i := by rw [h1, List.take_append_drop]
    rw [this, layL_app x out _ h2, ← this, drop_at he, layL, if_neg (by simp [hl]), if_neg (by simp [hg])]
    simp
  · cases h
theorem laidTo_end0 {x : Ent} {es : List Ent} {out : List Ent} (h : LaidTo x es es.length false out) : out ++ [x] = layL x es := by
  rcases h with ⟨_, h1, h2⟩ | ⟨h, _⟩
  · rw [List.take_length] at h1
    have := layL_app x out [] h2
    rw [List.append_nil] at this
    rw [← h1, this]; rfl
  · cases h
theorem laidTo_end1 {x : Ent} {es : List Ent} {out : List Ent} (h : LaidTo x es es.length true out) : out = layL x es := by
  rcases h with ⟨h, _⟩ | ⟨_, h⟩
  · cases h
  · simpa using h
theorem laidTo_len {x : Ent} {es : List Ent} {i : Nat} {d : Bool} {out : List Ent} (h : LaidTo x es i d out) : out.length ≤ es.length + 1 := by
  rcases h with ⟨_, h, _⟩ | ⟨_, h⟩
  · rw [h]; simp; omega
  · have h1 := layL_len x es
    rw [← h] at h1
    simp at h1
    omega

end Go.Proofs.Ytpclldccjpncdab

namespace Go.Proofs.Ytpclldccjpncdab
open Go.RowKit

/-- what lies in a row of entries of one's own -/
theorem ents_cells {w : World} {base : Nat} {v : Value} {es : List Ent} {n : Nat} (hn : es.length = n) (ho : w.ownsRow base 41 2 v n (flat es)) :
    ∃ vo vc gv, v = .slice vo n vc ∧ (0 < n → vo = some ⟨gv, 0, none⟩ ∧ gv < w.heap.size ∧ base ≤ gv) ∧ ∀ i e, es[i]? = some e → w.cell? ⟨gv, i * 2, none⟩ = some (.string e.tx) ∧ w.cell? ⟨gv, i * 2 + 1, none⟩ = some e.list := by
  obtain ⟨vo, vc, gv, h1, h2, h3⟩ := own_cells ho
  refine ⟨vo, vc, gv, h1, h2, fun i e he => ?_⟩
  obtain ⟨hi, _⟩ := List.getElem?_eq_some_iff.1 he
  obtain ⟨f1, f2⟩ := flat_at es i e he
  exact ⟨h3 _ _ (by omega) f1, h3 _ _ (by omega) f2⟩

theorem own_base {w : World} {base base' : Nat} {e : TypeId} {size : Nat} {v : Value} {k : Nat} {xs : List Value} (h : w.ownsRow base e size v k xs) (hb : base' ≤ base) : w.ownsRow base' e size v k xs := by
  obtain ⟨h1, h2⟩ := h
  refine ⟨h1, ?_⟩
  rcases h2 with h2 | ⟨g, cap, cur, hv, hg, r⟩
  · exact .inl h2
  · exact .inr ⟨g, cap, cur, hv, Nat.le_trans hb hg, r⟩
theorem own_add {w : World} {base q : Nat} {v : Value} {out : List Ent} {et : ByteArray} {el : Value} {e : Ent} (h : w.ownsRow base 41 2 v (q + 1) (flat out ++ [.string et, el])) (ht : et = e.tx) (hl : el = e.list) : w.ownsRow base 41 2 v (q + 1) (flat (out ++ [e])) := by
  rw [flat_app, flat_one, ← ht, ← hl]; exact h

set_option maxRecDepth 100000 in
set_option maxHeartbeats 1000000 in
theorem laid_any (x : Ent) (es : List Ent) (n : Nat) (v : Value) (base : Nat) (w : World) (hn : es.length = n) (hm : n ≤ 40) (ho : w.ownsRow base 41 2 v n (flat es)) :
    Calls Try.prog 28 #[v, .agg #[.string x.tx, x.list]] w fun e w' => (∃ v', e = .returned v' ∧ w'.ownsRow w.heap.size 41 2 v' (layL x es).length (flat (layL x es))) ∧ Below w.heap.size w w' := by
  obtain ⟨vo, vc, gv, rfl, hadr, hcs⟩ := ents_cells hn ho
  have HCS : Hid (∀ i e, es[i]? = some e → w.cell? ⟨gv, i * 2, none⟩ = some (.string e.tx) ∧ w.cell? ⟨gv, i * 2 + 1, none⟩ = some e.list) := hcs
  have HAD : Hid (0 < n → vo = some ⟨gv, 0, none⟩ ∧ gv < w.heap.size ∧ base ≤ gv) := hadr
  have HN : Hid (es.length = n) := hn
  clear hcs hadr ho hn
  obtain ⟨xl, hxl⟩ : ∃ xl, xl = x.list := ⟨_, rfl⟩
  obtain ⟨xt, hxt⟩ : ∃ xt, xt = x.tx := ⟨_, rfl⟩
  have HXL : Hid (xl = x.list) := hxl
  have HXT : Hid (xt = x.tx) := hxt
  rw [← hxl, ← hxt]
  have hone : xl.oneCell' = true := by rw [hxl]; rfl
  have HONE : Hid (xl.oneCell' = true) := hone
  clear hxl hxt hone
  obtain ⟨i0, hi0, hq0, hq1, hq2⟩ := info_parts info57
  go_enter Try.func28, Try.ntmps28
  go_wp2
  go_loopw [5, 6, 7] (fun v d iv wr => ∃ (i : Nat) (out : List Ent) (q : Nat) (b : Bool), i ≤ n ∧ out.length = q ∧ d = .bool b ∧ iv = .int .i64 i ∧ LaidTo x es i b out ∧ Below (w.heap.size + 1) (w.alloc (.cells #[.string xt, xl] 41)) wr ∧ wr.ownsRow (w.heap.size + 1) 41 2 v q (flat out)) (fun _ _ iv _ => n - (intOf iv).toNat)
  case atStart => exact ⟨0, [], 0, false, Nat.zero_le _, rfl, rfl, rfl, laidTo_start x es, Below.refl _ _, World.ownsRow_nil _ _ _ _⟩
  case round =>
    obtain ⟨i, out, q, b, hi, hql, rfl, rfl, hto, hbel, hown⟩ := hrel
    have HTO : Hid (LaidTo x es i b out) := hto
    have HOWN : Hid (wr.ownsRow (w.heap.size + 1) 41 2 _ q (flat out)) := hown
    have HQL : Hid (out.length = q) := hql
    have hqn : q ≤ 41 := by have := laidTo_len hto; have := HN.out; omega
    have hsz : w.heap.size + 1 ≤ wr.heap.size := by have := hbel.size; simpa using this
    have x0 : wr.cell? ⟨w.heap.size, 0, none⟩ = some (.string xt) := cellTo hbel ((row_new w #[.string xt, xl] 41 2 rfl).cell (i := 0) (by omega)) (Nat.lt_succ_self _)
    have x1 : wr.cell? ⟨w.heap.size, 1, none⟩ = some xl := cellTo hbel ((row_new w #[.string xt, xl] 41 2 rfl).cell (i := 1) (by omega)) (Nat.lt_succ_self _)
    clear hto hown hql
    by_cases hlt : i < n
    · obtain ⟨e, he⟩ : ∃ e, es[i]? = some e := ⟨_, List.getElem?_eq_getElem (by have := HN.out; omega)⟩
      have HE : Hid (es[i]? = some e) := he
      obtain ⟨ha, hgv, _⟩ := HAD.out (by omega)
      subst ha
      have c0 := cellTo hbel (((below_one (w := w) (.cells #[.string xt, xl] 41)).cell (by exact hgv)).trans (HCS.out i e he).1) (by show gv < _; omega)
      have c1 := cellTo hbel (((below_one (w := w) (.cells #[.string xt, xl] 41)).cell (by exact hgv)).trans (HCS.out i e he).2) (by show gv < _; omega)
      clear he
      obtain ⟨el, hel⟩ : ∃ el, el = e.list := ⟨_, rfl⟩
      obtain ⟨et, het⟩ : ∃ et, et = e.tx := ⟨_, rfl⟩
      rw [← hel] at c1
      rw [← het] at c0
      have HEL : Hid (el = e.list) := hel
      have HET : Hid (et = e.tx) := het
      have HON2 : Hid (el.oneCell' = true) := by show _ = _; rw [hel]; rfl
      clear hel het
      cases b
      · have d0 := Wb.cell (w := wr) (B := wr.heap.size) (by show gv < _; omega) c0
        have d1 := Wb.cell (w := wr) (B := wr.heap.size) (by exact hsz) x0
        by_cases hA : Op.bytesLess et.toList xt.toList = true
        · have HA : Hid (lessB e.tx x.tx = true) := by show _ = _; rw [← HET.out, ← HXT.out]; exact hA
          go_wp2
          refine wp_region_below wr.heap.size (by kernel_rfl) (by kernel_rfl) ?_
          repeat (go_big_quiet_step (fail))
          refine wpQuiet_nil ?_
          rintro _ ⟨y, rfl⟩
          have hy := y.below
          generalize y.val = w2 at hy
          clear d0 d1
          have hbel2 := hbel.trans (hy.mono hsz)
          have hsz2 : w.heap.size + 1 ≤ w2.heap.size := by have := hy.size; omega
          have HOWN2 : Hid (w2.ownsRow (w.heap.size + 1) 41 2 _ q (flat out)) := own_of_block HOWN.out fun b hb => hy.block b (HOWN.out.lt b hb).2
          have x02 := cellTo hy x0 (by exact hsz)
          have x12 := cellTo hy x1 (by exact hsz)
          have c02 := cellTo hy c0 (by show gv < _; omega)
          have c12 := cellTo hy c1 (by show gv < _; omega)
          clear hy x0 x1 c0 c1
          go_wp2_with (at_builtin; refine wpList_append_lies _ (by rfl) (.tmp 38) (.tmp 43) 25 (by rfl) (w.heap.size + 1) 41 i0 (.agg #[.string ByteArray.empty, .slice none 0 0]) 2 40 Try.underlying25 hi0 hq0 hq1 hq2 rfl (by omega) _ q _ (by rfl) (HOWN2.out.alloc _) ⟨w2.heap.size, 0, none⟩ 1 1 [.string et, el] (by rfl) (by rfl) ?c1 ?c2 (by omega) ?c3 ?c5 ?c4 (w2.heap.size + 1) (by simp) ?_)
          case c1 => exact new_two _ _ _ _
          case c2 => intro u hu; simp at hu; rcases hu with rfl | rfl; exact rfl; exact HON2.out
          case c3 => unfold maxLen; omega
          case c5 => omega
          case c4 => simp; omega
          intro g3 cap3 w3 hown2 hgrow _ _
          have HB3 : Hid (Below (w.heap.size + 1) (w.alloc (.cells #[.string xt, xl] 41)) w3) := (hbel2.alloc hsz2 _).grown hgrow (by simp; omega) (fun r hr => (HOWN2.out.lt r hr).1)
          have HO3 : Hid (w3.ownsRow (w.heap.size + 1) 41 2 (.slice (some ⟨g3, 0, none⟩) (q + 1) cap3) (q + 1) (flat (out ++ [e]))) := own_add hown2 HET.out HEL.out
          clear hown2 hgrow
          go_wp2
          go_roundw
          case rel => exact ⟨i + 1, out ++ [e], q + 1, false, by omega, by simp [HQL.out], rfl, by go_num, laidTo_less HTO.out HE.out HA.out, HB3.out, HO3.out⟩
          case measure => simp [intOf]; omega
        · have hA' : Op.bytesLess et.toList xt.toList = false := by simpa using hA
          have HA : Hid (lessB e.tx x.tx = false) := by show _ = _; rw [← HET.out, ← HXT.out]; exact hA'
          clear hA
          go_wp2
          refine wp_region_below wr.heap.size (by kernel_rfl) (by kernel_rfl) ?_
          repeat (go_big_quiet_step (fail))
          refine wpQuiet_nil ?_
          rintro _ ⟨y, rfl⟩
          have hy := y.below
          generalize y.val = w2 at hy
          clear d0 d1
          have hbel2 := hbel.trans (hy.mono hsz)
          have hsz2 : w.heap.size + 1 ≤ w2.heap.size := by have := hy.size; omega
          have HOWN2 : Hid (w2.ownsRow (w.heap.size + 1) 41 2 _ q (flat out)) := own_of_block HOWN.out fun b hb => hy.block b (HOWN.out.lt b hb).2
          have x02 := cellTo hy x0 (by exact hsz)
          have x12 := cellTo hy x1 (by exact hsz)
          have c02 := cellTo hy c0 (by show gv < _; omega)
          have c12 := cellTo hy c1 (by show gv < _; omega)
          clear hy x0 x1 c0 c1
          have d0 := Wb.cell (w := w2) (B := w2.heap.size) (by show gv < _; omega) c02
          have d1 := Wb.cell (w := w2) (B := w2.heap.size) (by exact hsz2) x02
          by_cases hB : (et.toList == xt.toList) = false
          · have HB : Hid (lessB x.tx e.tx = true) := by show _ = _; rw [← HET.out, ← HXT.out]; exact less_yes _ _ ⟨hA', by simpa using hB⟩
            go_wp2
            refine wp_region_below w2.heap.size (by kernel_rfl) (by kernel_rfl) ?_
            repeat (go_big_quiet_step (fail))
            refine wpQuiet_nil ?_
            rintro _ ⟨y, rfl⟩
            have hy4 := y.below
            generalize y.val = w4 at hy4
            clear d0 d1
            have hbel4 := hbel2.trans (hy4.mono hsz2)
            have hsz4 : w.heap.size + 1 ≤ w4.heap.size := by have := hy4.size; omega
            have HOWN4 : Hid (w4.ownsRow (w.heap.size + 1) 41 2 _ q (flat out)) := own_of_block HOWN2.out fun b hb => hy4.block b (HOWN2.out.lt b hb).2
            have x04 := cellTo hy4 x02 (by exact hsz2)
            have x14 := cellTo hy4 x12 (by exact hsz2)
            have c04 := cellTo hy4 c02 (by show gv < _; omega)
            have c14 := cellTo hy4 c12 (by show gv < _; omega)
            clear hy4 x02 x12 c02 c12
            go_wp2_with (at_builtin; refine wpList_append_lies _ (by rfl) (.tmp 34) (.tmp 36) 25 (by rfl) (w.heap.size + 1) 41 i0 (.agg #[.string ByteArray.empty, .slice none 0 0]) 2 40 Try.underlying25 hi0 hq0 hq1 hq2 rfl (by omega) _ q _ (by rfl) (HOWN4.out.alloc _) ⟨w4.heap.size, 0, none⟩ 1 1 [.string xt, xl] (by rfl) (by rfl) ?c1 ?c2 (by omega) ?c3 ?c5 ?c4 (w4.heap.size + 1) (by simp) ?_)
            case c1 => exact new_two _ _ _ _
            case c2 => intro u hu; simp at hu; rcases hu with rfl | rfl; exact rfl; exact HONE.out
            case c3 => unfold maxLen; omega
            case c5 => omega
            case c4 => simp; omega
            intro g3 cap3 w3 hown2 hgrow _ _
            have HB3 : Hid (Below (w.heap.size + 1) (w.alloc (.cells #[.string xt, xl] 41)) w3) := (hbel4.alloc hsz4 _).grown hgrow (by simp; omega) (fun r hr => (HOWN4.out.lt r hr).1)
            have HO3 : Hid (w3.ownsRow (w.heap.size + 1) 41 2 (.slice (some ⟨g3, 0, none⟩) (q + 1) cap3) (q + 1) (flat (out ++ [x]))) := own_add hown2 HXT.out HXL.out
            clear hown2 hgrow
            have e0 := cellTo HB3.out (((below_one (w := w) (.cells #[.string xt, xl] 41)).cell (by exact hgv)).trans (HCS.out i e HE.out).1) (by show gv < _; omega)
            have e1 := cellTo HB3.out (((below_one (w := w) (.cells #[.string xt, xl] 41)).cell (by exact hgv)).trans (HCS.out i e HE.out).2) (by show gv < _; omega)
            rw [← HET.out] at e0
            rw [← HEL.out] at e1
            have hsz3 : w.heap.size + 1 ≤ w3.heap.size := by have := HB3.out.size; simpa using this
            clear x04 x14 c04 c14
            go_wp2_with (at_builtin; refine wpList_append_lies _ (by rfl) (.tmp 38) (.tmp 43) 25 (by rfl) (w.heap.size + 1) 41 i0 (.agg #[.string ByteArray.empty, .slice none 0 0]) 2 40 Try.underlying25 hi0 hq0 hq1 hq2 rfl (by omega) _ (q + 1) _ (by rfl) (HO3.out.alloc _) ⟨w3.heap.size, 0, none⟩ 1 1 [.string et, el] (by rfl) (by rfl) ?d1 ?d2 (by omega) ?d3 ?d5 ?d4 (w3.heap.size + 1) (by simp) ?_)
            case d1 => exact new_two _ _ _ _
            case d2 => intro u hu; simp at hu; rcases hu with rfl | rfl; exact rfl; exact HON2.out
            case d3 => unfold maxLen; omega
            case d5 => omega
            case d4 => simp; omega
            intro g5 cap5 w5 hown2 hgrow _ _
            have HB5 : Hid (Below (w.heap.size + 1) (w.alloc (.cells #[.string xt, xl] 41)) w5) := (HB3.out.alloc hsz3 _).grown hgrow (by simp; omega) (fun r hr => (HO3.out.lt r hr).1)
            have HO5 : Hid (w5.ownsRow (w.heap.size + 1) 41 2 (.slice (some ⟨g5, 0, none⟩) ((q + 1) + 1) cap5) ((q + 1) + 1) (flat ((out ++ [x]) ++ [e]))) := own_add hown2 HET.out HEL.out
            clear hown2 hgrow
            go_wp2
            go_roundw
            case rel => exact ⟨i + 1, out ++ [x] ++ [e], q + 1 + 1, true, by omega, by simp [HQL.out], rfl, by go_num, laidTo_here HTO.out HE.out HA.out HB.out, HB5.out, HO5.out⟩
            case measure => simp [intOf]; omega
          · have hB' : (et.toList == xt.toList) = true := by simpa using hB
            have HB : Hid (lessB x.tx e.tx = false) := by show _ = _; rw [← HET.out, ← HXT.out]; exact less_no _ _ (.inr (by simpa using hB'))
            clear hB
            go_wp2
            refine wp_region_below w2.heap.size (by kernel_rfl) (by kernel_rfl) ?_
            repeat (go_big_quiet_step (fail))
            refine wpQuiet_nil ?_
            rintro _ ⟨y, rfl⟩
            have hy4 := y.below
            generalize y.val = w4 at hy4
            clear d0 d1
            have hbel4 := hbel2.trans (hy4.mono hsz2)
            have hsz4 : w.heap.size + 1 ≤ w4.heap.size := by have := hy4.size; omega
            have HOWN4 : Hid (w4.ownsRow (w.heap.size + 1) 41 2 _ q (flat out)) := own_of_block HOWN2.out fun b hb => hy4.block b (HOWN2.out.lt b hb).2
            have x04 := cellTo hy4 x02 (by exact hsz2)
            have x14 := cellTo hy4 x12 (by exact hsz2)
            have c04 := cellTo hy4 c02 (by show gv < _; omega)
            have c14 := cellTo hy4 c12 (by show gv < _; omega)
            clear hy4 x02 x12 c02 c12
            go_wp2_with (at_builtin; refine wpList_append_lies _ (by rfl) (.tmp 38) (.tmp 43) 25 (by rfl) (w.heap.size + 1) 41 i0 (.agg #[.string ByteArray.empty, .slice none 0 0]) 2 40 Try.underlying25 hi0 hq0 hq1 hq2 rfl (by omega) _ q _ (by rfl) (HOWN4.out.alloc _) ⟨w4.heap.size, 0, none⟩ 1 1 [.string et, el] (by rfl) (by rfl) ?c1 ?c2 (by omega) ?c3 ?c5 ?c4 (w4.heap.size + 1) (by simp) ?_)
            case c1 => exact new_two _ _ _ _
            case c2 => intro u hu; simp at hu; rcases hu with rfl | rfl; exact rfl; exact HON2.out
            case c3 => unfold maxLen; omega
            case c5 => omega
            case c4 => simp; omega
            intro g3 cap3 w3 hown2 hgrow _ _
            have HB3 : Hid (Below (w.heap.size + 1) (w.alloc (.cells #[.string xt, xl] 41)) w3) := (hbel4.alloc hsz4 _).grown hgrow (by simp; omega) (fun r hr => (HOWN4.out.lt r hr).1)
            have HO3 : Hid (w3.ownsRow (w.heap.size + 1) 41 2 (.slice (some ⟨g3, 0, none⟩) (q + 1) cap3) (q + 1) (flat (out ++ [e]))) := own_add hown2 HET.out HEL.out
            clear hown2 hgrow
            go_wp2
            go_roundw
            case rel => exact ⟨i + 1, out ++ [e], q + 1, true, by omega, by simp [HQL.out], rfl, by go_num, laidTo_same HTO.out HE.out HA.out HB.out, HB3.out, HO3.out⟩
            case measure => simp [intOf]; omega
      · go_wp2
        refine wp_region_below wr.heap.size (by kernel_rfl) (by kernel_rfl) ?_
        repeat (go_big_quiet_step (fail))
        refine wpQuiet_nil ?_
        rintro _ ⟨y, rfl⟩
        have hy := y.below
        generalize y.val = w2 at hy
        have hbel2 := hbel.trans (hy.mono hsz)
        have hsz2 : w.heap.size + 1 ≤ w2.heap.size := by have := hy.size; omega
        have HOWN2 : Hid (w2.ownsRow (w.heap.size + 1) 41 2 _ q (flat out)) := own_of_block HOWN.out fun b hb => hy.block b (HOWN.out.lt b hb).2
        have x02 := cellTo hy x0 (by exact hsz)
        have x12 := cellTo hy x1 (by exact hsz)
        have c02 := cellTo hy c0 (by show gv < _; omega)
        have c12 := cellTo hy c1 (by show gv < _; omega)
        clear hy x0 x1 c0 c1
        go_wp2_with (at_builtin; refine wpList_append_lies _ (by rfl) (.tmp 38) (.tmp 43) 25 (by rfl) (w.heap.size + 1) 41 i0 (.agg #[.string ByteArray.empty, .slice none 0 0]) 2 40 Try.underlying25 hi0 hq0 hq1 hq2 rfl (by omega) _ q _ (by rfl) (HOWN2.out.alloc _) ⟨w2.heap.size, 0, none⟩ 1 1 [.string et, el] (by rfl) (by rfl) ?c1 ?c2 (by omega) ?c3 ?c5 ?c4 (w2.heap.size + 1) (by simp) ?_)
        case c1 => exact new_two _ _ _ _
        case c2 => intro u hu; simp at hu; rcases hu with rfl | rfl; exact rfl; exact HON2.out
        case c3 => unfold maxLen; omega
        case c5 => omega
        case c4 => simp; omega
        intro g3 cap3 w3 hown2 hgrow _ _
        have HB3 : Hid (Below (w.heap.size + 1) (w.alloc (.cells #[.string xt, xl] 41)) w3) := (hbel2.alloc hsz2 _).grown hgrow (by simp; omega) (fun r hr => (HOWN2.out.lt r hr).1)
        have HO3 : Hid (w3.ownsRow (w.heap.size + 1) 41 2 (.slice (some ⟨g3, 0, none⟩) (q + 1) cap3) (q + 1) (flat (out ++ [e]))) := own_add hown2 HET.out HEL.out
        clear hown2 hgrow
        go_wp2
        go_roundw
        case rel => exact ⟨i + 1, out ++ [e], q + 1, true, by omega, by simp [HQL.out], rfl, by go_num, laidTo_on HTO.out HE.out, HB3.out, HO3.out⟩
        case measure => simp [intOf]; omega
    · have hin : i = n := by omega
      subst hin
      cases b
      · go_wp2_with (at_builtin; refine wpList_append_lies _ (by rfl) (.tmp 47) (.tmp 49) 25 (by rfl) (w.heap.size + 1) 41 i0 (.agg #[.string ByteArray.empty, .slice none 0 0]) 2 40 Try.underlying25 hi0 hq0 hq1 hq2 rfl (by omega) _ q _ (by rfl) (HOWN.out.alloc _) ⟨wr.heap.size, 0, none⟩ 1 1 [.string xt, xl] (by rfl) (by rfl) ?c1 ?c2 (by omega) ?c3 ?c5 ?c4 (wr.heap.size + 1) (by simp) ?_)
        case c1 => exact new_two _ _ _ _
        case c2 => intro u hu; simp at hu; rcases hu with rfl | rfl; exact rfl; exact HONE.out
        case c3 => unfold maxLen; omega
        case c5 => omega
        case c4 => simp; omega
        intro g3 cap3 w3 hown2 hgrow _ _
        have HB3 : Hid (Below (w.heap.size + 1) (w.alloc (.cells #[.string xt, xl] 41)) w3) := (hbel.alloc hsz _).grown hgrow (by simp; omega) (fun r hr => (HOWN.out.lt r hr).1)
        have HO3 : Hid (w3.ownsRow (w.heap.size + 1) 41 2 (.slice (some ⟨g3, 0, none⟩) (q + 1) cap3) (q + 1) (flat (out ++ [x]))) := own_add hown2 HXT.out HXL.out
        clear hown2 hgrow
        go_wp2
        go_ret
        refine ⟨⟨_, rfl, ?_⟩, below_then (below_one _) (by simpa using HB3.out)⟩
        have hf := laidTo_end0 (HN.out ▸ HTO.out)
        rw [← hf, List.length_append, HQL.out]
        exact own_base HO3.out (by omega)
      · go_wp2
        go_ret
        refine ⟨⟨_, rfl, ?_⟩, below_then (below_one _) (by simpa using hbel)⟩
        have hf := laidTo_end1 (HN.out ▸ HTO.out)
        rw [← hf, HQL.out]
        exact own_base HOWN.out (by omega)

end Go.Proofs.Ytpclldccjpncdab

namespace Go.Proofs.Ytpclldccjpncdab
open Go.RowKit

abbrev Nd := Int × Int × Int
def ndC (x : Nd) : List Value := [.int .i64 x.1, .int .i64 x.2.1, .int .i64 x.2.2]
def flatN (ns : List Nd) : List Value := ns.flatMap ndC
def ndFM (x : Nd) (j : Nat) : Value := if j = 0 then .int .i64 x.1 else if j = 1 then .int .i64 x.2.1 else .int .i64 x.2.2
def tF (a b : Value) (j : Nat) : Value := if j = 0 then a else b
def ndAt (ns : List Nd) (j : Nat) : Nd := ns.getD j (0, 0, 0)
def lastN (ns : List Nd) : Nd := ndAt ns (ns.length - 1)
def NsOk (ns : List Nd) : Prop := nodesOk ns.length (fun j => (ndAt ns j).1) (fun j => (ndAt ns j).2.1) (fun j => (ndAt ns j).2.2)
theorem ndAt_old (ns : List Nd) (x : Nd) (j : Nat) (h : j < ns.length) : ndAt (ns ++ [x]) j = ndAt ns j := by
  simp [ndAt, List.getElem?_append_left h]
theorem ndAt_new (ns : List Nd) (x : Nd) : ndAt (ns ++ [x]) ns.length = x := by simp [ndAt]
theorem lastN_add (ns : List Nd) (x : Nd) : lastN (ns ++ [x]) = x := by
  unfold lastN
  rw [List.length_append]
  exact ndAt_new ns x
theorem nsOk_nil : NsOk [] := fun j hj => by simp at hj
theorem nsOk_add {ns : List Nd} {x : Nd} (h : NsOk ns) (h1 : nodeB x.1 x.2.1 x.2.2 = true) (h2 : 0 < ns.length → aboveB x.1 x.2.1 x.2.2 (lastN ns).1 (lastN ns).2.1 (lastN ns).2.2 = true) : NsOk (ns ++ [x]) := by
  intro j hj
  rw [List.length_append] at hj
  by_cases e : j = ns.length
  · subst e
    simp only []
    rw [ndAt_new]
    refine ⟨h1, fun h0 => ?_⟩
    rw [ndAt_old ns x _ (by omega)]
    exact h2 h0
  · have hj' : j < ns.length := by simp at hj; omega
    have := h j hj'
    simp only []
    rw [ndAt_old ns x j hj', ndAt_old ns x (j - 1) (by omega)]
    exact this
theorem next_node {p s t p' s' t' : Int} (h : NextOf p s t p' s' t') (h1 : p' ≤ 250 ∧ s' ≤ 250 ∧ t' ≤ 250) : nodeB p' s' t' = true ∧ NodeFit p' s' t' := by
  obtain ⟨a, b, c, d, _⟩ := h
  exact ⟨by unfold nodeB; simp; omega, ⟨by omega, by omega, by omega, by omega, by omega, by omega, d⟩⟩
theorem fit_zero : NodeFit 0 0 0 := ⟨by omega, by omega, by omega, by omega, by omega, by omega, .inl rfl⟩
theorem flatN_add (ns : List Nd) (x : Nd) : flatN (ns ++ [x]) = flatN ns ++ ndC x := by simp [flatN]
theorem flatN_len (ns : List Nd) : (flatN ns).length = ns.length * 3 := by
  induction ns with
  | nil => rfl
  | cons e r ih => simp [flatN, ndC] at ih ⊢; omega
theorem flatN_at : ∀ (ns : List Nd) (i : Nat), i < ns.length → (flatN ns)[i * 3]? = some (.int .i64 (ndAt ns i).1) ∧ (flatN ns)[i * 3 + 1]? = some (.int .i64 (ndAt ns i).2.1) ∧ (flatN ns)[i * 3 + 2]? = some (.int .i64 (ndAt ns i).2.2)
  | [], i, h => by simp at h
  | a :: r, 0, h => by simp [flatN, ndC, ndAt]
  | a :: r, i + 1, h => by
    have ih := flatN_at r i (by simpa using h)
    have h1 : (i + 1) * 3 = i * 3 + 1 + 1 + 1 := by omega
    have h2 : ndAt (a :: r) (i + 1) = ndAt r i := by simp [ndAt]
    rw [h1, h2]
    simpa [flatN, ndC] using ih

theorem own_farM {w : World} {base : Nat} {e : TypeId} {size : Nat} {v : Value} {k : Nat} {xs : List Value} (h : w.ownsRow base e size v k xs) {b : Nat} (hb : b < base) : some b ≠ v.ownBlock := fun e => by
  have := (h.lt b e.symm).1
  omega

/-- what 'made' has while it makes its nodes -/
structure MadeN (w : World) (R T A : Nat) (ns : List Nd) (v : Value) (wr : World) : Prop where
  below : Below w.heap.size w wr
  eR : R = w.heap.size
  eT : T = w.heap.size + 1
  eA : A = w.heap.size + 2
  res : wr.rowIs R 27 2 (fun _ => .slice none 0 0)
  t : wr.rowIs T 27 2 (tF v (.slice none 0 0))
  last : wr.rowIs A 60 3 (ndFM (lastN ns))
  own : wr.ownsRow (w.heap.size + 3) 60 3 v ns.length (flatN ns)
  ok : NsOk ns
  fit : NodeFit (lastN ns).1 (lastN ns).2.1 (lastN ns).2.2
theorem MadeN.later {w : World} {R T A : Nat} {ns : List Nd} {v : Value} {wr w1 : World} (h : MadeN w R T A ns v wr) (hb : Below wr.heap.size wr w1) : MadeN w R T A ns v w1 :=
  ⟨below_then h.below hb, h.eR, h.eT, h.eA, h.res.of_block (hb.block _ h.res.lt), h.t.of_block (hb.block _ h.t.lt), h.last.of_block (hb.block _ h.last.lt), own_of_block h.own fun b hb' => hb.block b (h.own.lt b hb').2, h.ok, h.fit⟩
theorem madeN_start {w : World} {R T A : Nat} (hR : R = w.heap.size) (hT : T = w.heap.size + 1) (hA : A = T + 1) :
    MadeN w R T A [] (.slice none 0 0) (((w.alloc (.cells #[.slice none 0 0, .slice none 0 0] 27)).alloc (.cells #[.slice none 0 0, .slice none 0 0] 27)).alloc (.cells #[.int .i64 0, .int .i64 0, .int .i64 0] 60)) := by
  refine ⟨below_then (below_then (below_one _) (below_one _)) (below_one _), hR, hT, by omega, ?_, ?_, ?_, World.ownsRow_nil _ _ _ _, nsOk_nil, fit_zero⟩
  · refine World.rowIs.alloc (World.rowIs.alloc (row_at (row_new w _ _ 2 rfl) hR.symm ?_) _) _
    intro i hi
    match i, hi with
    | 0, _ => rfl
    | 1, _ => rfl
  · refine World.rowIs.alloc (row_at (row_new _ _ _ 2 rfl) (by simp only [size_one]; omega) ?_) _
    intro i hi
    match i, hi with
    | 0, _ => rfl
    | 1, _ => rfl
  · refine row_at (row_new _ _ _ 3 rfl) (by simp only [size_one]; omega) ?_
    intro i hi
    match i, hi with
    | 0, _ => rfl
    | 1, _ => rfl
    | 2, _ => rfl
/-- a block of no concern is written -/
theorem MadeN.only {w : World} {R T A g : Nat} {ns : List Nd} {v : Value} {wr w1 : World} (h : MadeN w R T A ns v wr) (hO : OnlyRow g wr w1) (hg : w.heap.size + 3 ≤ g) (hne : some g ≠ v.ownBlock) : MadeN w R T A ns v w1 := by
  obtain ⟨hb, eR, eT, eA, h1, h2, h3, h4, h5, h6⟩ := h
  exact ⟨hO.below hb (by omega), eR, eT, eA, hO.row h1 (by omega), hO.row h2 (by omega), hO.row h3 (by omega), own_only hO h4 (fun e => hne e.symm), h5, h6⟩

theorem MadeN.grown {w : World} {R T A : Nat} {ns : List Nd} {v : Value} {wr w2 : World} (h : MadeN w R T A ns v wr) (hg : wr.grownBy w2 v.ownBlock) :
    Below w.heap.size w w2 ∧ w2.rowIs R 27 2 (fun _ => .slice none 0 0) ∧ w2.rowIs T 27 2 (tF v (.slice none 0 0)) ∧ w2.rowIs A 60 3 (ndFM (lastN ns)) := by
  have hz := h.res.lt
  have e1 := h.eR
  have e2 := h.eT
  have e3 := h.eA
  refine ⟨h.below.grown hg (by omega) fun r hr => by have := (h.own.lt r hr).1; omega, row_grown hg h.res (own_farM h.own (by omega)), row_grown hg h.t (own_farM h.own (by omega)), row_grown hg h.last (own_farM h.own (by omega))⟩

theorem MadeN.add {w : World} {R T A : Nat} {ns : List Nd} {v v' : Value} {x : Nd} {wr w2 : World} (h : MadeN w R T A ns v wr) (hg : wr.grownBy w2 v.ownBlock)
    (ho : w2.ownsRow (w.heap.size + 3) 60 3 v' (ns.length + 1) (flatN ns ++ ndC x)) (hx : NsOk (ns ++ [x])) (hf : NodeFit x.1 x.2.1 x.2.2) :
    MadeN w R T A (ns ++ [x]) v' ((((w2.setCell ⟨T, 0, none⟩ v').setCell ⟨A, 0, none⟩ (.int .i64 x.1)).setCell ⟨A, 1, none⟩ (.int .i64 x.2.1)).setCell ⟨A, 2, none⟩ (.int .i64 x.2.2)) := by
  obtain ⟨g1, g2, g3, g4⟩ := h.grown hg
  have e1 := h.eR
  have e2 := h.eT
  have e3 := h.eA
  have hT : OnlyRow T w2 (w2.setCell ⟨T, 0, none⟩ v') := OnlyRow.setCell _ _ _ _
  have hA : OnlyRow A (w2.setCell ⟨T, 0, none⟩ v') ((((w2.setCell ⟨T, 0, none⟩ v').setCell ⟨A, 0, none⟩ (.int .i64 x.1)).setCell ⟨A, 1, none⟩ (.int .i64 x.2.1)).setCell ⟨A, 2, none⟩ (.int .i64 x.2.2)) :=
    ((OnlyRow.setCell _ _ _ _).trans (OnlyRow.setCell _ _ _ _)).trans (OnlyRow.setCell _ _ _ _)
  refine ⟨hA.below (hT.below g1 (by omega)) (by omega), e1, e2, e3, hA.row (hT.row g2 (by omega)) (by omega), hA.row ((g3.set 0 v').congr ?_) (by omega), ((((hT.row g4 (by omega)).set 0 _).set 1 _).set 2 _).congr ?_, ?_, hx, by rw [lastN_add]; exact hf⟩
  · intro i hi
    match i, hi with
    | 0, _ => simp [tF]
    | 1, _ => simp [tF]
  · intro i hi
    rw [lastN_add]
    match i, hi with
    | 0, _ => simp [ndFM]
    | 1, _ => simp [ndFM]
    | 2, _ => simp [ndFM]
  · rw [List.length_append, flatN_add]
    exact own_only hA (own_only hT ho fun e => own_farM ho (by omega) e.symm) fun e => own_farM ho (by omega) e.symm

theorem nd_cells {w : World} {A : Nat} {x : Nd} (h : w.rowIs A 60 3 (ndFM x)) : w.cell? ⟨A, 0, none⟩ = some (.int .i64 x.1) ∧ w.cell? ⟨A, 1, none⟩ = some (.int .i64 x.2.1) ∧ w.cell? ⟨A, 2, none⟩ = some (.int .i64 x.2.2) :=
  ⟨h.cell (i := 0) (by omega), h.cell (i := 1) (by omega), h.cell (i := 2) (by omega)⟩
theorem t_cells {w : World} {T : Nat} {a b : Value} (h : w.rowIs T 27 2 (tF a b)) : w.cell? ⟨T, 0, none⟩ = some a ∧ w.cell? ⟨T, 1, none⟩ = some b ∧ w.frozen? ⟨T, 0, none⟩ = false ∧ w.frozen? ⟨T, 1, none⟩ = false :=
  ⟨h.cell (i := 0) (by omega), h.cell (i := 1) (by omega), h.frozen 0, h.frozen 1⟩

theorem new_nd3 (w : World) (a b c : Value) (t : TypeId) : ∀ (j : Nat) (u : Value), [a, b, c][j]? = some u → (w.alloc (.cells #[a, b, c] t)).cell? ((⟨w.heap.size, 0, none⟩ : Addr).add j) = some u := by
  intro j u hj
  have hr : (w.alloc (.cells #[a, b, c] t)).rowIs w.heap.size t 3 (fun i => #[a, b, c].getD i undef) := row_new w _ t 3 rfl
  match j, hj with
  | 0, hj => simp at hj; subst hj; exact hr.cell (i := 0) (by omega)
  | 1, hj => simp at hj; subst hj; exact hr.cell (i := 1) (by omega)
  | 2, hj => simp at hj; subst hj; exact hr.cell (i := 2) (by omega)
/-- behind 'x := next(last, nodes[i])' -/
def NextMade (w : World) (R T A : Nat) (ns : List Nd) (v : Value) (wr : World) (x : Value) (wc : World) : Prop :=
  ∃ g p' s' t', x = .pointer (some ⟨g, 0, none⟩) ∧ MadeN w R T A ns v wc ∧ wc.rowIs g 60 3 (ndFM (p', s', t')) ∧ wr.heap.size ≤ g ∧ NextOf (lastN ns).1 (lastN ns).2.1 (lastN ns).2.2 p' s' t'
theorem next_after {w : World} {R T A : Nat} {ns : List Nd} {v : Value} {wr w1 : World} {p s t p' s' t' : Int} (h : MadeN w R T A ns v wr) (hx : (p, s, t) = lastN ns) (hn : NextOf p s t p' s' t') (hb : Below wr.drew.heap.size wr.drew w1) :
    NextMade w R T A ns v wr (.pointer (some ⟨w1.heap.size, 0, none⟩)) (w1.alloc (.cells #[.int .i64 p', .int .i64 s', .int .i64 t'] 60)) := by
  have hb' : Below wr.heap.size wr w1 := ((Below.refl wr.heap.size wr).drew).trans hb
  refine ⟨_, p', s', t', rfl, (h.later hb').later (below_one _), row_at (row_new w1 _ _ 3 rfl) rfl ?_, hb'.size, by rw [← hx]; exact hn⟩
  intro i hi
  match i, hi with
  | 0, _ => rfl
  | 1, _ => rfl
  | 2, _ => rfl
theorem next_before {w : World} {R T A : Nat} {ns : List Nd} {v : Value} {wr w1 : World} {p s t p' s' t' : Int} (h : MadeN w R T A ns v wr) (hx : (p, s, t) = lastN ns) (hn : NextOf p s t p' s' t')
    (hb : Below (wr.alloc (.cells #[.int .i64 0, .int .i64 0, .int .i64 0] 60)).drew.heap.size (wr.alloc (.cells #[.int .i64 0, .int .i64 0, .int .i64 0] 60)).drew w1) :
    NextMade w R T A ns v wr (.pointer (some ⟨wr.heap.size, 0, none⟩)) (((w1.setCell ⟨wr.heap.size, 0, none⟩ (.int .i64 p')).setCell ⟨wr.heap.size, 1, none⟩ (.int .i64 s')).setCell ⟨wr.heap.size, 2, none⟩ (.int .i64 t')) := by
  have hb' : Below (wr.alloc (.cells #[.int .i64 0, .int .i64 0, .int .i64 0] 60)).heap.size (wr.alloc (.cells #[.int .i64 0, .int .i64 0, .int .i64 0] 60)) w1 := ((Below.refl _ _).drew).trans hb
  have hr := row_new wr #[.int .i64 0, .int .i64 0, .int .i64 0] 60 3 rfl
  have hr1 := hr.of_block (hb'.block _ hr.lt)
  have hO : OnlyRow wr.heap.size w1 (((w1.setCell ⟨wr.heap.size, 0, none⟩ (.int .i64 p')).setCell ⟨wr.heap.size, 1, none⟩ (.int .i64 s')).setCell ⟨wr.heap.size, 2, none⟩ (.int .i64 t')) :=
    ((OnlyRow.setCell _ _ _ _).trans (OnlyRow.setCell _ _ _ _)).trans (OnlyRow.setCell _ _ _ _)
  have hz := h.last.lt
  have e := h.eA
  refine ⟨_, p', s', t', rfl, ((h.later (below_one _)).later hb').only hO (by omega) (fun e => by have := (h.own.lt _ e.symm).2; omega), (((hr1.set 0 _).set 1 _).set 2 _).congr ?_, Nat.le_refl _, by rw [← hx]; exact hn⟩
  intro i hi
  match i, hi with
  | 0, _ => rfl
  | 1, _ => rfl
  | 2, _ => rfl

end Go.Proofs.Ytpclldccjpncdab
