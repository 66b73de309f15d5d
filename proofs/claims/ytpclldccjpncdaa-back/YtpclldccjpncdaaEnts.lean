import Derived.Test.YtpclldccjpncdaaPick
import Derived.Test.YtpclldccjpncdaaLessT
namespace Go.Proofs.Ytpclldccjpncdaa
open Go.RowKit


/-- an entry that was made: its text, its list (block, length, room), its numbers -/
structure Ent where
  tx : ByteArray
  b : Nat
  k : Nat
  c : Nat
  z : Nat → Int
instance : Inhabited Ent := ⟨⟨ByteArray.empty, 0, 0, 0, fun _ => 0⟩⟩
def Ent.list (e : Ent) : Value := .slice (some ⟨e.b, 0, none⟩) e.k e.c
def flat (es : List Ent) : List Value := es.flatMap fun e => [.string e.tx, e.list]
theorem flat_len (es : List Ent) : (flat es).length = es.length * 2 := by
  induction es with
  | nil => rfl
  | cons e r ih => simp [flat] at ih ⊢; omega
theorem flat_app (a b : List Ent) : flat (a ++ b) = flat a ++ flat b := by simp [flat]
theorem flat_one (e : Ent) : flat [e] = [.string e.tx, e.list] := by simp [flat]
theorem flat_at : ∀ (es : List Ent) (i : Nat) (e : Ent), es[i]? = some e → (flat es)[i * 2]? = some (.string e.tx) ∧ (flat es)[i * 2 + 1]? = some e.list
  | [], i, e, h => by simp at h
  | a :: r, 0, e, h => by simp at h; subst h; simp [flat]
  | a :: r, i + 1, e, h => by
    have ih := flat_at r i e (by simpa using h)
    have h1 : (i + 1) * 2 = i * 2 + 1 + 1 := by omega
    rw [h1]
    simpa [flat] using ih

noncomputable def layL (x : Ent) : List Ent → List Ent
  | [] => [x]
  | e :: r => if lessB e.tx x.tx = true then e :: layL x r else if lessB x.tx e.tx = true then x :: e :: r else e :: r

theorem layL_app (x : Ent) : ∀ (a r : List Ent), (∀ e ∈ a, lessB e.tx x.tx = true) → layL x (a ++ r) = a ++ layL x r
  | [], r, _ => rfl
  | e :: a, r, h => by
    have h1 := h e (by simp)
    have h2 := layL_app x a r fun e' he => h e' (by simp [he])
    rw [List.cons_append, layL, if_pos h1, h2, List.cons_append]
theorem layL_len (x : Ent) : ∀ es : List Ent, (layL x es).length ≤ es.length + 1
  | [] => by simp [layL]
  | e :: r => by
    have ih := layL_len x r
    unfold layL
    split
    · simp; omega
    · split <;> simp
theorem layL_mem (x : Ent) : ∀ (es : List Ent) (e : Ent), e ∈ layL x es → e = x ∨ e ∈ es
  | [], e, h => by simp [layL] at h; exact .inl h
  | a :: r, e, h => by
    have ih := layL_mem x r e
    unfold layL at h
    split at h
    · simp at h ⊢
      rcases h with h | h
      · exact .inr (.inl h)
      · rcases ih h with h | h
        · exact .inl h
        · exact .inr (.inr h)
    · split at h
      · simpa using h
      · exact .inr h
theorem layL_has (x : Ent) : ∀ (es : List Ent) (e : Ent), e ∈ es → e ∈ layL x es
  | [], e, h => by simp at h
  | a :: r, e, h => by
    have ih := layL_has x r e
    unfold layL
    split
    · simp at h ⊢
      rcases h with h | h
      · exact .inl h
      · exact .inr (ih h)
    · split
      · simp at h ⊢; exact .inr h
      · exact h
def Rise (es : List Ent) : Prop := es.Pairwise fun a b => lessB a.tx b.tx = true
theorem layL_rise (x : Ent) : ∀ es : List Ent, Rise es → Rise (layL x es)
  | [], _ => by simp [Rise, layL]
  | a :: r, h => by
    have h0 : (∀ e ∈ r, lessB a.tx e.tx = true) ∧ Rise r := by simpa [Rise] using h
    have ih := layL_rise x r h0.2
    unfold layL
    split
    · rename_i h1
      refine List.pairwise_cons.2 ⟨fun e he => ?_, ih⟩
      rcases layL_mem x r e he with rfl | he
      · exact h1
      · exact h0.1 e he
    · split
      · rename_i h1 h2
        refine List.pairwise_cons.2 ⟨fun e he => ?_, h⟩
        simp at he
        rcases he with rfl | he
        · exact h2
        · exact lessB_trans h2 (h0.1 e he)
      · exact h
theorem layL_ones (x : Ent) (hx : ¬ x.tx.size = 1) : ∀ es : List Ent, (layL x es).countP (fun e => decide (e.tx.size = 1)) = es.countP (fun e => decide (e.tx.size = 1))
  | [] => by simp [layL, hx]
  | a :: r => by
    have ih := layL_ones x hx r
    unfold layL
    split
    · rw [List.countP_cons, List.countP_cons, ih]
    · split
      · rw [List.countP_cons]; simp [hx]
      · rfl

/-- the state of 'laid' behind i rounds -/
def LaidTo (x : Ent) (es : List Ent) (i : Nat) (d : Bool) (out : List Ent) : Prop :=
  (d = false ∧ out = es.take i ∧ ∀ e ∈ out, lessB e.tx x.tx = true) ∨ (d = true ∧ out ++ es.drop i = layL x es)
theorem laidTo_start (x : Ent) (es : List Ent) : LaidTo x es 0 false [] := .inl ⟨rfl, by simp, by simp⟩
theorem drop_at {es : List Ent} {i : Nat} {e : Ent} (h : es[i]? = some e) : es.drop i = e :: es.drop (i + 1) := by
  obtain ⟨hi, rfl⟩ := List.getElem?_eq_some_iff.1 h
  exact List.drop_eq_getElem_cons hi
theorem take_at {es : List Ent} {i : Nat} {e : Ent} (h : es[i]? = some e) : es.take (i + 1) = es.take i ++ [e] := by
  rw [List.take_add_one, h]; rfl
theorem laidTo_on {x : Ent} {es : List Ent} {i : Nat} {out : List Ent} {e : Ent} (h : LaidTo x es i true out) (he : es[i]? = some e) : LaidTo x es (i + 1) true (out ++ [e]) := by
  rcases h with ⟨h, _⟩ | ⟨_, h⟩
  · cases h
  · refine .inr ⟨rfl, ?_⟩
    rw [drop_at he] at h
    simpa using h
theorem laidTo_less {x : Ent} {es : List Ent} {i : Nat} {out : List Ent} {e : Ent} (h : LaidTo x es i false out) (he : es[i]? = some e) (hl : lessB e.tx x.tx = true) : LaidTo x es (i + 1) false (out ++ [e]) := by
  rcases h with ⟨_, h1, h2⟩ | ⟨h, _⟩
  · refine .inl ⟨rfl, by rw [take_at he, h1], fun e' h' => ?_⟩
    simp at h'
    rcases h' with h' | rfl
    · exact h2 e' h'
    · exact hl
  · cases h
theorem laidTo_here {x : Ent} {es : List Ent} {i : Nat} {out : List Ent} {e : Ent} (h : LaidTo x es i false out) (he : es[i]? = some e) (hl : lessB e.tx x.tx = false) (hg : lessB x.tx e.tx = true) : LaidTo x es (i + 1) true (out ++ [x] ++ [e]) := by
  rcases h with ⟨_, h1, h2⟩ | ⟨h, _⟩
  · refine .inr ⟨rfl, ?_⟩
    have : es = out ++ es.drop i := by rw [h1, List.take_append_drop]
    rw [this, layL_app x out _ h2, ← this, drop_at he, layL, if_neg (by simp [hl]), if_pos hg]
    simp
  · cases h
theorem laidTo_same {x : Ent} {es : List Ent} {i : Nat} {out : List Ent} {e : Ent} (h : LaidTo x es i false out) (he : es[i]? = some e) (hl : lessB e.tx x.tx = false) (hg : lessB x.tx e.tx = false) : LaidTo x es (i + 1) true (out ++ [e]) := by
  rcases h with ⟨_, h1, h2⟩ | ⟨h, _⟩
  · refine .inr ⟨rfl, ?_⟩
    have : es = out ++ es.drop i := by rw [h1, List.take_append_drop]
    rw [this, layL_app x out _ h2, ← this, drop_at he, layL, if_neg (by simp [hl]), if_neg (by simp [hg])]
    simp
  · cases h
theorem laidTo_end0 {x : Ent} {es : List Ent} {out : List Ent} (h : LaidTo x es es.length false out) : out ++ [x] = layL x es := by
  rcases h with ⟨_, h1, h2⟩ | ⟨h, _⟩
  · rw [List.take_length] at h1
    have := layL_app x out [] h2
    rw [List.append_nil] at this
    rw [← h1, this]; rfl
  · cases h
theorem laidTo_end1 {x : Ent} {es : List Ent} {out : List Ent} (h : LaidTo x es es.length true out) : out = layL x es := by
  rcases h with ⟨h, _⟩ | ⟨_, h⟩
  · cases h
  · simpa using h
theorem laidTo_len {x : Ent} {es : List Ent} {i : Nat} {d : Bool} {out : List Ent} (h : LaidTo x es i d out) : out.length ≤ es.length + 1 := by
  rcases h with ⟨_, h, _⟩ | ⟨_, h⟩
  · rw [h]; simp; omega
  · have h1 := layL_len x es
    rw [← h] at h1
    simp at h1
    omega

end Go.Proofs.Ytpclldccjpncdaa
