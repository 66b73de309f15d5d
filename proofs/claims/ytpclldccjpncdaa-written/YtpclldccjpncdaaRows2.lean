import Derived.Test.YtpclldccjpncdaaBase
import Derived.Deep.RegionHeld3
import Derived.Deep.OwnRows
import Derived.Laws.IdiomCopy
namespace Go.Proofs.Ytpclldccjpncdaa
open Go.RowKit

/-- Block g alone may have been written; no block is new. -/
structure OnlyRow (g : Nat) (w w' : World) : Prop where
  os : w'.os = w.os
  tape : w'.tape = w.tape
  output : w'.output = w.output
  size : w'.heap.size = w.heap.size
  block : ∀ b, b ≠ g → w'.heap[b]? = w.heap[b]?
theorem OnlyRow.refl (g : Nat) (w : World) : OnlyRow g w w := ⟨rfl, rfl, rfl, rfl, fun _ _ => rfl⟩
theorem OnlyRow.trans {g : Nat} {a b c : World} (h : OnlyRow g a b) (k : OnlyRow g b c) : OnlyRow g a c :=
  ⟨k.os.trans h.os, k.tape.trans h.tape, k.output.trans h.output, k.size.trans h.size, fun i hi => (k.block i hi).trans (h.block i hi)⟩
theorem OnlyRow.below {g B : Nat} {a w w' : World} (h : OnlyRow g w w') (hb : Below B a w) (hB : B ≤ g) : Below B a w' :=
  hb.trans ⟨h.os, h.tape, h.output, by rw [h.size]; exact Nat.le_refl _, fun k hk => h.block k (by omega)⟩
theorem OnlyRow.setCell (w : World) (g o : Nat) (v : Value) : OnlyRow g w (w.setCell ⟨g, o, none⟩ v) :=
  ⟨rfl, rfl, rfl, by simp [World.setCell], fun b hb => Below.heap_setCell _ _ _ _ hb⟩
theorem OnlyRow.setCells (g : Nat) : ∀ (vs : List Value) (o : Nat) (w : World), OnlyRow g w (w.setCells g o vs)
  | [], _, w => OnlyRow.refl g w
  | v :: r, o, w => (OnlyRow.setCell w g o v).trans (OnlyRow.setCells g r (o + 1) _)
theorem OnlyRow.row {g : Nat} {w w' : World} (h : OnlyRow g w w') {b : Nat} {t : TypeId} {n : Nat} {f : Nat → Value} (hr : w.rowIs b t n f) (hb : b ≠ g) : w'.rowIs b t n f := hr.of_block (h.block b hb)
theorem OnlyRow.cell {g : Nat} {w w' : World} (h : OnlyRow g w w') {a : Addr} {v : Value} (hc : w.cell? a = some v) (hb : a.block ≠ g) : w'.cell? a = some v := (World.cell?_of_block (w := w) (h.block a.block hb)).trans hc

/-- rows of two types lie in two blocks -/
theorem row_ne {w : World} {b b' : Nat} {t t' : TypeId} {n n' : Nat} {f f' : Nat → Value} (h : w.rowIs b t n f) (h' : w.rowIs b' t' n' f') (ht : t ≠ t') : b ≠ b' := by
  rintro rfl
  obtain ⟨c, hc, _⟩ := h
  obtain ⟨c', hc', _⟩ := h'
  rw [hc] at hc'
  cases hc'
  exact ht rfl

theorem row_setCells {b : Nat} {t : TypeId} {n : Nat} (F : Nat → Value) : ∀ (k o : Nat) (w : World) (f : Nat → Value), w.rowIs b t n f → o + k ≤ n →
    (w.setCells b o ((List.range' o k).map F)).rowIs b t n (fun j => if o ≤ j ∧ j < o + k then F j else f j)
  | 0, o, w, f, h, _ => h.congr fun i _ => by rw [if_neg (by omega)]
  | k + 1, o, w, f, h, hk => by
    have ih := row_setCells F k (o + 1) (w.setCell ⟨b, o, none⟩ (F o)) _ (h.set o (F o)) (by omega)
    rw [List.range'_succ, List.map_cons, World.setCells]
    refine ih.congr fun i _ => ?_
    by_cases e : i = o
    · subst e
      rw [if_neg (by omega), if_pos rfl, if_pos (by omega)]
    · by_cases hr : o + 1 ≤ i ∧ i < o + 1 + k
      · rw [if_pos hr, if_pos (by omega)]
      · rw [if_neg hr, if_neg e, if_neg (by omega)]

/-- 'copy' into a row of the call's own, elements of 'size' cells. -/
theorem run_copy_rows {P : Program} (w : World) (dT sT ty elem : TypeId) (size : Nat) (g dLen dCap : Nat) (sp : Option Addr) (sLen sCap : Nat) (t : TypeId) (N : Nat) (f F : Nat → Value)
    (hu : P.underlying dT = some (.slice elem)) (hs : (P.info? elem).map (·.size) = some size) (hle : sLen ≤ dLen) (hrow : w.rowIs g t N f) (hN : sLen * size ≤ N)
    (hsrc : 0 < sLen → ∃ sb so, sp = some ⟨sb, so, none⟩ ∧ ∀ j, j < sLen * size → w.cell? ⟨sb, so + j, none⟩ = some (F j)) (h1 : ∀ j, j < sLen * size → (F j).oneCell' = true) :
    ∃ w', (Builtin.copy_ #[dT, sT] ty #[.slice (some ⟨g, 0, none⟩) dLen dCap, .slice sp sLen sCap]).run P w = .ok (goInt sLen) w' ∧ OnlyRow g w w' ∧ w'.rowIs g t N (fun j => if j < sLen * size then F j else f j) := by
  cases hq : P.info? elem with
  | none => simp [hq] at hs
  | some i =>
    have hi : i.size = size := by simpa [hq] using hs
    have hmin : Nat.min sLen dLen = sLen := Nat.min_eq_left hle
    by_cases h0 : sLen = 0
    · subst h0
      refine ⟨w, ?_, OnlyRow.refl _ _, hrow.congr fun j _ => by rw [if_neg (by omega)]⟩
      have hl : ∀ (x : Addr), (loadCells x 0).run P w = .ok #[] w := fun x => by simpa using run_loadCells_list (P := P) w x [] (by simp)
      cases sp <;> simp [Builtin.copy_, run_underlying hu, Builtin.lenOf, Builtin.firstCells, sizeOf, typeInfo, hq, storeCells, hl]
    · obtain ⟨sb, so, rfl, hc⟩ := hsrc (by omega)
      have hlen : ((List.range' 0 (sLen * size)).map F).length = sLen * size := by simp
      have hcs : ∀ j v, ((List.range' 0 (sLen * size)).map F)[j]? = some v → w.cell? ((⟨sb, so, none⟩ : Addr).add j) = some v := by
        intro j v hj
        have hj' : j < sLen * size := by
          by_cases e : j < sLen * size
          · exact e
          · rw [List.getElem?_eq_none (by rw [hlen]; omega)] at hj; cases hj
        rw [List.getElem?_map, List.getElem?_range' hj'] at hj
        simp at hj
        subst hj
        rw [Addr.add_mid]
        exact hc j hj'
      have hl := run_loadCells_list (P := P) w ⟨sb, so, none⟩ _ hcs
      rw [hlen] at hl
      have hst := run_storeCells_cells (P := P) g 0 ((List.range' 0 (sLen * size)).map F) 0 w (fun j hj => by rw [hlen] at hj; simp [hrow.cell (i := j) (by omega)]) (fun j _ => hrow.frozen _)
        (fun v hv => by
          simp only [List.mem_map, List.mem_range'_1] at hv
          obtain ⟨j, hj, rfl⟩ := hv
          exact h1 j (by omega))
      refine ⟨_, ?_, OnlyRow.setCells g _ _ w, (row_setCells F (sLen * size) 0 w f hrow (by omega)).congr fun j _ => by simp⟩
      simp [Builtin.copy_, run_underlying hu, Builtin.lenOf, Builtin.firstCells, sizeOf, typeInfo, hq, hi, hmin, hl, hst]

theorem step_copy_rows {P : Program} {ops : Array Oper} {o : Oper} {a : Act} {w : World} {K : Act → World → Prop} {Q : Exit → Act → World → Prop} {E : Prop} (hgd : o.guard = none) (d s : Operand) (dT sT : TypeId)
    (ho : o.op = .call { callee := .builtin .copy, args := #[d, s], argTypes := #[dT, sT] }) (elem : TypeId) (size : Nat) (g dLen dCap : Nat) (sp : Option Addr) (sLen sCap : Nat) (hd : a.eval d = .slice (some ⟨g, 0, none⟩) dLen dCap) (hsv : a.eval s = .slice sp sLen sCap)
    (t : TypeId) (N : Nat) (f F : Nat → Value)
    (hu : P.underlying dT = some (.slice elem)) (hs : (P.info? elem).map (·.size) = some size) (hle : sLen ≤ dLen) (hrow : w.rowIs g t N f) (hN : sLen * size ≤ N)
    (hsrc : 0 < sLen → ∃ sb so, sp = some ⟨sb, so, none⟩ ∧ ∀ j, j < sLen * size → w.cell? ⟨sb, so + j, none⟩ = some (F j)) (h1 : ∀ j, j < sLen * size → (F j).oneCell' = true)
    (h : ∀ w', OnlyRow g w w' → w'.rowIs g t N (fun j => if j < sLen * size then F j else f j) → K (a.put o.dst (goInt sLen)) w') :
    if Region.wanted o (yielded ops a.tmps) = true then Oper.wp P o a w K Q else E := by
  have hw : Region.wanted o (yielded ops a.tmps) = true := by simp [Region.wanted, hgd]
  rw [if_pos hw]
  obtain ⟨w', hrun, ho', hr'⟩ := run_copy_rows (P := P) w dT sT o.type elem size g dLen dCap sp sLen sCap t N f F hu hs hle hrow hN hsrc h1
  unfold Oper.wp
  simp [execOp, ho, resolve, invoke, builtin, hd, hsv, hrun, Result.andThen]
  exact h w' ho' hr'

theorem wpList_copy_rows {P : Program} {ops : Array Oper} {rest : List Oper} {o : Oper} {a : Act} {w : World} {Q : Exit → Act → World → Prop} (hgd : o.guard = none) (d s : Operand) (dT sT : TypeId)
    (ho : o.op = .call { callee := .builtin .copy, args := #[d, s], argTypes := #[dT, sT] }) (elem : TypeId) (size : Nat) (g dLen dCap : Nat) (sp : Option Addr) (sLen sCap : Nat) (hd : a.eval d = .slice (some ⟨g, 0, none⟩) dLen dCap) (hsv : a.eval s = .slice sp sLen sCap)
    (t : TypeId) (N : Nat) (f F : Nat → Value)
    (hu : P.underlying dT = some (.slice elem)) (hs : (P.info? elem).map (·.size) = some size) (hle : sLen ≤ dLen) (hrow : w.rowIs g t N f) (hN : sLen * size ≤ N)
    (hsrc : 0 < sLen → ∃ sb so, sp = some ⟨sb, so, none⟩ ∧ ∀ j, j < sLen * size → w.cell? ⟨sb, so + j, none⟩ = some (F j)) (h1 : ∀ j, j < sLen * size → (F j).oneCell' = true)
    (h : ∀ w', OnlyRow g w w' → w'.rowIs g t N (fun j => if j < sLen * size then F j else f j) → wpList P ops Q rest (a.put o.dst (goInt sLen)) w') :
    wpList P ops Q (o :: rest) a w := by
  refine wpList_plain hgd fun K hK => ?_
  obtain ⟨w', hrun, ho', hr'⟩ := run_copy_rows (P := P) w dT sT o.type elem size g dLen dCap sp sLen sCap t N f F hu hs hle hrow hN hsrc h1
  unfold Oper.wp
  simp [execOp, ho, resolve, invoke, builtin, hd, hsv, hrun, Result.andThen]
  exact hK _ _ (h w' ho' hr')

end Go.Proofs.Ytpclldccjpncdaa
