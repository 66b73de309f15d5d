import Derived.Test.YtpclldccjpncdabB01
import Derived.Deep.RegionHeld3
import Derived.Deep.OwnRows
import Derived.Laws.IdiomCopy
import Derived.Deep.AppendLies
namespace Go.Proofs.Ytpclldccjpncdab
open Go.RowKit

/-- A table as it lies in memory. -/
structure Lay where
  n : Nat
  m : Nat
  na : Option Addr
  ea : Option Addr
  nc : Nat
  ec : Nat
  nb : Nat
  no : Nat
  eb : Nat
  eo : Nat
  p : Nat → Int
  s : Nat → Int
  t : Nat → Int
  tx : Nat → ByteArray
  la : Nat → Option Addr
  k : Nat → Nat
  lc : Nat → Nat
  lb : Nat → Nat
  lo : Nat → Nat
  z : Nat → Nat → Int

structure Lay.In (L : Lay) (B : Nat) (w : World) : Prop where
  nodes : NodesIn B w L.na L.n L.nb L.no L.p L.s L.t
  entries : EntriesIn B w L.ea L.m L.eb L.eo L.tx L.la L.k L.lc L.lb L.lo L.z
theorem Lay.In.below {L : Lay} {B : Nat} {w w' : World} (h : L.In B w) (hb : Below B w w') : L.In B w' := ⟨h.nodes.below hb, h.entries.below hb⟩
theorem Lay.In.mono {L : Lay} {B B' : Nat} {w : World} (h : L.In B w) (hB : B ≤ B') : L.In B' w := ⟨h.nodes.mono hB, h.entries.mono hB⟩
/-- the same, in a later world and below its own size -/
theorem Lay.In.later {L : Lay} {w w' : World} (h : L.In w.heap.size w) (hb : Below w.heap.size w w') : L.In w'.heap.size w' := (h.below hb).mono hb.size

noncomputable def Lay.err (L : Lay) : Int :=
  if 48 < L.n ∨ 48 < L.m then 1 else if nodesB L.n L.p L.s L.t = false then 2 else if entriesB L.m L.tx L.k L.z L.n = false then 3 else 0
theorem err_size {L : Lay} (h : 48 < L.n ∨ 48 < L.m) : 1 = L.err := by simp [Lay.err, h]
theorem err_node {L : Lay} (h : L.n ≤ 48) (h' : L.m ≤ 48) (h2 : nodesB L.n L.p L.s L.t = false) : 2 = L.err := by
  have : ¬ (48 < L.n ∨ 48 < L.m) := by omega
  simp [Lay.err, this, h2]
theorem err_entry {L : Lay} (h : L.n ≤ 48) (h' : L.m ≤ 48) (h2 : nodesB L.n L.p L.s L.t = true) (h3 : entriesB L.m L.tx L.k L.z L.n = false) : 3 = L.err := by
  have : ¬ (48 < L.n ∨ 48 < L.m) := by omega
  simp [Lay.err, this, h2, h3]
theorem err_ok {L : Lay} (h : L.n ≤ 48) (h' : L.m ≤ 48) (h2 : nodesB L.n L.p L.s L.t = true) (h3 : entriesB L.m L.tx L.k L.z L.n = true) : 0 = L.err := by
  have : ¬ (48 < L.n ∨ 48 < L.m) := by omega
  simp [Lay.err, this, h2, h3]

set_option maxHeartbeats 400000 in
theorem tableValid_any (L : Lay) (w : World) (h : L.In w.heap.size w) :
    Calls Try.prog 32 #[.agg #[.slice L.na L.n L.nc, .slice L.ea L.m L.ec]] w fun e w' => e = .returned (.int .i64 L.err) ∧ Below w.heap.size w w' := by
  by_cases hs : 48 < L.n ∨ 48 < L.m
  · have HS : Hid (1 = L.err) := err_size hs
    clear h
    rcases hs with hs | hs
    · go_enter Try.func32, Try.ntmps32
      go_wp2
      go_ret
      exact ⟨ret_int HS.out, (Below.refl _ _).alloc (Nat.le_refl _) _⟩
    · by_cases hs' : 48 < L.n
      all_goals
        go_enter Try.func32, Try.ntmps32
        go_wp2
        go_ret
        exact ⟨ret_int HS.out, (Below.refl _ _).alloc (Nat.le_refl _) _⟩
  · have h1 : L.n ≤ 48 := by omega
    have h2 : L.m ≤ 48 := by omega
    clear hs
    have HL : Hid (∀ w', Below w.heap.size w w' → L.In w'.heap.size w') := fun w' hb => h.later hb
    clear h
    go_enter Try.func32, Try.ntmps32
    go_wp2_with (first
      | (go_at_call 44; refine (validNodes_any _ _ _ _ _ _ _ _ _ h1 (HL.out _ (below_one _)).nodes).mono ?_; rintro e w1 ⟨rfl, hb1⟩; obtain ⟨hc, hf⟩ := bcell hb1; have hz1 := hb1.size)
      | (go_at_call 45; refine (validEntries_any _ _ _ _ _ _ _ _ _ _ _ _ _ _ h2 (HL.out _ (below_then (below_one _) hb1)).entries).mono ?_; rintro e w2 ⟨rfl, hb2⟩))
    · go_ret
      exact ⟨ret_int (err_node h1 h2 (by simp_all)), below_then (below_one _) hb1⟩
    · go_ret
      exact ⟨ret_int (err_entry h1 h2 (by simp_all) (by simp_all)), below_then (below_then (below_one _) hb1) hb2⟩
    · go_ret
      exact ⟨ret_int (err_ok h1 h2 (by simp_all) (by simp_all)), below_then (below_then (below_one _) hb1) hb2⟩

theorem valid_any (L : Lay) (w : World) (h : L.In w.heap.size w) :
    Calls Try.prog 12 #[.agg #[.slice L.na L.n L.nc, .slice L.ea L.m L.ec]] w fun e w' => e = .returned (.int .i64 L.err) ∧ Below w.heap.size w w' := by
  have HL : Hid (∀ w', Below w.heap.size w w' → L.In w'.heap.size w') := fun w' hb => h.later hb
  clear h
  go_enter Try.func12, Try.ntmps12
  go_wp2_with (go_at_call 32; refine (tableValid_any _ _ (HL.out _ (below_one _))).mono ?_; rintro e w1 ⟨rfl, hb1⟩)
  go_ret
  exact ⟨rfl, below_then (below_one _) hb1⟩

end Go.Proofs.Ytpclldccjpncdab

namespace Go.Proofs.Ytpclldccjpncdab
open Go.RowKit

theorem nodeB_no {p s t : Int} (h : ¬ ((0 ≤ p ∧ p ≤ 250) ∧ (0 ≤ s ∧ s ≤ 250) ∧ (1 ≤ t ∧ t ≤ 250) ∧ (p = 0 ∨ 0 < s))) : false = nodeB p s t := by simp [nodeB, h]
theorem nodeB_yes {p s t : Int} (h : (0 ≤ p ∧ p ≤ 250) ∧ (0 ≤ s ∧ s ≤ 250) ∧ (1 ≤ t ∧ t ≤ 250) ∧ (p = 0 ∨ 0 < s)) : true = nodeB p s t := by simp [nodeB, h]

def partsI (p s t p' s' t' : Int) : Int := if p ≠ p' then 1 else if s ≠ s' then 2 else if t ≠ t' then 3 else 0

end Go.Proofs.Ytpclldccjpncdab

namespace Go.Proofs.Ytpclldccjpncdab
open Go.RowKit

/-- Block g alone may have been written; no block is new. -/
structure OnlyRow (g : Nat) (w w' : World) : Prop where
  os : w'.os = w.os
  tape : w'.tape = w.tape
  output : w'.output = w.output
  size : w'.heap.size = w.heap.size
  block : ∀ b, b ≠ g → w'.heap[b]? = w.heap[b]?
theorem OnlyRow.refl (g : Nat) (w : World) : OnlyRow g w w := ⟨rfl, rfl, rfl, rfl, fun _ _ => rfl⟩
theorem OnlyRow.trans {g : Nat} {a b c : World} (h : OnlyRow g a b) (k : OnlyRow g b c) : OnlyRow g a c :=
  ⟨k.os.trans h.os, k.tape.trans h.tape, k.output.trans h.output, k.size.trans h.size, fun i hi => (k.block i hi).trans (h.block i hi)⟩
theorem OnlyRow.below {g B : Nat} {a w w' : World} (h : OnlyRow g w w') (hb : Below B a w) (hB : B ≤ g) : Below B a w' :=
  hb.trans ⟨h.os, h.tape, h.output, by rw [h.size]; exact Nat.le_refl _, fun k hk => h.block k (by omega)⟩
theorem OnlyRow.setCell (w : World) (g o : Nat) (v : Value) : OnlyRow g w (w.setCell ⟨g, o, none⟩ v) :=
  ⟨rfl, rfl, rfl, by simp [World.setCell], fun b hb => Below.heap_setCell _ _ _ _ hb⟩
theorem OnlyRow.setCells (g : Nat) : ∀ (vs : List Value) (o : Nat) (w : World), OnlyRow g w (w.setCells g o vs)
  | [], _, w => OnlyRow.refl g w
  | v :: r, o, w => (OnlyRow.setCell w g o v).trans (OnlyRow.setCells g r (o + 1) _)
theorem OnlyRow.row {g : Nat} {w w' : World} (h : OnlyRow g w w') {b : Nat} {t : TypeId} {n : Nat} {f : Nat → Value} (hr : w.rowIs b t n f) (hb : b ≠ g) : w'.rowIs b t n f := hr.of_block (h.block b hb)
theorem OnlyRow.cell {g : Nat} {w w' : World} (h : OnlyRow g w w') {a : Addr} {v : Value} (hc : w.cell? a = some v) (hb : a.block ≠ g) : w'.cell? a = some v := (World.cell?_of_block (w := w) (h.block a.block hb)).trans hc

/-- rows of two types lie in two blocks -/
theorem row_ne {w : World} {b b' : Nat} {t t' : TypeId} {n n' : Nat} {f f' : Nat → Value} (h : w.rowIs b t n f) (h' : w.rowIs b' t' n' f') (ht : t ≠ t') : b ≠ b' := by
  rintro rfl
  obtain ⟨c, hc, _⟩ := h
  obtain ⟨c', hc', _⟩ := h'
  rw [hc] at hc'
  cases hc'
  exact ht rfl

theorem row_setCells {b : Nat} {t : TypeId} {n : Nat} (F : Nat → Value) : ∀ (k o : Nat) (w : World) (f : Nat → Value), w.rowIs b t n f → o + k ≤ n →
    (w.setCells b o ((List.range' o k).map F)).rowIs b t n (fun j => if o ≤ j ∧ j < o + k then F j else f j)
  | 0, o, w, f, h, _ => h.congr fun i _ => by rw [if_neg (by omega)]
  | k + 1, o, w, f, h, hk => by
    have ih := row_setCells F k (o + 1) (w.setCell ⟨b, o, none⟩ (F o)) _ (h.set o (F o)) (by omega)
    rw [List.range'_succ, List.map_cons, World.setCells]
    refine ih.congr fun i _ => ?_
    by_cases e : i = o
    · subst e
      rw [if_neg (by omega), if_pos rfl, if_pos (by omega)]
    · by_cases hr : o + 1 ≤ i ∧ i < o + 1 + k
      · rw [if_pos hr, if_pos (by omega)]
      · rw [if_neg hr, if_neg e, if_neg (by omega)]

/-- 'copy' into a row of the call's own, elements of 'size' cells. -/
theorem run_copy_rows {P : Program} (w : World) (dT sT ty elem : TypeId) (size : Nat) (g dLen dCap : Nat) (sp : Option Addr) (sLen sCap : Nat) (t : TypeId) (N : Nat) (f F : Nat → Value)
    (hu : P.underlying dT = some (.slice elem)) (hs : (P.info? elem).map (·.size) = some size) (hle : sLen ≤ dLen) (hrow : w.rowIs g t N f) (hN : sLen * size ≤ N)
    (hsrc : 0 < sLen → ∃ sb so, sp = some ⟨sb, so, none⟩ ∧ ∀ j, j < sLen * size → w.cell? ⟨sb, so + j, none⟩ = some (F j)) (h1 : ∀ j, j < sLen * size → (F j).oneCell' = true) :
    ∃ w', (Builtin.copy_ #[dT, sT] ty #[.slice (some ⟨g, 0, none⟩) dLen dCap, .slice sp sLen sCap]).run P w = .ok (goInt sLen) w' ∧ OnlyRow g w w' ∧ w'.rowIs g t N (fun j => if j < sLen * size then F j else f j) := by
  cases hq : P.info? elem with
  | none => simp [hq] at hs
  | some i =>
    have hi : i.size = size := by simpa [hq] using hs
    have hmin : Nat.min sLen dLen = sLen := Nat.min_eq_left hle
    by_cases h0 : sLen = 0
    · subst h0
      refine ⟨w, ?_, OnlyRow.refl _ _, hrow.congr fun j _ => by rw [if_neg (by omega)]⟩
      have hl : ∀ (x : Addr), (loadCells x 0).run P w = .ok #[] w := fun x => by simpa using run_loadCells_list (P := P) w x [] (by simp)
      cases sp <;> simp [Builtin.copy_, run_underlying hu, Builtin.lenOf, Builtin.firstCells, sizeOf, typeInfo, hq, storeCells, hl]
    · obtain ⟨sb, so, rfl, hc⟩ := hsrc (by omega)
      have hlen : ((List.range' 0 (sLen * size)).map F).length = sLen * size := by simp
      have hcs : ∀ j v, ((List.range' 0 (sLen * size)).map F)[j]? = some v → w.cell? ((⟨sb, so, none⟩ : Addr).add j) = some v := by
        intro j v hj
        have hj' : j < sLen * size := by
          by_cases e : j < sLen * size
          · exact e
          · rw [List.getElem?_eq_none (by rw [hlen]; omega)] at hj; cases hj
        rw [List.getElem?_map, List.getElem?_range' hj'] at hj
        simp at hj
        subst hj
        rw [Addr.add_mid]
        exact hc j hj'
      have hl := run_loadCells_list (P := P) w ⟨sb, so, none⟩ _ hcs
      rw [hlen] at hl
      have hst := run_storeCells_cells (P := P) g 0 ((List.range' 0 (sLen * size)).map F) 0 w (fun j hj => by rw [hlen] at hj; simp [hrow.cell (i := j) (by omega)]) (fun j _ => hrow.frozen _)
        (fun v hv => by
          simp only [List.mem_map, List.mem_range'_1] at hv
          obtain ⟨j, hj, rfl⟩ := hv
          exact h1 j (by omega))
      refine ⟨_, ?_, OnlyRow.setCells g _ _ w, (row_setCells F (sLen * size) 0 w f hrow (by omega)).congr fun j _ => by simp⟩
      simp [Builtin.copy_, run_underlying hu, Builtin.lenOf, Builtin.firstCells, sizeOf, typeInfo, hq, hi, hmin, hl, hst]

theorem step_copy_rows {P : Program} {ops : Array Oper} {o : Oper} {a : Act} {w : World} {K : Act → World → Prop} {Q : Exit → Act → World → Prop} {E : Prop} (hgd : o.guard = none) (d s : Operand) (dT sT : TypeId)
    (ho : o.op = .call { callee := .builtin .copy, args := #[d, s], argTypes := #[dT, sT] }) (elem : TypeId) (size : Nat) (g dLen dCap : Nat) (sp : Option Addr) (sLen sCap : Nat) (hd : a.eval d = .slice (some ⟨g, 0, none⟩) dLen dCap) (hsv : a.eval s = .slice sp sLen sCap)
    (t : TypeId) (N : Nat) (f F : Nat → Value)
    (hu : P.underlying dT = some (.slice elem)) (hs : (P.info? elem).map (·.size) = some size) (hle : sLen ≤ dLen) (hrow : w.rowIs g t N f) (hN : sLen * size ≤ N)
    (hsrc : 0 < sLen → ∃ sb so, sp = some ⟨sb, so, none⟩ ∧ ∀ j, j < sLen * size → w.cell? ⟨sb, so + j, none⟩ = some (F j)) (h1 : ∀ j, j < sLen * size → (F j).oneCell' = true)
    (h : ∀ w', OnlyRow g w w' → w'.rowIs g t N (fun j => if j < sLen * size then F j else f j) → K (a.put o.dst (goInt sLen)) w') :
    if Region.wanted o (yielded ops a.tmps) = true then Oper.wp P o a w K Q else E := by
  have hw : Region.wanted o (yielded ops a.tmps) = true := by simp [Region.wanted, hgd]
  rw [if_pos hw]
  obtain ⟨w', hrun, ho', hr'⟩ := run_copy_rows (P := P) w dT sT o.type elem size g dLen dCap sp sLen sCap t N f F hu hs hle hrow hN hsrc h1
  unfold Oper.wp
  simp [execOp, ho, resolve, invoke, builtin, hd, hsv, hrun, Result.andThen]
  exact h w' ho' hr'

theorem wpList_copy_rows {P : Program} {ops : Array Oper} {rest : List Oper} {o : Oper} {a : Act} {w : World} {Q : Exit → Act → World → Prop} (hgd : o.guard = none) (d s : Operand) (dT sT : TypeId)
    (ho : o.op = .call { callee := .builtin .copy, args := #[d, s], argTypes := #[dT, sT] }) (elem : TypeId) (size : Nat) (g dLen dCap : Nat) (sp : Option Addr) (sLen sCap : Nat) (hd : a.eval d = .slice (some ⟨g, 0, none⟩) dLen dCap) (hsv : a.eval s = .slice sp sLen sCap)
    (t : TypeId) (N : Nat) (f F : Nat → Value)
    (hu : P.underlying dT = some (.slice elem)) (hs : (P.info? elem).map (·.size) = some size) (hle : sLen ≤ dLen) (hrow : w.rowIs g t N f) (hN : sLen * size ≤ N)
    (hsrc : 0 < sLen → ∃ sb so, sp = some ⟨sb, so, none⟩ ∧ ∀ j, j < sLen * size → w.cell? ⟨sb, so + j, none⟩ = some (F j)) (h1 : ∀ j, j < sLen * size → (F j).oneCell' = true)
    (h : ∀ w', OnlyRow g w w' → w'.rowIs g t N (fun j => if j < sLen * size then F j else f j) → wpList P ops Q rest (a.put o.dst (goInt sLen)) w') :
    wpList P ops Q (o :: rest) a w := by
  refine wpList_plain hgd fun K hK => ?_
  obtain ⟨w', hrun, ho', hr'⟩ := run_copy_rows (P := P) w dT sT o.type elem size g dLen dCap sp sLen sCap t N f F hu hs hle hrow hN hsrc h1
  unfold Oper.wp
  simp [execOp, ho, resolve, invoke, builtin, hd, hsv, hrun, Result.andThen]
  exact hK _ _ (h w' ho' hr')

end Go.Proofs.Ytpclldccjpncdab

namespace Go.Proofs.Ytpclldccjpncdab
open Go.RowKit

theorem row_new (w : World) (c : Array Value) (t : TypeId) (N : Nat) (hN : c.size = N) : (w.alloc (.cells c t)).rowIs w.heap.size t N (fun i => c.getD i undef) := by
  subst hN
  exact World.rowIs_alloc w c t _ fun i hi => by simp [hi]
theorem row_grown {w w' : World} {r : Option Nat} (hg : w.grownBy w' r) {b : Nat} {t : TypeId} {n : Nat} {f : Nat → Value} (h : w.rowIs b t n f) (hb : some b ≠ r) : w'.rowIs b t n f := h.of_block (hg.block b h.lt hb)
theorem own_ne {w : World} {base : Nat} {e : TypeId} {size : Nat} {v : Value} {k : Nat} {xs : List Value} (ho : w.ownsRow base e size v k xs) {b : Nat} {t : TypeId} {n : Nat} {f : Nat → Value} (h : w.rowIs b t n f) (ht : t ≠ e) : some b ≠ v.ownBlock := by
  intro hb
  obtain ⟨_, h2⟩ := ho
  rcases h2 with ⟨rfl, _⟩ | ⟨g, cap, cur, rfl, _, hh, _⟩
  · simp [Value.ownBlock] at hb
  · simp only [Value.ownBlock, Option.some.injEq] at hb
    subst hb
    obtain ⟨c, hc, _⟩ := h
    rw [hc] at hh
    cases hh
    exact ht rfl
theorem own_of_block {w w' : World} {base : Nat} {e : TypeId} {size : Nat} {v : Value} {k : Nat} {xs : List Value} (ho : w.ownsRow base e size v k xs) (h : ∀ b, v.ownBlock = some b → w'.heap[b]? = w.heap[b]?) : w'.ownsRow base e size v k xs := by
  obtain ⟨h1, h2⟩ := ho
  refine ⟨h1, ?_⟩
  rcases h2 with h2 | ⟨g, cap, cur, hv, hg, hh, r⟩
  · exact .inl h2
  · exact .inr ⟨g, cap, cur, hv, hg, by rw [h g (by rw [hv]; rfl)]; exact hh, r⟩
theorem own_only {g : Nat} {w w' : World} (hO : OnlyRow g w w') {base : Nat} {e : TypeId} {size : Nat} {v : Value} {k : Nat} {xs : List Value} (ho : w.ownsRow base e size v k xs) (hne : v.ownBlock ≠ some g) : w'.ownsRow base e size v k xs :=
  own_of_block ho fun b hb => hO.block b fun h => hne (by rw [hb, h])

def nodeC (L : Lay) (c : Nat) : Value := if c % 3 = 0 then .int .i64 (L.p (c / 3)) else if c % 3 = 1 then .int .i64 (L.s (c / 3)) else .int .i64 (L.t (c / 3))
theorem nodeC_0 (L : Lay) (i : Nat) : nodeC L (i * 3) = .int .i64 (L.p i) := by
  have h1 : i * 3 % 3 = 0 := by omega
  have h2 : i * 3 / 3 = i := by omega
  simp [nodeC, h2]
theorem nodeC_1 (L : Lay) (i : Nat) : nodeC L (i * 3 + 1) = .int .i64 (L.s i) := by
  have h1 : (i * 3 + 1) % 3 = 1 := by omega
  have h2 : (i * 3 + 1) / 3 = i := by omega
  simp [nodeC, h1, h2]
theorem nodeC_2 (L : Lay) (i : Nat) : nodeC L (i * 3 + 2) = .int .i64 (L.t i) := by
  have h1 : (i * 3 + 2) % 3 = 2 := by omega
  have h2 : (i * 3 + 2) / 3 = i := by omega
  simp [nodeC, h1, h2]
theorem nodeC_one (L : Lay) (c : Nat) : (nodeC L c).oneCell' = true := by
  unfold nodeC
  split
  · rfl
  · split <;> rfl
theorem NodesIn.flat {B : Nat} {w : World} {L : Lay} (h : NodesIn B w L.na L.n L.nb L.no L.p L.s L.t) (c : Nat) (hc : c < L.n * 3) : w.cell? ⟨L.nb, L.no + c, none⟩ = some (nodeC L c) := by
  have hd : c / 3 < L.n := by omega
  have hq : c % 3 = 0 ∨ c % 3 = 1 ∨ c % 3 = 2 := by omega
  rcases hq with hq | hq | hq
  · have := h.p (c / 3) hd
    rw [show L.no + c / 3 * 3 = L.no + c by omega] at this
    rw [this]; simp [nodeC, hq]
  · have := h.s (c / 3) hd
    rw [show L.no + c / 3 * 3 + 1 = L.no + c by omega] at this
    rw [this]; simp [nodeC, hq]
  · have := h.t (c / 3) hd
    rw [show L.no + c / 3 * 3 + 2 = L.no + c by omega] at this
    rw [this]; simp [nodeC, hq]

def markZ (k : Nat) (z : Nat → Int) (j : Nat) : Int := if j < k then z j else -77
def boxF (L : Lay) (j : Nat) : Value := if j = 0 then .slice L.na L.n L.nc else .slice L.ea L.m L.ec
def xF (L : Lay) (gn ge : Nat) (v : Value) (j : Nat) : Value :=
  if j = 2 then .slice (some ⟨gn, 0, none⟩) (L.n + 8) (L.n + 8) else if j = 3 then .slice (some ⟨ge, 0, none⟩) (L.m + 8) (L.m + 8) else if j = 4 then v else .slice none 0 0

theorem row_at {w : World} {b b' : Nat} {t : TypeId} {n : Nat} {f f' : Nat → Value} (h : w.rowIs b t n f) (e : b = b') (hf : ∀ i, i < n → f i = f' i) : w.rowIs b' t n f' := e ▸ h.congr hf
theorem size_one (w : World) (o : Obj) : (w.alloc o).heap.size = w.heap.size + 1 := by simp

/-- the marks behind a list, the first j cells done -/
def markF (k : Nat) (z : Nat → Int) (j q : Nat) : Value := .int .i64 (if q < j then markZ k z q else 0)
theorem mark_start {w : World} {h k : Nat} {z : Nat → Int} (hr : w.rowIs h 3 (k + 8) (fun j => if j < k * 1 then .int .i64 (z j) else .int .i64 0)) : w.rowIs h 3 (k + 8) (markF k z k) :=
  hr.congr fun q _ => by
    by_cases e : q < k
    · rw [if_pos (by omega)]; simp [markF, markZ, e]
    · rw [if_neg (by omega)]; simp [markF, e]
theorem mark_step {w : World} {h k j : Nat} {z : Nat → Int} (hj : k ≤ j) (hr : w.rowIs h 3 (k + 8) (markF k z j)) : (w.setCell ⟨h, j, none⟩ (.int .i64 (-77))).rowIs h 3 (k + 8) (markF k z (j + 1)) :=
  (hr.set j (.int .i64 (-77))).congr fun q _ => by
    by_cases e : q = j
    · subst e
      have h1 : ¬ q < k := by omega
      simp [markF, markZ, h1]
    · rw [if_neg e]
      have h1 : q < j + 1 ↔ q < j := by omega
      simp [markF, h1]
theorem mark_end {w : World} {h k : Nat} {z : Nat → Int} (hr : w.rowIs h 3 (k + 8) (markF k z (k + 8))) : w.rowIs h 3 (k + 8) (fun q => .int .i64 (markZ k z q)) :=
  hr.congr fun q hq => by simp [markF, hq]


def beyondS : ByteArray := { data := #[98, 101, 121, 111, 110, 100] }
end Go.Proofs.Ytpclldccjpncdab
