import Derived.Test.YtpclldccjpncdabB02
import Derived.Maps.AppendAt
import Derived.OwnWalk
import Derived.Laws.Rows
namespace Go.Proofs.Ytpclldccjpncdab
open Go.RowKit

theorem infoIntC : (Try.prog.info? 3).map (fun i => (i.zero, i.size, i.bytes)) = some (some (.int .i64 0), 1, 8) := by kernel_rfl
theorem infoByteC : (Try.prog.info? 5).map (fun i => (i.zero, i.size, i.bytes)) = some (some (.int .u8 0), 1, 1) := by kernel_rfl
theorem infoNodeC : (Try.prog.info? 60).map (fun i => (i.zero, i.size, i.bytes)) = some (some (.agg #[.int .i64 0, .int .i64 0, .int .i64 0]), 3, 24) := by kernel_rfl
theorem infoEntC : (Try.prog.info? 41).map (fun i => (i.zero, i.size, i.bytes)) = some (some (.agg #[.string ByteArray.empty, .slice none 0 0]), 2, 40) := by kernel_rfl
theorem infoListC : (Try.prog.info? 22).map (fun i => (i.zero, i.size, i.bytes)) = some (some (.slice none 0 0), 1, 24) := by kernel_rfl

theorem newC2 (w : World) {B : Nat} (hB : w.heap.size = B) (a b : Value) (t : TypeId) : ∀ (j : Nat) (u : Value), [a, b][j]? = some u → (w.alloc (.cells #[a, b] t)).cell? ((⟨B, 0, none⟩ : Addr).add j) = some u :=
  hB ▸ World.news_of_block (cs := #[a, b]) (t := t) (fr := (0, 0)) (heap_alloc_new w _)
theorem newC3 (w : World) {B : Nat} (hB : w.heap.size = B) (a b c : Value) (t : TypeId) : ∀ (j : Nat) (u : Value), [a, b, c][j]? = some u → (w.alloc (.cells #[a, b, c] t)).cell? ((⟨B, 0, none⟩ : Addr).add j) = some u :=
  hB ▸ World.news_of_block (cs := #[a, b, c]) (t := t) (fr := (0, 0)) (heap_alloc_new w _)
theorem newC4 (w : World) {B : Nat} (hB : w.heap.size = B) (a b c d : Value) (t : TypeId) : ∀ (j : Nat) (u : Value), [a, b, c, d][j]? = some u → (w.alloc (.cells #[a, b, c, d] t)).cell? ((⟨B, 0, none⟩ : Addr).add j) = some u :=
  hB ▸ World.news_of_block (cs := #[a, b, c, d]) (t := t) (fr := (0, 0)) (heap_alloc_new w _)

section
variable {w : World} {base : Nat} {e : TypeId} {size : Nat} {v : Value} {n : Nat} {xs : List Value}
theorem ownC_lt (ho : w.ownsRow base e size v n xs) {b : Nat} (hb : v.ownBlock = some b) : b < w.heap.size ∧ base ≤ b := by
  obtain ⟨_, h2⟩ := ho
  rcases h2 with ⟨rfl, _⟩ | ⟨g, cap, cur, rfl, hg, hh, _⟩
  · simp [Value.ownBlock] at hb
  · simp only [Value.ownBlock, Option.some.injEq] at hb
    subst hb
    exact ⟨(Array.getElem?_eq_some_iff.1 hh).1, hg⟩
theorem ownC_below {w' : World} (ho : w.ownsRow base e size v n xs) (hb : Below w.heap.size w w') : w'.ownsRow base e size v n xs :=
  own_of_block ho fun b h => hb.block b (ownC_lt ho h).1
theorem ownC_base {b' : Nat} (ho : w.ownsRow base e size v n xs) (h : b' ≤ base) : w.ownsRow b' e size v n xs := by
  obtain ⟨h1, h2⟩ := ho
  rcases h2 with h2 | ⟨g, cap, cur, hv, hg, r⟩
  · exact ⟨h1, .inl h2⟩
  · exact ⟨h1, .inr ⟨g, cap, cur, hv, by omega, r⟩⟩
theorem ownC_grown_below {B : Nat} {w0 w2 : World} (hb : Below B w0 w) (hB : B ≤ w.heap.size) (hown : w.ownsRow base e size v n xs) (hbase : B ≤ base) (hg : w.grownBy w2 v.ownBlock) : Below B w0 w2 :=
  hb.grown hg hB (fun _ hr => Nat.le_trans hbase (ownC_lt hown hr).2)
theorem ownC_cells (ho : w.ownsRow base e size v n xs) :
    ∃ vo vc gv, v = .slice vo n vc ∧ (0 < n → vo = some ⟨gv, 0, none⟩ ∧ gv < w.heap.size ∧ base ≤ gv) ∧ ∀ c u, c < n * size → xs[c]? = some u → w.cell? ⟨gv, c, none⟩ = some u := by
  obtain ⟨_, h2⟩ := ho
  rcases h2 with ⟨hv, h0⟩ | ⟨g, cap, cur, hv, hb, hh, hnc, _, hcs, ht⟩
  · exact ⟨none, 0, 0, by rw [hv, h0], by omega, fun c u hc => by subst h0; omega⟩
  · refine ⟨_, cap, g, hv, fun _ => ⟨rfl, (Array.getElem?_eq_some_iff.1 hh).1, hb⟩, fun c u hc hx => ?_⟩
    rw [← ht, List.getElem?_take, if_pos hc] at hx
    simp only [Array.getElem?_toList] at hx
    simp [World.cell?, hh, hx]
theorem ownC_shape (ho : w.ownsRow base e size v n xs) : ∃ vo vc, v = .slice vo n vc := by
  obtain ⟨vo, vc, _, h, _⟩ := ownC_cells ho
  exact ⟨vo, vc, h⟩
/-- rows of two types are two blocks -/
theorem ownC_two {base' : Nat} {e' : TypeId} {size' : Nat} {v' : Value} {n' : Nat} {xs' : List Value} (ho : w.ownsRow base e size v n xs) (ho' : w.ownsRow base' e' size' v' n' xs') (ht : e ≠ e') {b : Nat} (hb : v.ownBlock = some b) : some b ≠ v'.ownBlock := fun hb' => by
  obtain ⟨_, h2⟩ := ho
  obtain ⟨_, h2'⟩ := ho'
  rcases h2 with ⟨rfl, _⟩ | ⟨g, cap, cur, rfl, _, hh, _⟩
  · simp [Value.ownBlock] at hb
  · rcases h2' with ⟨rfl, _⟩ | ⟨g', cap', cur', rfl, _, hh', _⟩
    · simp [Value.ownBlock] at hb'
    · simp only [Value.ownBlock, Option.some.injEq] at hb hb'
      subst hb
      subst hb'
      rw [hh] at hh'
      cases hh'
      exact ht rfl
theorem ownC_grown {w' : World} {base' : Nat} {e' : TypeId} {size' : Nat} {v' : Value} {n' : Nat} {xs' : List Value} (ho : w.ownsRow base e size v n xs) (ho' : w.ownsRow base' e' size' v' n' xs') (ht : e ≠ e') (hg : w.grownBy w' v'.ownBlock) : w'.ownsRow base e size v n xs :=
  own_of_block ho fun b hb => hg.block b (ownC_lt ho hb).1 (ownC_two ho ho' ht hb)
theorem row2C {b : Nat} {t : TypeId} {f : Nat → Value} (h : w.rowIs b t 2 f) : w.heap[b]? = some (.cells #[f 0, f 1] t (0, 0)) := by
  obtain ⟨c, hc, hs, hf⟩ := h
  rw [hc]
  have : c = #[f 0, f 1] := by
    apply Array.ext_getElem?
    intro i
    match i with
    | 0 => rw [hf 0 (by omega)]; rfl
    | 1 => rw [hf 1 (by omega)]; rfl
    | j + 2 => rw [Array.getElem?_eq_none (by omega)]; rfl
  rw [this]
theorem resC2 {P : Program} {fn : Func} {p u : Tmp} {ty : TypeId} (h : fn.results = #[.cell p ty, .tmp u]) (tmps : Array Value) (g : Nat) (f : Nat → Value) (d : TypeDesc)
    (hp : tmps.getD p undef = .pointer (some ⟨g, 0, none⟩)) (hg : w.rowIs g ty 2 f)
    (hu : P.underlying ty = some d) (hd : (match d with | .struct _ | .array _ _ => true | _ => false) = true) (hi : (P.info? ty).map (·.size) = some 2) :
    (results fn tmps).run P w = .ok (.tuple #[.agg #[f 0, f 1], tmps.getD u undef]) w := by
  have hp' : tmps[p]?.getD undef = .pointer (some ⟨g, 0, none⟩) := by simpa using hp
  simp [results, h, hp', asAddr, run_loadVar_row w g ty ty #[f 0, f 1] (0, 0) d (row2C hg) hu hd hi]
theorem resC3 {P : Program} {fn : Func} {p u v : Tmp} {ty : TypeId} (h : fn.results = #[.cell p ty, .tmp u, .tmp v]) (tmps : Array Value) (g : Nat) (f : Nat → Value) (d : TypeDesc)
    (hp : tmps.getD p undef = .pointer (some ⟨g, 0, none⟩)) (hg : w.rowIs g ty 2 f)
    (hu : P.underlying ty = some d) (hd : (match d with | .struct _ | .array _ _ => true | _ => false) = true) (hi : (P.info? ty).map (·.size) = some 2) :
    (results fn tmps).run P w = .ok (.tuple #[.agg #[f 0, f 1], tmps.getD u undef, tmps.getD v undef]) w := by
  have hp' : tmps[p]?.getD undef = .pointer (some ⟨g, 0, none⟩) := by simpa using hp
  simp [results, h, hp', asAddr, run_loadVar_row w g ty ty #[f 0, f 1] (0, 0) d (row2C hg) hu hd hi]
end
theorem sizeEntC : (Try.prog.info? 41).map (·.size) = some 2 := by kernel_rfl
theorem sizeTabC : (Try.prog.info? 27).map (·.size) = some 2 := by kernel_rfl
end Go.Proofs.Ytpclldccjpncdab

namespace Go.Proofs.Ytpclldccjpncdab
open Go.RowKit

/-! what compiling tells: the list of nodes, the entries, the stem and the anchor -/
/-- a node of the list: its name, its strength, is it the table's, its weights -/
structure Sp where
  name : Int
  str : Int
  old : Bool
  p : Int
  s : Int
  t : Int
instance : Inhabited Sp := ⟨⟨0, 0, false, 0, 0, 0⟩⟩
structure En where
  tx : ByteArray
  zs : List Int
instance : Inhabited En := ⟨⟨ByteArray.empty, []⟩⟩
structure Wk where
  ls : List Sp
  es : List En
  stem : List Int
  anchor : Int
  names : Int
/-- the strength of a node as to the one before it -/
def stI (p s _t p' s' _t' : Int) : Int := if p ≠ p' then 1 else if s ≠ s' then 2 else 3
/-- where a name stands, -1: nowhere -/
def plc (l : List Sp) (nm : Int) : Int := match l.findIdx? (fun x => x.name == nm) with
  | some i => (i : Nat)
  | none => -1
theorem plc_at {l : List Sp} {nm : Int} {i : Nat} (hi : i < l.length) (h : (l.getD i default).name = nm) (hn : ∀ j, j < i → (l.getD j default).name ≠ nm) : plc l nm = (i : Nat) := by
  have : l.findIdx? (fun x => x.name == nm) = some i := by
    rw [List.findIdx?_eq_some_iff_getElem]
    refine ⟨hi, ?_, fun j hj => ?_⟩
    · rw [List.getD_eq_getElem?_getD, List.getElem?_eq_getElem hi] at h
      simpa using h
    · have := hn j hj
      rw [List.getD_eq_getElem?_getD, List.getElem?_eq_getElem (by omega)] at this
      simpa using this
  unfold plc
  rw [this]
theorem plc_no {l : List Sp} {nm : Int} (hn : ∀ j, j < l.length → (l.getD j default).name ≠ nm) : plc l nm = -1 := by
  have : l.findIdx? (fun x => x.name == nm) = none := by
    rw [List.findIdx?_eq_none_iff]
    intro x hx
    obtain ⟨j, hj, rfl⟩ := List.getElem_of_mem hx
    have := hn j hj
    rw [List.getD_eq_getElem?_getD, List.getElem?_eq_getElem hj] at this
    simpa using this
  unfold plc
  rw [this]
theorem plc_le (l : List Sp) (nm : Int) : -1 ≤ plc l nm ∧ plc l nm < l.length := by
  unfold plc
  split
  · next i h =>
    rw [List.findIdx?_eq_some_iff_getElem] at h
    obtain ⟨hi, _⟩ := h
    omega
  · omega
/-- before which place a before of that level puts a node, looked for from place i - 1 down; -1: there is none -/
def stt (l : List Sp) (lev : Int) : Nat → Int
  | 0 => -1
  | i + 1 => if (l.getD i default).str ≤ lev then (if (l.getD i default).str = lev then (i : Nat) else -1) else stt l lev i
def startS (l : List Sp) (anchor lev : Int) : Int := stt l lev (plc l anchor + 1).toNat
/-- the first place from i on with a strength of at most lev -/
def beh (l : List Sp) (lev : Int) (i : Nat) : Nat := if i < l.length ∧ lev < (l.getD i default).str then beh l lev (i + 1) else i
termination_by l.length - i
def behindS (l : List Sp) (anchor lev : Int) : Nat := beh l lev (plc l anchor + 1).toNat
theorem beh_all (l : List Sp) (lev : Int) : ∀ k i, l.length - i ≤ k → i ≤ beh l lev i ∧ (i ≤ l.length → beh l lev i ≤ l.length)
  | 0, i, h => by
    rw [beh, if_neg (by omega)]
    exact ⟨Nat.le_refl _, id⟩
  | k + 1, i, h => by
    rw [beh]
    split
    · have := beh_all l lev k (i + 1) (by omega)
      exact ⟨by omega, fun _ => this.2 (by omega)⟩
    · exact ⟨Nat.le_refl _, id⟩
theorem beh_le {l : List Sp} {lev : Int} {i : Nat} (h : i ≤ l.length) : beh l lev i ≤ l.length := (beh_all l lev _ i (Nat.le_refl _)).2 h
theorem stt_le (l : List Sp) (lev : Int) : ∀ i, -1 ≤ stt l lev i ∧ stt l lev i < (i : Nat) + 1
  | 0 => by unfold stt; omega
  | i + 1 => by
    have := stt_le l lev i
    unfold stt
    split
    · split <;> omega
    · omega
/-- a new node -/
def putS (K : Wk) (a : Nat) (lev : Int) : Wk := { K with ls := K.ls.take a ++ [⟨K.names, lev, false, 0, 0, 0⟩] ++ K.ls.drop a, anchor := K.names, names := K.names + 1 }

/-! in memory -/
def Sp.cs (x : Sp) : List Value := [.int .i64 x.name, .int .i64 x.str, .bool x.old, .int .i64 x.p, .int .i64 x.s, .int .i64 x.t]
def spsC (l : List Sp) : List Value := l.flatMap Sp.cs
theorem spsC_app (l l' : List Sp) : spsC (l ++ l') = spsC l ++ spsC l' := by simp [spsC]
theorem spsC_len : ∀ l : List Sp, (spsC l).length = l.length * 6
  | [] => rfl
  | x :: l => by
    have := spsC_len l
    show (x.cs ++ spsC l).length = _
    rw [List.length_append, this, List.length_cons]
    show 6 + _ = _
    omega
theorem spsC_at : ∀ (l : List Sp) (i : Nat), i < l.length → ∀ k, k < 6 → (spsC l)[i * 6 + k]? = (l.getD i default).cs[k]?
  | [], i, h, _, _ => by simp at h
  | x :: l, 0, _, k, hk => by
    show (x.cs ++ spsC l)[0 * 6 + k]? = _
    rw [List.getElem?_append_left (by show _ < 6; omega), Nat.zero_mul, Nat.zero_add]
    rfl
  | x :: l, i + 1, h, k, hk => by
    have h' : i < l.length := by simpa using h
    show (x.cs ++ spsC l)[(i + 1) * 6 + k]? = _
    rw [List.getElem?_append_right (by show 6 ≤ _; omega)]
    rw [show (i + 1) * 6 + k - x.cs.length = i * 6 + k by show _ - 6 = _; omega, spsC_at l i h' k hk]
    rfl
/-- the list as it lies there -/
structure ListIn (w : World) (la : Option Addr) (gv : Nat) (l : List Sp) : Prop where
  addr : 0 < l.length → la = some ⟨gv, 0, none⟩
  name : ∀ i, i < l.length → w.cell? ⟨gv, i * 6, none⟩ = some (.int .i64 (l.getD i default).name)
  str : ∀ i, i < l.length → w.cell? ⟨gv, i * 6 + 1, none⟩ = some (.int .i64 (l.getD i default).str)
  old : ∀ i, i < l.length → w.cell? ⟨gv, i * 6 + 2, none⟩ = some (.bool (l.getD i default).old)
  p : ∀ i, i < l.length → w.cell? ⟨gv, i * 6 + 3, none⟩ = some (.int .i64 (l.getD i default).p)
  s : ∀ i, i < l.length → w.cell? ⟨gv, i * 6 + 4, none⟩ = some (.int .i64 (l.getD i default).s)
  t : ∀ i, i < l.length → w.cell? ⟨gv, i * 6 + 5, none⟩ = some (.int .i64 (l.getD i default).t)
end Go.Proofs.Ytpclldccjpncdab

namespace Go.Proofs.Ytpclldccjpncdab
open Go.RowKit

/-! ### Pieces of a text, by the texts tx 0 .. tx (m - 1) -/
theorem bytes_eq {a b : ByteArray} : a.toList = b.toList ↔ a = b := by
  constructor
  · intro h
    have h1 : a.data.toList = b.data.toList := by simpa [ByteArray.toList_eq] using h
    exact ByteArray.ext (Array.ext' h1)
  · rintro rfl; rfl

/-- the text of n bytes at a place -/
def sub (s : ByteArray) (at_ n : Nat) : ByteArray := s.extract at_ (at_ + n)
def isText (m : Nat) (tx : Nat → ByteArray) (u : ByteArray) : Prop := ∃ i, i < m ∧ tx i = u
open Classical in
/-- how long the longest text is that stands there (up to 3 bytes); 0: none does -/
noncomputable def lenAt (m : Nat) (tx : Nat → ByteArray) (s : ByteArray) (p : Nat) : Nat :=
  if p + 3 ≤ s.size ∧ isText m tx (sub s p 3) then 3 else if p + 2 ≤ s.size ∧ isText m tx (sub s p 2) then 2 else if p + 1 ≤ s.size ∧ isText m tx (sub s p 1) then 1 else 0
noncomputable def pos (m : Nat) (tx : Nat → ByteArray) (s : ByteArray) : Nat → Nat
  | 0 => 0
  | q + 1 => pos m tx s q + lenAt m tx s (pos m tx s q)
/-- q pieces can be cut off, and no more -/
structure Cut (m : Nat) (tx : Nat → ByteArray) (s : ByteArray) (q : Nat) : Prop where
  go : ∀ j, j < q → 0 < lenAt m tx s (pos m tx s j)
  stop : lenAt m tx s (pos m tx s q) = 0
theorem Cut.uniq {m : Nat} {tx : Nat → ByteArray} {s : ByteArray} {q q' : Nat} (h : Cut m tx s q) (h' : Cut m tx s q') : q = q' := by
  rcases Nat.lt_trichotomy q q' with e | e | e
  · have := h'.go q e; have := h.stop; omega
  · exact e
  · have := h.go q' e; have := h'.stop; omega
theorem lenAt_le (m : Nat) (tx : Nat → ByteArray) (s : ByteArray) (p : Nat) (hp : p ≤ s.size) : p + lenAt m tx s p ≤ s.size ∧ lenAt m tx s p ≤ 3 := by
  unfold lenAt
  split
  · rename_i h; exact ⟨h.1, by omega⟩
  · split
    · rename_i h; exact ⟨h.1, by omega⟩
    · split
      · rename_i h; exact ⟨h.1, by omega⟩
      · exact ⟨by omega, by omega⟩
theorem pos_le (m : Nat) (tx : Nat → ByteArray) (s : ByteArray) : ∀ q, pos m tx s q ≤ s.size
  | 0 => Nat.zero_le _
  | q + 1 => (lenAt_le m tx s _ (pos_le m tx s q)).1
theorem pos_ge {m : Nat} {tx : Nat → ByteArray} {s : ByteArray} : ∀ q, (∀ j, j < q → 0 < lenAt m tx s (pos m tx s j)) → q ≤ pos m tx s q
  | 0, _ => Nat.zero_le _
  | q + 1, h => by
    have h1 := pos_ge q (fun j hj => h j (by omega))
    have h2 := h q (by omega)
    show q + 1 ≤ pos m tx s q + lenAt m tx s (pos m tx s q)
    omega
theorem size_sub (s : ByteArray) (p n : Nat) (h : p + n ≤ s.size) : (sub s p n).size = n := by simp [sub, ByteArray.size_extract]; omega
/-- a text of that length stands there -/
theorem lenAt_text {m : Nat} {tx : Nat → ByteArray} {s : ByteArray} {p : Nat} (h : 0 < lenAt m tx s p) : isText m tx (sub s p (lenAt m tx s p)) := by
  unfold lenAt at h ⊢
  split
  · rename_i h1; exact h1.2
  · split
    · rename_i h1; exact h1.2
    · split
      · rename_i h1; exact h1.2
      · rename_i h1 h2 h3; simp [h1, h2, h3] at h
/-- none longer does -/
theorem lenAt_max {m : Nat} {tx : Nat → ByteArray} {s : ByteArray} {p n : Nat} (hn : n ≤ 3) (h0 : 0 < n) (hs : p + n ≤ s.size) (ht : isText m tx (sub s p n)) : n ≤ lenAt m tx s p := by
  unfold lenAt
  split
  · exact hn
  · rename_i h3
    have hn3 : n ≠ 3 := by rintro rfl; exact h3 ⟨hs, ht⟩
    split
    · omega
    · rename_i h2
      have hn2 : n ≠ 2 := by rintro rfl; exact h2 ⟨hs, ht⟩
      have hn1 : n = 1 := by omega
      subst hn1
      split
      · omega
      · rename_i h1; exact absurd ⟨hs, ht⟩ h1
theorem lenAt_eq {m : Nat} {tx : Nat → ByteArray} {s : ByteArray} {p n : Nat} (hp : p ≤ s.size) (hn : n ≤ 3) (hs : p + n ≤ s.size) (ht : 0 < n → isText m tx (sub s p n)) (hmax : ∀ k, n < k → k ≤ 3 → p + k ≤ s.size → ¬ isText m tx (sub s p k)) : lenAt m tx s p = n := by
  have h1 := lenAt_le m tx s p hp
  by_cases e : lenAt m tx s p ≤ n
  · by_cases h0 : 0 < n
    · have := lenAt_max hn h0 hs (ht h0); omega
    · omega
  · exact absurd (lenAt_text (by omega)) (hmax _ (by omega) h1.2 h1.1)

open Classical in
/-- the first entry of a text; m: there is none -/
noncomputable def idx : Nat → (Nat → ByteArray) → ByteArray → Nat
  | 0, _, _ => 0
  | m + 1, tx, u => if idx m tx u < m then idx m tx u else if tx m = u then m else m + 1
theorem idx_all (tx : Nat → ByteArray) (u : ByteArray) : ∀ m, idx m tx u ≤ m ∧ (idx m tx u < m → tx (idx m tx u) = u) ∧ ∀ j, j < idx m tx u → tx j ≠ u
  | 0 => by simp [idx]
  | m + 1 => by
    obtain ⟨h1, h2, h3⟩ := idx_all tx u m
    unfold idx
    by_cases e : idx m tx u < m
    · rw [if_pos e]
      exact ⟨by omega, fun _ => h2 e, h3⟩
    · rw [if_neg e]
      have e' : idx m tx u = m := by omega
      rw [e'] at h3
      by_cases et : tx m = u
      · rw [if_pos et]
        exact ⟨by omega, fun _ => et, h3⟩
      · rw [if_neg et]
        refine ⟨by omega, by omega, fun j hj => ?_⟩
        by_cases ej : j = m
        · rw [ej]; exact et
        · exact h3 j (by omega)
theorem idx_eq {m : Nat} {tx : Nat → ByteArray} {u : ByteArray} {i : Nat} (hi : i < m) (ht : tx i = u) (hf : ∀ j, j < i → tx j ≠ u) : idx m tx u = i := by
  obtain ⟨h1, h2, h3⟩ := idx_all tx u m
  rcases Nat.lt_trichotomy (idx m tx u) i with e | e | e
  · exact absurd (h2 (by omega)) (hf _ e)
  · exact e
  · exact absurd ht (h3 i e)
theorem idx_spec {m : Nat} {tx : Nat → ByteArray} {u : ByteArray} (h : isText m tx u) : idx m tx u < m ∧ tx (idx m tx u) = u ∧ ∀ j, j < idx m tx u → tx j ≠ u := by
  obtain ⟨h1, h2, h3⟩ := idx_all tx u m
  obtain ⟨i, hi, ht⟩ := h
  have hlt : idx m tx u < m := by
    rcases Nat.lt_or_ge i (idx m tx u) with e | e
    · exact absurd ht (h3 i e)
    · omega
  exact ⟨hlt, h2 hlt, h3⟩
theorem idx_none {m : Nat} {tx : Nat → ByteArray} {u : ByteArray} (h : ¬ isText m tx u) : idx m tx u = m := by
  obtain ⟨h1, h2, h3⟩ := idx_all tx u m
  by_cases e : idx m tx u < m
  · exact absurd ⟨_, e, h2 e⟩ h
  · omega
/-- piece j of a text, and the number of its entry -/
noncomputable def piece (m : Nat) (tx : Nat → ByteArray) (s : ByteArray) (j : Nat) : ByteArray := sub s (pos m tx s j) (lenAt m tx s (pos m tx s j))
noncomputable def pidx (m : Nat) (tx : Nat → ByteArray) (s : ByteArray) (j : Nat) : Nat := idx m tx (piece m tx s j)
theorem pidx_spec {m : Nat} {tx : Nat → ByteArray} {s : ByteArray} {q j : Nat} (h : ∀ j, j < q → 0 < lenAt m tx s (pos m tx s j)) (hj : j < q) : pidx m tx s j < m ∧ tx (pidx m tx s j) = piece m tx s j := by
  have := idx_spec (lenAt_text (h j hj))
  exact ⟨this.1, this.2.1⟩

end Go.Proofs.Ytpclldccjpncdab

namespace Go.Proofs.Ytpclldccjpncdab
open Go.RowKit

def standB (t s : ByteArray) (p : Nat) : Bool := decide (p + t.size ≤ s.size) && ((sub s p t.size).toList == t.toList)
theorem standB_iff {t s : ByteArray} {p : Nat} : standB t s p = true ↔ p + t.size ≤ s.size ∧ sub s p t.size = t := by
  simp [standB, bytes_eq]
theorem standB_no {t s : ByteArray} {p : Nat} (h : s.size < p + t.size) : false = standB t s p := by
  have : ¬ p + t.size ≤ s.size := by omega
  simp [standB, this]
theorem standB_at {t s : ByteArray} {p : Nat} (h : p + t.size ≤ s.size) : ((sub s p t.size).toList == t.toList) = standB t s p := by simp [standB, h]

set_option maxHeartbeats 400000 in
theorem standsAt_any (t s : ByteArray) (p : Nat) (w : World) (hs : s.size ≤ 1000) (ht : t.size ≤ 3) (hp : p ≤ s.size) :
    Calls Try.prog 79 #[.string t, .string s, .int .i64 p] w fun e w' => e = .returned (.bool (standB t s p)) ∧ w = w' := by
  by_cases h : p + t.size ≤ s.size
  · have HB := standB_at h
    unfold sub at HB
    have HB2 : Hid (((s.extract p (p + t.size)).toList == t.toList) = standB t s p) := HB
    clear HB
    go_enter Try.func79, Try.ntmps79
    go_wp2
    go_ret
    exact ⟨ret_bool HB2.out, rfl⟩
  · have HB : Hid (false = standB t s p) := standB_no (by omega)
    go_enter Try.func79, Try.ntmps79
    go_wp2
    go_ret
    exact ⟨ret_bool HB.out, rfl⟩

/-- the search at entry i -/
def Best (tx : Nat → ByteArray) (s : ByteArray) (p i : Nat) (b len : Int) : Prop :=
  (b = -1 ∧ len = 0 ∧ ∀ j, j < i → standB (tx j) s p = false) ∨
  ∃ c : Nat, b = c ∧ c < i ∧ len = (tx c).size ∧ standB (tx c) s p = true ∧ (∀ j, j < i → standB (tx j) s p = true → (tx j).size ≤ (tx c).size) ∧ ∀ j, j < c → standB (tx j) s p = true → (tx j).size < (tx c).size
theorem best_start (tx : Nat → ByteArray) (s : ByteArray) (p : Nat) : Best tx s p 0 (-1) 0 := .inl ⟨rfl, rfl, fun j hj => by omega⟩
theorem best_bd {tx : Nat → ByteArray} {s : ByteArray} {p i : Nat} {b len : Int} (h : Best tx s p i b len) : -1 ≤ b ∧ b ≤ i ∧ 0 ≤ len := by
  rcases h with ⟨rfl, rfl, _⟩ | ⟨c, rfl, h1, rfl, _⟩ <;> omega
theorem best_take {tx : Nat → ByteArray} {s : ByteArray} {p i : Nat} {b len : Int} (h : Best tx s p i b len) (h1 : len < ((tx i).size : Int)) (h2 : standB (tx i) s p = true) : Best tx s p (i + 1) i (tx i).size := by
  refine .inr ⟨i, rfl, by omega, rfl, h2, fun j hj hs => ?_, fun j hj hs => ?_⟩
  · by_cases e : j = i
    · subst e; omega
    · rcases h with ⟨_, _, h⟩ | ⟨c, _, _, rfl, _, h, _⟩
      · have := h j (by omega); rw [hs] at this; cases this
      · have := h j (by omega) hs; omega
  · rcases h with ⟨_, _, h⟩ | ⟨c, _, _, rfl, _, h, _⟩
    · have := h j (by omega); rw [hs] at this; cases this
    · have := h j (by omega) hs; omega
theorem best_skip {tx : Nat → ByteArray} {s : ByteArray} {p i : Nat} {b len : Int} (h0 : 1 ≤ (tx i).size) (h : Best tx s p i b len) (h1 : ¬ len < ((tx i).size : Int) ∨ standB (tx i) s p = false) : Best tx s p (i + 1) b len := by
  rcases h with ⟨rfl, rfl, h⟩ | ⟨c, rfl, hc, rfl, hs, h2, h3⟩
  · refine .inl ⟨rfl, rfl, fun j hj => ?_⟩
    by_cases e : j = i
    · subst e
      rcases h1 with h1 | h1
      · omega
      · exact h1
    · exact h j (by omega)
  · refine .inr ⟨c, rfl, by omega, rfl, hs, fun j hj hj2 => ?_, h3⟩
    by_cases e : j = i
    · subst e
      rcases h1 with h1 | h1
      · omega
      · rw [hj2] at h1; cases h1
    · exact h2 j (by omega) hj2

noncomputable def bestI (m : Nat) (tx : Nat → ByteArray) (s : ByteArray) (p : Nat) : Int := if lenAt m tx s p = 0 then -1 else (idx m tx (sub s p (lenAt m tx s p)) : Nat)
theorem stand_text {m : Nat} {tx : Nat → ByteArray} {s : ByteArray} {p k : Nat} (hs : p + k ≤ s.size) (h : isText m tx (sub s p k)) : ∃ i, i < m ∧ (tx i).size = k ∧ standB (tx i) s p = true := by
  obtain ⟨i, hi, ht⟩ := h
  have hk : (tx i).size = k := by rw [ht]; exact size_sub _ _ _ hs
  exact ⟨i, hi, hk, standB_iff.2 ⟨by omega, by rw [hk, ht]⟩⟩
theorem best_end {m : Nat} {tx : Nat → ByteArray} {s : ByteArray} {p : Nat} {b len : Int} (hp : p ≤ s.size) (ht : ∀ i, i < m → 1 ≤ (tx i).size ∧ (tx i).size ≤ 3) (h : Best tx s p m b len) : b = bestI m tx s p := by
  rcases h with ⟨rfl, _, h⟩ | ⟨c, rfl, hc, _, hs, h2, h3⟩
  · have : lenAt m tx s p = 0 := lenAt_eq hp (by omega) (by omega) (by omega) fun k _ _ hk hx => by
      obtain ⟨i, hi, _, h4⟩ := stand_text hk hx
      have := h i hi
      rw [h4] at this; cases this
    simp [bestI, this]
  · obtain ⟨h4, h5⟩ := standB_iff.1 hs
    have hl : lenAt m tx s p = (tx c).size := lenAt_eq hp (ht c hc).2 h4 (fun _ => ⟨c, hc, h5.symm⟩) fun k hk _ hk2 hx => by
      obtain ⟨i, hi, hi2, h6⟩ := stand_text hk2 hx
      have := h2 i hi h6
      omega
    have h0 := (ht c hc).1
    have hi : idx m tx (sub s p (lenAt m tx s p)) = c := idx_eq hc (by rw [hl]; exact h5.symm) fun j hj e => by
      rw [hl] at e
      have hsz : (tx j).size = (tx c).size := by rw [e]; exact size_sub _ _ _ h4
      have := h3 j hj (standB_iff.2 ⟨by omega, by rw [hsz, e]⟩)
      omega
    have h1 : ¬ lenAt m tx s p = 0 := by omega
    simp [bestI, h1, hi]

set_option maxHeartbeats 400000 in
theorem longestAt_any (m cap b off : Nat) (ao : Option Addr) (tx : Nat → ByteArray) (la : Nat → Option Addr) (k lc lb lo : Nat → Nat) (z : Nat → Nat → Int) (s : ByteArray) (p : Nat) (w : World) (hm : m ≤ 48) (hs : s.size ≤ 1000) (hp : p ≤ s.size)
    (ht : ∀ i, i < m → 1 ≤ (tx i).size ∧ (tx i).size ≤ 3) (h : EntriesIn w.heap.size w ao m b off tx la k lc lb lo z) :
    Calls Try.prog 70 #[.slice ao m cap, .string s, .int .i64 p] w fun e w' => e = .returned (.int .i64 (bestI m tx s p)) ∧ w = w' := by
  have HE : Hid (EntriesIn w.heap.size w ao m b off tx la k lc lb lo z) := h
  have HT : Hid (∀ i, i < m → 1 ≤ (tx i).size ∧ (tx i).size ≤ 3) := ht
  clear h ht
  go_enter Try.func70, Try.ntmps70
  go_wp2
  go_loop [7, 8, 9] (fun bv lv iv => ∃ (i : Nat) (bst len : Int), i ≤ m ∧ iv = .int .i64 i ∧ bv = .int .i64 bst ∧ lv = .int .i64 len ∧ Best tx s p i bst len) (fun _ _ iv => m - (intOf iv).toNat)
  case atStart => exact ⟨0, -1, 0, Nat.zero_le _, rfl, rfl, rfl, best_start tx s p⟩
  case round =>
    obtain ⟨i, bst, len, hi, rfl, rfl, rfl, hb⟩ := hrel
    obtain ⟨q1, q2, q3⟩ := best_bd hb
    have HB : Hid (Best tx s p i bst len) := hb
    clear hb
    by_cases hlt : i < m
    · have ha := HE.out.addr (by omega)
      subst ha
      have c0 := HE.out.text i hlt
      obtain ⟨t1, t2⟩ := HT.out i hlt
      by_cases hl : len < ((tx i).size : Int)
      · by_cases hst : standB (tx i) s p = true
        · go_wp2_with (go_at_call 79; refine (standsAt_any _ _ _ _ hs t2 hp).mono ?_; rintro e _ ⟨rfl, rfl⟩)
          go_round
          case rel => exact ⟨i + 1, i, (tx i).size, by omega, by go_num, rfl, rfl, best_take HB.out hl hst⟩
          case measure => simp [intOf]; omega
        · have hst' : standB (tx i) s p = false := by simpa using hst
          go_wp2_with (go_at_call 79; refine (standsAt_any _ _ _ _ hs t2 hp).mono ?_; rintro e _ ⟨rfl, rfl⟩)
          go_round
          case rel => exact ⟨i + 1, bst, len, by omega, by go_num, rfl, rfl, best_skip t1 HB.out (.inr hst')⟩
          case measure => simp [intOf]; omega
      · go_wp2
        go_round
        case rel => exact ⟨i + 1, bst, len, by omega, by go_num, rfl, rfl, best_skip t1 HB.out (.inl hl)⟩
        case measure => simp [intOf]; omega
    · go_wp2
      go_ret
      have : i = m := by omega
      subst this
      exact ⟨ret_int (best_end hp HT.out HB.out), rfl⟩

end Go.Proofs.Ytpclldccjpncdab
