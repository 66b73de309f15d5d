import Derived.Test.YtpclldccjpncdabGreatM06
import Derived.Maps.AppendAt
import Derived.OwnWalk
import Derived.Laws.Rows
namespace Go.Proofs.YtpclldccjpncdabGreat
open Go.RowKit

theorem infoIntC : (Tryz.prog.info? 3).map (fun i => (i.zero, i.size, i.bytes)) = some (some (.int .i64 0), 1, 8) := by kernel_rfl
theorem infoByteC : (Tryz.prog.info? 5).map (fun i => (i.zero, i.size, i.bytes)) = some (some (.int .u8 0), 1, 1) := by kernel_rfl
theorem infoNodeC : (Tryz.prog.info? 65).map (fun i => (i.zero, i.size, i.bytes)) = some (some (.agg #[.int .i64 0, .int .i64 0, .int .i64 0]), 3, 24) := by kernel_rfl
theorem infoEntC : (Tryz.prog.info? 63).map (fun i => (i.zero, i.size, i.bytes)) = some (some (.agg #[.string ByteArray.empty, .slice none 0 0]), 2, 40) := by kernel_rfl
theorem infoListC : (Tryz.prog.info? 61).map (fun i => (i.zero, i.size, i.bytes)) = some (some (.slice none 0 0), 1, 24) := by kernel_rfl

theorem newC2 (w : World) {B : Nat} (hB : w.heap.size = B) (a b : Value) (t : TypeId) : ∀ (j : Nat) (u : Value), [a, b][j]? = some u → (w.alloc (.cells #[a, b] t)).cell? ((⟨B, 0, none⟩ : Addr).add j) = some u :=
  hB ▸ World.news_of_block (cs := #[a, b]) (t := t) (fr := (0, 0)) (heap_alloc_new w _)
theorem newC3 (w : World) {B : Nat} (hB : w.heap.size = B) (a b c : Value) (t : TypeId) : ∀ (j : Nat) (u : Value), [a, b, c][j]? = some u → (w.alloc (.cells #[a, b, c] t)).cell? ((⟨B, 0, none⟩ : Addr).add j) = some u :=
  hB ▸ World.news_of_block (cs := #[a, b, c]) (t := t) (fr := (0, 0)) (heap_alloc_new w _)
theorem newC4 (w : World) {B : Nat} (hB : w.heap.size = B) (a b c d : Value) (t : TypeId) : ∀ (j : Nat) (u : Value), [a, b, c, d][j]? = some u → (w.alloc (.cells #[a, b, c, d] t)).cell? ((⟨B, 0, none⟩ : Addr).add j) = some u :=
  hB ▸ World.news_of_block (cs := #[a, b, c, d]) (t := t) (fr := (0, 0)) (heap_alloc_new w _)

section
variable {w : World} {base : Nat} {e : TypeId} {size : Nat} {v : Value} {n : Nat} {xs : List Value}
theorem ownC_lt (ho : w.ownsRow base e size v n xs) {b : Nat} (hb : v.ownBlock = some b) : b < w.heap.size ∧ base ≤ b := by
  obtain ⟨_, h2⟩ := ho
  rcases h2 with ⟨rfl, _⟩ | ⟨g, cap, cur, rfl, hg, hh, _⟩
  · simp [Value.ownBlock] at hb
  · simp only [Value.ownBlock, Option.some.injEq] at hb
    subst hb
    exact ⟨(Array.getElem?_eq_some_iff.1 hh).1, hg⟩
theorem ownC_below {w' : World} (ho : w.ownsRow base e size v n xs) (hb : Below w.heap.size w w') : w'.ownsRow base e size v n xs :=
  own_of_block ho fun b h => hb.block b (ownC_lt ho h).1
theorem ownC_base {b' : Nat} (ho : w.ownsRow base e size v n xs) (h : b' ≤ base) : w.ownsRow b' e size v n xs := by
  obtain ⟨h1, h2⟩ := ho
  rcases h2 with h2 | ⟨g, cap, cur, hv, hg, r⟩
  · exact ⟨h1, .inl h2⟩
  · exact ⟨h1, .inr ⟨g, cap, cur, hv, by omega, r⟩⟩
theorem ownC_grown_below {B : Nat} {w0 w2 : World} (hb : Below B w0 w) (hB : B ≤ w.heap.size) (hown : w.ownsRow base e size v n xs) (hbase : B ≤ base) (hg : w.grownBy w2 v.ownBlock) : Below B w0 w2 :=
  hb.grown hg hB (fun _ hr => Nat.le_trans hbase (ownC_lt hown hr).2)
theorem ownC_cells (ho : w.ownsRow base e size v n xs) :
    ∃ vo vc gv, v = .slice vo n vc ∧ (0 < n → vo = some ⟨gv, 0, none⟩ ∧ gv < w.heap.size ∧ base ≤ gv) ∧ ∀ c u, c < n * size → xs[c]? = some u → w.cell? ⟨gv, c, none⟩ = some u := by
  obtain ⟨_, h2⟩ := ho
  rcases h2 with ⟨hv, h0⟩ | ⟨g, cap, cur, hv, hb, hh, hnc, _, hcs, ht⟩
  · exact ⟨none, 0, 0, by rw [hv, h0], by omega, fun c u hc => by subst h0; omega⟩
  · refine ⟨_, cap, g, hv, fun _ => ⟨rfl, (Array.getElem?_eq_some_iff.1 hh).1, hb⟩, fun c u hc hx => ?_⟩
    rw [← ht, List.getElem?_take, if_pos hc] at hx
    simp only [Array.getElem?_toList] at hx
    simp [World.cell?, hh, hx]
theorem ownC_shape (ho : w.ownsRow base e size v n xs) : ∃ vo vc, v = .slice vo n vc := by
  obtain ⟨vo, vc, _, h, _⟩ := ownC_cells ho
  exact ⟨vo, vc, h⟩
/-- rows of two types are two blocks -/
theorem ownC_two {base' : Nat} {e' : TypeId} {size' : Nat} {v' : Value} {n' : Nat} {xs' : List Value} (ho : w.ownsRow base e size v n xs) (ho' : w.ownsRow base' e' size' v' n' xs') (ht : e ≠ e') {b : Nat} (hb : v.ownBlock = some b) : some b ≠ v'.ownBlock := fun hb' => by
  obtain ⟨_, h2⟩ := ho
  obtain ⟨_, h2'⟩ := ho'
  rcases h2 with ⟨rfl, _⟩ | ⟨g, cap, cur, rfl, _, hh, _⟩
  · simp [Value.ownBlock] at hb
  · rcases h2' with ⟨rfl, _⟩ | ⟨g', cap', cur', rfl, _, hh', _⟩
    · simp [Value.ownBlock] at hb'
    · simp only [Value.ownBlock, Option.some.injEq] at hb hb'
      subst hb
      subst hb'
      rw [hh] at hh'
      cases hh'
      exact ht rfl
theorem ownC_grown {w' : World} {base' : Nat} {e' : TypeId} {size' : Nat} {v' : Value} {n' : Nat} {xs' : List Value} (ho : w.ownsRow base e size v n xs) (ho' : w.ownsRow base' e' size' v' n' xs') (ht : e ≠ e') (hg : w.grownBy w' v'.ownBlock) : w'.ownsRow base e size v n xs :=
  own_of_block ho fun b hb => hg.block b (ownC_lt ho hb).1 (ownC_two ho ho' ht hb)
theorem row2C {b : Nat} {t : TypeId} {f : Nat → Value} (h : w.rowIs b t 2 f) : w.heap[b]? = some (.cells #[f 0, f 1] t (0, 0)) := by
  obtain ⟨c, hc, hs, hf⟩ := h
  rw [hc]
  have : c = #[f 0, f 1] := by
    apply Array.ext_getElem?
    intro i
    match i with
    | 0 => rw [hf 0 (by omega)]; rfl
    | 1 => rw [hf 1 (by omega)]; rfl
    | j + 2 => rw [Array.getElem?_eq_none (by omega)]; rfl
  rw [this]
theorem resC2 {P : Program} {fn : Func} {p u : Tmp} {ty : TypeId} (h : fn.results = #[.cell p ty, .tmp u]) (tmps : Array Value) (g : Nat) (f : Nat → Value) (d : TypeDesc)
    (hp : tmps.getD p undef = .pointer (some ⟨g, 0, none⟩)) (hg : w.rowIs g ty 2 f)
    (hu : P.underlying ty = some d) (hd : (match d with | .struct _ | .array _ _ => true | _ => false) = true) (hi : (P.info? ty).map (·.size) = some 2) :
    (results fn tmps).run P w = .ok (.tuple #[.agg #[f 0, f 1], tmps.getD u undef]) w := by
  have hp' : tmps[p]?.getD undef = .pointer (some ⟨g, 0, none⟩) := by simpa using hp
  simp [results, h, hp', asAddr, run_loadVar_row w g ty ty #[f 0, f 1] (0, 0) d (row2C hg) hu hd hi]
theorem resC3 {P : Program} {fn : Func} {p u v : Tmp} {ty : TypeId} (h : fn.results = #[.cell p ty, .tmp u, .tmp v]) (tmps : Array Value) (g : Nat) (f : Nat → Value) (d : TypeDesc)
    (hp : tmps.getD p undef = .pointer (some ⟨g, 0, none⟩)) (hg : w.rowIs g ty 2 f)
    (hu : P.underlying ty = some d) (hd : (match d with | .struct _ | .array _ _ => true | _ => false) = true) (hi : (P.info? ty).map (·.size) = some 2) :
    (results fn tmps).run P w = .ok (.tuple #[.agg #[f 0, f 1], tmps.getD u undef, tmps.getD v undef]) w := by
  have hp' : tmps[p]?.getD undef = .pointer (some ⟨g, 0, none⟩) := by simpa using hp
  simp [results, h, hp', asAddr, run_loadVar_row w g ty ty #[f 0, f 1] (0, 0) d (row2C hg) hu hd hi]
end
theorem sizeEntC : (Tryz.prog.info? 63).map (·.size) = some 2 := by kernel_rfl
theorem sizeTabC : (Tryz.prog.info? 28).map (·.size) = some 2 := by kernel_rfl
end Go.Proofs.YtpclldccjpncdabGreat

namespace Go.Proofs.YtpclldccjpncdabGreat
open Go.RowKit

/-! what compiling tells: the list of nodes, the entries, the stem and the anchor -/
/-- a node of the list: its name, its strength, is it the table's, its weights -/
structure Sp where
  name : Int
  str : Int
  old : Bool
  p : Int
  s : Int
  t : Int
instance : Inhabited Sp := ⟨⟨0, 0, false, 0, 0, 0⟩⟩
structure En where
  tx : ByteArray
  zs : List Int
instance : Inhabited En := ⟨⟨ByteArray.empty, []⟩⟩
structure Wk where
  ls : List Sp
  es : List En
  stem : List Int
  anchor : Int
  names : Int
/-- the strength of a node as to the one before it -/
def stI (p s _t p' s' _t' : Int) : Int := if p ≠ p' then 1 else if s ≠ s' then 2 else 3
/-- where a name stands, -1: nowhere -/
def plc (l : List Sp) (nm : Int) : Int := match l.findIdx? (fun x => x.name == nm) with
  | some i => (i : Nat)
  | none => -1
theorem plc_at {l : List Sp} {nm : Int} {i : Nat} (hi : i < l.length) (h : (l.getD i default).name = nm) (hn : ∀ j, j < i → (l.getD j default).name ≠ nm) : plc l nm = (i : Nat) := by
  have : l.findIdx? (fun x => x.name == nm) = some i := by
    rw [List.findIdx?_eq_some_iff_getElem]
    refine ⟨hi, ?_, fun j hj => ?_⟩
    · rw [List.getD_eq_getElem?_getD, List.getElem?_eq_getElem hi] at h
      simpa using h
    · have := hn j hj
      rw [List.getD_eq_getElem?_getD, List.getElem?_eq_getElem (by omega)] at this
      simpa using this
  unfold plc
  rw [this]
theorem plc_no {l : List Sp} {nm : Int} (hn : ∀ j, j < l.length → (l.getD j default).name ≠ nm) : plc l nm = -1 := by
  have : l.findIdx? (fun x => x.name == nm) = none := by
    rw [List.findIdx?_eq_none_iff]
    intro x hx
    obtain ⟨j, hj, rfl⟩ := List.getElem_of_mem hx
    have := hn j hj
    rw [List.getD_eq_getElem?_getD, List.getElem?_eq_getElem hj] at this
    simpa using this
  unfold plc
  rw [this]
theorem plc_le (l : List Sp) (nm : Int) : -1 ≤ plc l nm ∧ plc l nm < l.length := by
  unfold plc
  split
  · next i h =>
    rw [List.findIdx?_eq_some_iff_getElem] at h
    obtain ⟨hi, _⟩ := h
    omega
  · omega
/-- before which place a before of that level puts a node, looked for from place i - 1 down; -1: there is none -/
def stt (l : List Sp) (lev : Int) : Nat → Int
  | 0 => -1
  | i + 1 => if (l.getD i default).str ≤ lev then (if (l.getD i default).str = lev then (i : Nat) else -1) else stt l lev i
def startS (l : List Sp) (anchor lev : Int) : Int := stt l lev (plc l anchor + 1).toNat
/-- the first place from i on with a strength of at most lev -/
def beh (l : List Sp) (lev : Int) (i : Nat) : Nat := if i < l.length ∧ lev < (l.getD i default).str then beh l lev (i + 1) else i
termination_by l.length - i
def behindS (l : List Sp) (anchor lev : Int) : Nat := beh l lev (plc l anchor + 1).toNat
theorem beh_all (l : List Sp) (lev : Int) : ∀ k i, l.length - i ≤ k → i ≤ beh l lev i ∧ (i ≤ l.length → beh l lev i ≤ l.length)
  | 0, i, h => by
    rw [beh, if_neg (by omega)]
    exact ⟨Nat.le_refl _, id⟩
  | k + 1, i, h => by
    rw [beh]
    split
    · have := beh_all l lev k (i + 1) (by omega)
      exact ⟨by omega, fun _ => this.2 (by omega)⟩
    · exact ⟨Nat.le_refl _, id⟩
theorem beh_le {l : List Sp} {lev : Int} {i : Nat} (h : i ≤ l.length) : beh l lev i ≤ l.length := (beh_all l lev _ i (Nat.le_refl _)).2 h
theorem stt_le (l : List Sp) (lev : Int) : ∀ i, -1 ≤ stt l lev i ∧ stt l lev i < (i : Nat) + 1
  | 0 => by unfold stt; omega
  | i + 1 => by
    have := stt_le l lev i
    unfold stt
    split
    · split <;> omega
    · omega
/-- a new node -/
def putS (K : Wk) (a : Nat) (lev : Int) : Wk := { K with ls := K.ls.take a ++ [⟨K.names, lev, false, 0, 0, 0⟩] ++ K.ls.drop a, anchor := K.names, names := K.names + 1 }

/-! in memory -/
def Sp.cs (x : Sp) : List Value := [.int .i64 x.name, .int .i64 x.str, .bool x.old, .int .i64 x.p, .int .i64 x.s, .int .i64 x.t]
def spsC (l : List Sp) : List Value := l.flatMap Sp.cs
theorem spsC_app (l l' : List Sp) : spsC (l ++ l') = spsC l ++ spsC l' := by simp [spsC]
theorem spsC_len : ∀ l : List Sp, (spsC l).length = l.length * 6
  | [] => rfl
  | x :: l => by
    have := spsC_len l
    show (x.cs ++ spsC l).length = _
    rw [List.length_append, this, List.length_cons]
    show 6 + _ = _
    omega
theorem spsC_at : ∀ (l : List Sp) (i : Nat), i < l.length → ∀ k, k < 6 → (spsC l)[i * 6 + k]? = (l.getD i default).cs[k]?
  | [], i, h, _, _ => by simp at h
  | x :: l, 0, _, k, hk => by
    show (x.cs ++ spsC l)[0 * 6 + k]? = _
    rw [List.getElem?_append_left (by show _ < 6; omega), Nat.zero_mul, Nat.zero_add]
    rfl
  | x :: l, i + 1, h, k, hk => by
    have h' : i < l.length := by simpa using h
    show (x.cs ++ spsC l)[(i + 1) * 6 + k]? = _
    rw [List.getElem?_append_right (by show 6 ≤ _; omega)]
    rw [show (i + 1) * 6 + k - x.cs.length = i * 6 + k by show _ - 6 = _; omega, spsC_at l i h' k hk]
    rfl
/-- the list as it lies there -/
structure ListIn (w : World) (la : Option Addr) (gv : Nat) (l : List Sp) : Prop where
  addr : 0 < l.length → la = some ⟨gv, 0, none⟩
  name : ∀ i, i < l.length → w.cell? ⟨gv, i * 6, none⟩ = some (.int .i64 (l.getD i default).name)
  str : ∀ i, i < l.length → w.cell? ⟨gv, i * 6 + 1, none⟩ = some (.int .i64 (l.getD i default).str)
  old : ∀ i, i < l.length → w.cell? ⟨gv, i * 6 + 2, none⟩ = some (.bool (l.getD i default).old)
  p : ∀ i, i < l.length → w.cell? ⟨gv, i * 6 + 3, none⟩ = some (.int .i64 (l.getD i default).p)
  s : ∀ i, i < l.length → w.cell? ⟨gv, i * 6 + 4, none⟩ = some (.int .i64 (l.getD i default).s)
  t : ∀ i, i < l.length → w.cell? ⟨gv, i * 6 + 5, none⟩ = some (.int .i64 (l.getD i default).t)
theorem list_in {w : World} {base : Nat} {la : Option Addr} {lc : Nat} {l : List Sp} (ho : w.ownsRow base 129 6 (.slice la l.length lc) l.length (spsC l)) : ∃ gv, ListIn w la gv l := by
  obtain ⟨vo, vc, gv, hv, ha, hc⟩ := ownC_cells ho
  injection hv with hv1 _ _
  have cell : ∀ i, i < l.length → ∀ k u, k < 6 → (l.getD i default).cs[k]? = some u → w.cell? ⟨gv, i * 6 + k, none⟩ = some u := fun i hi k u hk hu => hc _ u (by omega) (by rw [spsC_at l i hi k hk]; exact hu)
  exact ⟨gv, fun h => by rw [hv1]; exact (ha h).1, fun i hi => cell i hi 0 _ (by omega) rfl, fun i hi => cell i hi 1 _ (by omega) rfl, fun i hi => cell i hi 2 _ (by omega) rfl, fun i hi => cell i hi 3 _ (by omega) rfl, fun i hi => cell i hi 4 _ (by omega) rfl, fun i hi => cell i hi 5 _ (by omega) rfl⟩

set_option maxRecDepth 100000 in
set_option maxHeartbeats 1000000 in
theorem place_any (g : Nat) (la : Option Addr) (lc gv : Nat) (l : List Sp) (nm : Int) (w : World) (hl : l.length ≤ 1000) (hg : w.cell? ⟨g, 0, none⟩ = some (.slice la l.length lc)) (h : ListIn w la gv l) :
    Calls Tryz.prog 94 #[.pointer (some ⟨g, 0, none⟩), .int .i64 nm] w fun e w' => e = .returned (.int .i64 (plc l nm)) ∧ w' = w := by
  obtain ⟨r, hr⟩ : ∃ r, r = plc l nm := ⟨_, rfl⟩
  have HR : Hid (r = plc l nm) := hr
  rw [← hr]
  clear hr
  have HL : Hid (ListIn w la gv l) := h
  clear h
  obtain ⟨n, hn⟩ : ∃ n, n = l.length := ⟨_, rfl⟩
  have HN : Hid (n = l.length) := hn
  rw [← hn] at hl hg
  clear hn
  go_enter Tryz.func94, Tryz.ntmps94
  go_wp2
  go_loopw [5] (fun iv wr => ∃ i : Nat, Hid (∀ j, j < i → (l.getD j default).name ≠ nm) ∧ i ≤ n ∧ iv = .int .i64 (i : Nat) ∧ wr = w) (fun iv _ => n - (intOf iv).toNat)
  case atStart => exact ⟨0, fun j hj => by omega, Nat.zero_le _, rfl, rfl⟩
  case round =>
    obtain ⟨i, HJ, hi, rfl, hw⟩ := hrel
    obtain rfl := hw.symm
    clear hw
    by_cases hlt : i < n
    · have hlt' : i < l.length := by rw [← HN.out]; exact hlt
      have ha := HL.out.addr (by omega)
      subst ha
      have c0 := HL.out.name i hlt'
      obtain ⟨x, hx⟩ : ∃ x, x = (l.getD i default).name := ⟨_, rfl⟩
      rw [← hx] at c0
      by_cases hxn : x = nm
      · have HE : Hid (r = (i : Nat)) := by show _ = _; rw [HR.out]; exact plc_at hlt' (by rw [← hx]; exact hxn) HJ.out
        subst hxn
        clear hx hlt'
        go_wp2
        go_ret
        exact ⟨by rw [HE.out]; rfl, rfl⟩
      · have HJ' : Hid (∀ j, j < i + 1 → (l.getD j default).name ≠ nm) := fun j hj => by
          by_cases e : j = i
          · rw [e, ← hx]; exact hxn
          · exact HJ.out j (by omega)
        have hxn' : (x == nm) = false := beq_eq_false_iff_ne.2 hxn
        clear hx hxn hlt'
        go_wp2
        go_roundw
        case rel => exact ⟨i + 1, HJ', by omega, by go_num, by trivial⟩
        case measure => simp [intOf]; omega
    · have hie : i = n := by omega
      have HE : Hid (r = -1) := by show _ = _; rw [HR.out]; exact plc_no (by rw [← HN.out, ← hie]; exact HJ.out)
      clear hie
      go_wp2
      go_ret
      exact ⟨by rw [HE.out]; rfl, rfl⟩

end Go.Proofs.YtpclldccjpncdabGreat

namespace Go.Proofs.YtpclldccjpncdabGreat
open Go.RowKit

set_option maxHeartbeats 1000000 in
theorem strength_any (p s t p' s' t' : Int) (w : World) :
    Calls Tryz.prog 89 #[.agg #[.int .i64 p, .int .i64 s, .int .i64 t], .agg #[.int .i64 p', .int .i64 s', .int .i64 t']] w fun e w' => e = .returned (.int .i64 (stI p s t p' s' t')) ∧ Below w.heap.size w w' := by
  obtain ⟨r, hr⟩ : ∃ r, r = partsI p s t p' s' t' := ⟨_, rfl⟩
  obtain ⟨q, hq⟩ : ∃ q, q = stI p s t p' s' t' := ⟨_, rfl⟩
  have HC : Hid (∀ wz, Calls Tryz.prog 68 #[.agg #[.int .i64 p, .int .i64 s, .int .i64 t], .agg #[.int .i64 p', .int .i64 s', .int .i64 t']] wz fun e w' => e = .returned (.int .i64 r) ∧ Below wz.heap.size wz w') := fun wz => by rw [hr]; exact refParts_any p s t p' s' t' wz
  rw [← hq]
  by_cases h0 : r = 0
  · have HE : Hid (q = 3) := by
      show _ = _
      rw [hq]
      unfold stI
      unfold partsI at hr
      repeat' split at hr
      all_goals first | omega | (rw [if_neg (by assumption), if_neg (by assumption)])
    subst h0
    clear hr hq
    go_enter Tryz.func89, Tryz.ntmps89
    go_wp2_with fail
    refine (HC.out _).mono ?_
    rintro e w1 ⟨rfl, hb1⟩
    go_wp2
    go_ret
    exact ⟨by rw [HE.out]; rfl, below_then (below_then (below_one _) (below_one _)) hb1⟩
  · have HE : Hid (q = r) := by
      show _ = _
      rw [hq]
      unfold stI
      unfold partsI at hr
      repeat' split at hr
      all_goals first
        | (exact absurd hr h0)
        | (rw [if_pos (by assumption)]; exact hr.symm)
        | (rw [if_neg (by assumption), if_pos (by assumption)]; exact hr.symm)
        | (rw [if_neg (by assumption), if_neg (by assumption)]; exact hr.symm)
    have h0' : (r == 0) = false := beq_eq_false_iff_ne.2 h0
    clear hr hq h0
    go_enter Tryz.func89, Tryz.ntmps89
    go_wp2_with fail
    refine (HC.out _).mono ?_
    rintro e w1 ⟨rfl, hb1⟩
    go_wp2
    go_ret
    exact ⟨by rw [HE.out]; rfl, below_then (below_then (below_one _) (below_one _)) hb1⟩

set_option maxRecDepth 100000 in
set_option maxHeartbeats 1000000 in
theorem start_any (g : Nat) (la : Option Addr) (lc gv : Nat) (l : List Sp) (an lev : Int) (w : World) (hl : l.length ≤ 1000) (hg : w.cell? ⟨g, 0, none⟩ = some (.slice la l.length lc)) (hg3 : w.cell? ⟨g, 3, none⟩ = some (.int .i64 an)) (h : ListIn w la gv l) :
    Calls Tryz.prog 92 #[.pointer (some ⟨g, 0, none⟩), .int .i64 lev] w fun e w' => e = .returned (.int .i64 (startS l an lev)) ∧ w' = w := by
  obtain ⟨r, hr⟩ : ∃ r, r = startS l an lev := ⟨_, rfl⟩
  rw [← hr]
  have HL : Hid (ListIn w la gv l) := h
  have hp := plc_le l an
  obtain ⟨a, ha⟩ : ∃ a, a = plc l an := ⟨_, rfl⟩
  have HP : Hid (∀ wz, wz = w → Calls Tryz.prog 94 #[.pointer (some ⟨g, 0, none⟩), .int .i64 an] wz fun e w' => e = .returned (.int .i64 a) ∧ w' = wz) := fun wz hz => by rw [ha, hz]; exact place_any g la lc gv l an w hl hg h
  rw [← ha] at hp
  have HR : Hid (r = stt l lev (a + 1).toNat) := by show _ = _; rw [hr, startS, ha]
  clear h hr ha
  obtain ⟨n, hn⟩ : ∃ n, n = l.length := ⟨_, rfl⟩
  have HN : Hid (n = l.length) := hn
  rw [← hn] at hl hg hp
  clear hn
  obtain ⟨hp1, hp2⟩ := hp
  go_enter Tryz.func92, Tryz.ntmps92
  go_wp2_with fail
  refine (HP.out _ rfl).mono ?_
  rintro e w1 ⟨rfl, hw1⟩
  obtain rfl := hw1.symm
  clear hw1
  go_wp2
  go_loopw [5] (fun iv wr => ∃ i : Int, Hid (r = stt l lev (i + 1).toNat) ∧ -1 ≤ i ∧ i < n ∧ iv = .int .i64 i ∧ wr = w) (fun iv _ => (intOf iv + 1).toNat)
  case atStart => exact ⟨a, HR, hp1, hp2, rfl, rfl⟩
  case round =>
    obtain ⟨i, HI, hi1, hi2, rfl, hw⟩ := hrel
    obtain rfl := hw.symm
    clear hw
    by_cases hge : 0 ≤ i
    · obtain ⟨k, hk⟩ : ∃ k : Nat, i = (k : Int) := ⟨i.toNat, by omega⟩
      subst hk
      have hlt' : k < l.length := by rw [← HN.out]; omega
      have had := HL.out.addr (by omega)
      subst had
      have c1 := HL.out.str k hlt'
      obtain ⟨x, hx⟩ : ∃ x, x = (l.getD k default).str := ⟨_, rfl⟩
      rw [← hx] at c1
      have hst : stt l lev ((k : Int) + 1).toNat = if x ≤ lev then (if x = lev then ((k : Nat) : Int) else -1) else stt l lev k := by
        rw [show ((k : Int) + 1).toNat = k + 1 by omega, stt, ← hx]
      by_cases hxl : x ≤ lev
      · by_cases hxe : x = lev
        · have HE : Hid (r = (k : Nat)) := by show _ = _; rw [HI.out, hst, if_pos hxl, if_pos hxe]
          have hxe' : (x == lev) = true := by simp [hxe]
          clear hx hst hlt' hxe
          go_wp2
          go_ret
          exact ⟨by rw [HE.out]; rfl, rfl⟩
        · have HE : Hid (r = -1) := by show _ = _; rw [HI.out, hst, if_pos hxl, if_neg hxe]
          have hxe' : (x == lev) = false := beq_eq_false_iff_ne.2 hxe
          clear hx hst hlt' hxe
          go_wp2
          go_ret
          exact ⟨by rw [HE.out]; rfl, rfl⟩
      · have HE : Hid (r = stt l lev ((k : Int) - 1 + 1).toNat) := by show _ = _; rw [HI.out, hst, if_neg hxl, show ((k : Int) - 1 + 1).toNat = k by omega]
        clear hx hst hlt'
        go_wp2
        go_roundw
        case rel => exact ⟨(k : Int) - 1, HE, by omega, by omega, rfl, by trivial⟩
        case measure => first | (simp [intOf]; done) | (simp [intOf]; omega)
    · have hie : i = -1 := by omega
      have HE : Hid (r = -1) := by show _ = _; rw [HI.out, hie]; rfl
      subst hie
      go_wp2
      go_ret
      exact ⟨by rw [HE.out]; rfl, rfl⟩

set_option maxRecDepth 100000 in
set_option maxHeartbeats 1000000 in
theorem behind_any (g : Nat) (la : Option Addr) (lc gv : Nat) (l : List Sp) (an lev : Int) (w : World) (hl : l.length ≤ 1000) (hg : w.cell? ⟨g, 0, none⟩ = some (.slice la l.length lc)) (hg3 : w.cell? ⟨g, 3, none⟩ = some (.int .i64 an)) (h : ListIn w la gv l) :
    Calls Tryz.prog 91 #[.pointer (some ⟨g, 0, none⟩), .int .i64 lev] w fun e w' => e = .returned (.int .i64 (behindS l an lev : Nat)) ∧ w' = w := by
  obtain ⟨r, hr⟩ : ∃ r, r = behindS l an lev := ⟨_, rfl⟩
  rw [← hr]
  have HL : Hid (ListIn w la gv l) := h
  have hp := plc_le l an
  obtain ⟨a, ha⟩ : ∃ a, a = plc l an := ⟨_, rfl⟩
  have HP : Hid (∀ wz, wz = w → Calls Tryz.prog 94 #[.pointer (some ⟨g, 0, none⟩), .int .i64 an] wz fun e w' => e = .returned (.int .i64 a) ∧ w' = wz) := fun wz hz => by rw [ha, hz]; exact place_any g la lc gv l an w hl hg h
  rw [← ha] at hp
  have HR : Hid (r = beh l lev (a + 1).toNat) := by show _ = _; rw [hr, behindS, ha]
  clear h hr ha
  obtain ⟨n, hn⟩ : ∃ n, n = l.length := ⟨_, rfl⟩
  have HN : Hid (n = l.length) := hn
  rw [← hn] at hl hg hp
  clear hn
  obtain ⟨hp1, hp2⟩ := hp
  go_enter Tryz.func91, Tryz.ntmps91
  go_wp2_with fail
  refine (HP.out _ rfl).mono ?_
  rintro e w1 ⟨rfl, hw1⟩
  obtain rfl := hw1.symm
  clear hw1
  go_wp2
  go_loopw [5] (fun iv wr => ∃ i : Nat, Hid (r = beh l lev i) ∧ i ≤ n ∧ iv = .int .i64 (i : Nat) ∧ wr = w) (fun iv _ => n - (intOf iv).toNat)
  case atStart => exact ⟨(a + 1).toNat, HR, by omega, by rw [show (((a + 1).toNat : Nat) : Int) = a + 1 by omega], rfl⟩
  case round =>
    obtain ⟨i, HI, hi, rfl, hw⟩ := hrel
    obtain rfl := hw.symm
    clear hw
    by_cases hlt : i < n
    · have hlt' : i < l.length := by rw [← HN.out]; exact hlt
      have had := HL.out.addr (by omega)
      subst had
      have c1 := HL.out.str i hlt'
      obtain ⟨x, hx⟩ : ∃ x, x = (l.getD i default).str := ⟨_, rfl⟩
      rw [← hx] at c1
      by_cases hxl : lev < x
      · have HE : Hid (r = beh l lev (i + 1)) := by show _ = _; rw [HI.out, beh, if_pos ⟨hlt', by rw [← hx]; exact hxl⟩]
        clear hx hlt'
        go_wp2
        go_roundw
        case rel => exact ⟨i + 1, HE, by omega, by go_num, by trivial⟩
        case measure => simp [intOf]; omega
      · have HE : Hid (r = i) := by show _ = _; rw [HI.out, beh, if_neg (fun h => hxl (by rw [hx]; exact h.2))]
        clear hx hlt'
        go_wp2
        go_ret
        exact ⟨by rw [HE.out]; rfl, rfl⟩
    · have HE : Hid (r = i) := by show _ = _; rw [HI.out, beh, if_neg (fun h => hlt (by rw [HN.out]; exact h.1))]
      go_wp2
      go_ret
      exact ⟨by rw [HE.out]; rfl, rfl⟩

end Go.Proofs.YtpclldccjpncdabGreat
