import Derived.Test.YtpclldccjpncdabB27
import Derived.ProofKit
import Derived.OpenShut
import Derived.SizedLaws
import Derived.Deep.Slices
namespace Go.Proofs.Ytpclldccjpncdab
open Go.RowKit

/-- a script as it lies in memory: op i lies from off + i * 7 on -/
structure OpsIn (B : Nat) (w : World) (ao : Option Addr) (n b off : Nat) (kind : Nat → Int) (T : Nat → Lay) (sa sb : Nat → ByteArray) (lev : Nat → Int) (ra : Nat → Option Addr) (rn rc : Nat → Nat) : Prop where
  addr : 0 < n → ao = some ⟨b, off, none⟩
  lt : 0 < n → b < B
  le : n * 120 ≤ 140737488351232
  c0 : ∀ i, i < n → w.cell? ⟨b, off + i * 7, none⟩ = some (.int .i64 (kind i))
  c1 : ∀ i, i < n → w.cell? ⟨b, off + i * 7 + 1, none⟩ = some (.slice (T i).na (T i).n (T i).nc)
  c2 : ∀ i, i < n → w.cell? ⟨b, off + i * 7 + 2, none⟩ = some (.slice (T i).ea (T i).m (T i).ec)
  c3 : ∀ i, i < n → w.cell? ⟨b, off + i * 7 + 3, none⟩ = some (.string (sa i))
  c4 : ∀ i, i < n → w.cell? ⟨b, off + i * 7 + 4, none⟩ = some (.string (sb i))
  c5 : ∀ i, i < n → w.cell? ⟨b, off + i * 7 + 5, none⟩ = some (.int .i64 (lev i))
  c6 : ∀ i, i < n → w.cell? ⟨b, off + i * 7 + 6, none⟩ = some (.slice (ra i) (rn i) (rc i))
  lay : ∀ i, i < n → (T i).In B w
  fit : ∀ i, i < n → (sa i).size ≤ 140737488351232
  rules : ∀ i, i < n → ∃ b' off' f, RulesIn B w (ra i) (rn i) b' off' f

end Go.Proofs.Ytpclldccjpncdab

namespace Go.Proofs.Ytpclldccjpncdab
open Go.RowKit Go.ChangeShapes

theorem cells_int : Try.prog.cellsOf 3 = 1 := by kernel_rfl
theorem cells_str : Try.prog.cellsOf 9 = 1 := by kernel_rfl
theorem cells_ints : Try.prog.cellsOf 22 = 1 := by kernel_rfl
theorem cells_node : Try.prog.cellsOf 60 = 3 := by kernel_rfl
theorem cells_entry : Try.prog.cellsOf 41 = 2 := by kernel_rfl
theorem cells_table : Try.prog.cellsOf 27 = 2 := by kernel_rfl
theorem cells_nodes : Try.prog.cellsOf 24 = 1 := by kernel_rfl
theorem cells_entries : Try.prog.cellsOf 25 = 1 := by kernel_rfl
theorem cells_rules : Try.prog.cellsOf 29 = 1 := by kernel_rfl
theorem bytes_int : Try.prog.bytesOf 3 = 8 := by kernel_rfl
theorem bytes_node : Try.prog.bytesOf 60 = 24 := by kernel_rfl
theorem bytes_entry : Try.prog.bytesOf 41 = 40 := by kernel_rfl
section
variable {H : Type} {enc : TypeId × Value → H} {w : World} {base : Nat} {spare : Nat → Bool} {held : Bool}

/-- every part is within the form's reach -/
def Fit (t : TypeId) (d : DataW H) : Prop := ∀ n ∈ d.weights Try.prog t, n ≤ 140737488351232

theorem weightsAll_mem {P : Program} {e : TypeId} : ∀ {l : List (DataW H)} {d : DataW H}, d ∈ l → ∀ n ∈ d.weights P e, n ∈ DataW.weightsAll P e l
  | x :: r, d, hd, n, hn => by
    simp only [DataW.weightsAll, List.mem_append]
    rcases List.mem_cons.1 hd with rfl | hd
    · exact .inl hn
    · exact .inr (weightsAll_mem hd n hn)

theorem Fit.slice {t e : TypeId} (hu : Try.prog.underlying t = some (.slice e)) {elems spare : List (DataW H)} (h : Fit t (.slice elems spare)) : (elems.length + spare.length) * Try.prog.bytesOf e ≤ 140737488351232 :=
  h _ (by simp [DataW.weights, hu])
theorem Fit.elem {t e : TypeId} (hu : Try.prog.underlying t = some (.slice e)) {elems spare : List (DataW H)} (h : Fit t (.slice elems spare)) {d : DataW H} (hd : d ∈ elems) : Fit e d := fun n hn =>
  h n (by simp only [DataW.weights, hu, List.mem_cons, List.mem_append]; exact .inr (.inl (weightsAll_mem hd n hn)))
theorem Fit.field {t : TypeId} {fs : Array Field} (hu : Try.prog.underlying t = some (.struct fs)) {parts : List (DataW H)} (h : Fit t (.agg parts)) {j : Nat} {f : Field} {d : DataW H} (hf : fs[j]? = some f) (hd : parts[j]? = some d) : Fit f.type d := fun n hn =>
  h n (by simp only [DataW.weights, hu]; exact DataW.weights_mem_each (j := j) (by simp [hf]) hd n hn)

theorem plain_of {a : Addr} {v : Value} (h : w.cell? (a.add 0) = some v) : a = ⟨a.block, a.off, none⟩ := by
  obtain ⟨b, off, spot⟩ := a
  have hspot : spot = none := by simpa [Addr.add] using World.cell?_spot h
  subst hspot
  rfl

theorem open_intsIn {fuel : Nat} {cs : List Value} {x : DataW H × List MemPlace} (h : DataW.trod enc Try.prog w base spare held fuel 22 cs = some x) (hfit : Fit 22 x.1) :
    ∃ ao k cap b off z, cs = [.slice ao k cap] ∧ IntsIn w.heap.size w ao k b off z := by
  rcases open_ints Try.underlying22 Try.underlying3 cells_int h with ⟨hcs, _⟩ | ⟨a, len, cap, zs, hcs, _, hl, hm, hz, hx, hcell, _⟩
  · exact ⟨none, 0, 0, 0, 0, fun _ => 0, hcs, ⟨by omega, by omega, by omega, by omega⟩⟩
  · have hle : len ≤ zs.length := by rw [hz]; split <;> omega
    rw [hx] at hfit
    have hsz := hfit.slice Try.underlying22
    rw [bytes_int] at hsz
    simp only [lits, List.length_map, List.length_take, List.length_drop] at hsz
    refine ⟨some a, len, cap, a.block, a.off, fun i => zs.getD i 0, hcs, ⟨fun h0 => ?_, fun h0 => ?_, fun i hi => ?_, by omega⟩⟩
    · have := hcell 0 (by omega)
      rw [← plain_of this]
    · have := hcell 0 (by omega)
      exact World.cells?_block (w := w) (base := 0) (a := a.add 0) (n := 1) (cs := [_]) (cells?_one (Nat.zero_le _) this) (by omega) |> (by simpa [Addr.add] using ·)
    · have h0 := plain_of (hcell 0 (by omega))
      have := hcell i (by omega)
      rw [h0, Go.WideShapes.add_plain] at this
      exact this

set_option maxRecDepth 100000 in
theorem open_node {fuel : Nat} {cs : List Value} {x : DataW H × List MemPlace} (h : DataW.trod enc Try.prog w base spare held fuel 60 cs = some x) : ∃ p s t, cs = [.int .i64 p, .int .i64 s, .int .i64 t] := by
  obtain ⟨xs, n, _, _, hlen, hxs, hf⟩ := DataW.trod_struct Try.underlying60 h
  rw [cells_node] at hlen
  match cs, hlen, xs, hxs, hf with
  | [c0, c1, c2], _, [y0, y1, y2], _, hf =>
    have h0 : DataW.trod enc Try.prog w base spare held n 3 (List.take (Try.prog.cellsOf 3) (List.drop 0 [c0, c1, c2])) = some y0 := hf 0 _ rfl
    have h1 : DataW.trod enc Try.prog w base spare held n 3 (List.take (Try.prog.cellsOf 3) (List.drop 1 [c0, c1, c2])) = some y1 := hf 1 _ rfl
    have h2 : DataW.trod enc Try.prog w base spare held n 3 (List.take (Try.prog.cellsOf 3) (List.drop 2 [c0, c1, c2])) = some y2 := hf 2 _ rfl
    simp only [cells_int] at h0 h1 h2
    obtain ⟨p, e0, _⟩ := DataW.trod_int Try.underlying3 h0
    obtain ⟨s, e1, _⟩ := DataW.trod_int Try.underlying3 h1
    obtain ⟨t, e2, _⟩ := DataW.trod_int Try.underlying3 h2
    simp at e0 e1 e2
    exact ⟨p, s, t, by rw [e0, e1, e2]⟩

/-- a slice of elements of c cells: the cells of each -/
theorem open_rows {t e : TypeId} {c : Nat} (ht : Try.prog.underlying t = some (.slice e)) (hc : Try.prog.cellsOf e = c) (hc0 : 0 < c) {fuel : Nat} {cs : List Value} {x : DataW H × List MemPlace} (h : DataW.trod enc Try.prog w base spare held fuel t cs = some x) (hfit : Fit t x.1) :
    ∃ ao n cap b off, cs = [.slice ao n cap] ∧ (0 < n → ao = some ⟨b, off, none⟩ ∧ b < w.heap.size) ∧ n * Try.prog.bytesOf e ≤ 140737488351232 ∧
      ∀ i, i < n → ∃ cs' m d, cs'.length = c ∧ (∀ j, j < c → w.cell? ⟨b, off + i * c + j, none⟩ = cs'[j]?) ∧ DataW.trod enc Try.prog w base spare held m e cs' = some d ∧ Fit e d.1 := by
  rcases Deep.open_slice ht h with ⟨hcs, _⟩ | ⟨a, len, cap, m, n, D, Pl, hcs, _, hl, _, hm, hx, hel⟩
  · exact ⟨none, 0, 0, 0, 0, hcs, by omega, by omega, by omega⟩
  · have hle : len ≤ m := by rw [hm]; split <;> omega
    rw [hx] at hfit
    have hsz := hfit.slice ht
    simp only [List.length_map, List.length_range] at hsz
    have hcells : ∀ i, i < len → ∃ cs', cs'.length = c ∧ (∀ j, j < c → w.cell? ((a.add (i * c)).add j) = cs'[j]?) ∧ DataW.trod enc Try.prog w base spare held n e cs' = some (D i, Pl i) := fun i hi => by
      obtain ⟨cs', h1, h2⟩ := hel i (by omega)
      rw [hc] at h1
      obtain ⟨_, h3, h4⟩ := World.cells?_some h1
      exact ⟨cs', h3, h4, h2⟩
    have hplain : 0 < len → a = ⟨a.block, a.off, none⟩ ∧ a.block < w.heap.size := fun h0 => by
      obtain ⟨cs', h1, h2, _⟩ := hcells 0 h0
      have h3 := h2 0 hc0
      rw [Nat.zero_mul] at h3
      have h4 : cs'[0]? = some (cs'.getD 0 undef) := by simp [List.getD, List.getElem?_eq_getElem (show 0 < cs'.length by omega)]
      rw [h4, show a.add 0 = a by simp [Addr.add]] at h3
      refine ⟨plain_of h3, ?_⟩
      have := World.cells?_block (w := w) (base := 0) (a := a.add 0) (n := 1) (cs := [_]) (cells?_one (Nat.zero_le _) h3) (by omega)
      simpa [Addr.add] using this
    refine ⟨some a, len, cap, a.block, a.off, hcs, fun h0 => ⟨by rw [← (hplain h0).1], (hplain h0).2⟩, Nat.le_trans (Nat.mul_le_mul_right _ (by omega)) hsz, fun i hi => ?_⟩
    obtain ⟨cs', h1, h2, h3⟩ := hcells i hi
    refine ⟨cs', n, _, h1, fun j hj => ?_, h3, hfit.elem ht (by simp; exact ⟨i, hi, rfl⟩)⟩
    have := h2 j hj
    rw [(hplain (by omega)).1, Go.WideShapes.add_plain, Go.WideShapes.add_plain] at this
    exact this

theorem open_nodesIn {fuel : Nat} {cs : List Value} {x : DataW H × List MemPlace} (h : DataW.trod enc Try.prog w base spare held fuel 24 cs = some x) (hfit : Fit 24 x.1) :
    ∃ ao n cap b off p s t, cs = [.slice ao n cap] ∧ NodesIn w.heap.size w ao n b off p s t := by
  obtain ⟨ao, n, cap, b, off, hcs, h1, h2, h3⟩ := open_rows Try.underlying24 cells_node (by omega) h hfit
  rw [bytes_node] at h2
  have h4 : ∀ i, i < n → ∃ q : Int × Int × Int, w.cell? ⟨b, off + i * 3, none⟩ = some (.int .i64 q.1) ∧ w.cell? ⟨b, off + i * 3 + 1, none⟩ = some (.int .i64 q.2.1) ∧ w.cell? ⟨b, off + i * 3 + 2, none⟩ = some (.int .i64 q.2.2) := fun i hi => by
    obtain ⟨cs', m, d, _, hc, ht, _⟩ := h3 i hi
    obtain ⟨p, s, t, rfl⟩ := open_node ht
    exact ⟨(p, s, t), hc 0 (by omega), hc 1 (by omega), hc 2 (by omega)⟩
  obtain ⟨F, hF⟩ := Deep.choose_lt h4
  exact ⟨ao, n, cap, b, off, fun i => (F i).1, fun i => (F i).2.1, fun i => (F i).2.2, hcs, ⟨fun h0 => (h1 h0).1, fun h0 => (h1 h0).2, fun i hi => (hF i hi).1, fun i hi => (hF i hi).2.1, fun i hi => (hF i hi).2.2, h2⟩⟩

structure EntD where
  tx : ByteArray
  la : Option Addr
  k : Nat
  lc : Nat
  lb : Nat
  lo : Nat
  z : Nat → Int
instance entD_some : Inhabited EntD := ⟨⟨ByteArray.empty, none, 0, 0, 0, 0, fun _ => 0⟩⟩

set_option maxRecDepth 100000 in
theorem open_entry {fuel : Nat} {cs : List Value} {x : DataW H × List MemPlace} (h : DataW.trod enc Try.prog w base spare held fuel 41 cs = some x) (hfit : Fit 41 x.1) : ∃ E : EntD, cs = [.string E.tx, .slice E.la E.k E.lc] ∧ IntsIn w.heap.size w E.la E.k E.lb E.lo E.z := by
  obtain ⟨xs, n, _, hx, hlen, hxs, hf⟩ := DataW.trod_struct Try.underlying41 h
  rw [cells_entry] at hlen
  rw [hx] at hfit
  match cs, hlen, xs, hxs, hf, hfit with
  | [c0, c1], _, [y0, y1], _, hf, hfit =>
    have h0 : DataW.trod enc Try.prog w base spare held n 9 (List.take (Try.prog.cellsOf 9) (List.drop 0 [c0, c1])) = some y0 := hf 0 _ rfl
    have h1 : DataW.trod enc Try.prog w base spare held n 22 (List.take (Try.prog.cellsOf 22) (List.drop 1 [c0, c1])) = some y1 := hf 1 _ rfl
    simp only [cells_str, cells_ints] at h0 h1
    obtain ⟨tx, e0, _⟩ := DataW.trod_string Try.underlying9 h0
    obtain ⟨ao, k, cap, b, off, z, e1, hi⟩ := open_intsIn h1 (hfit.field Try.underlying41 (j := 1) rfl rfl)
    simp at e0 e1
    exact ⟨⟨tx, ao, k, cap, b, off, z⟩, by rw [e0, e1], hi⟩

theorem open_entriesIn {fuel : Nat} {cs : List Value} {x : DataW H × List MemPlace} (h : DataW.trod enc Try.prog w base spare held fuel 25 cs = some x) (hfit : Fit 25 x.1) :
    ∃ ao m cap b off tx la k lc lb lo z, cs = [.slice ao m cap] ∧ EntriesIn w.heap.size w ao m b off tx la k lc lb lo z := by
  obtain ⟨ao, n, cap, b, off, hcs, h1, h2, h3⟩ := open_rows Try.underlying25 cells_entry (by omega) h hfit
  rw [bytes_entry] at h2
  have h4 : ∀ i, i < n → ∃ E : EntD, w.cell? ⟨b, off + i * 2, none⟩ = some (.string E.tx) ∧ w.cell? ⟨b, off + i * 2 + 1, none⟩ = some (.slice E.la E.k E.lc) ∧ IntsIn w.heap.size w E.la E.k E.lb E.lo E.z := fun i hi => by
    obtain ⟨cs', m, d, _, hc, ht, hfd⟩ := h3 i hi
    obtain ⟨E, rfl, hI⟩ := open_entry ht hfd
    exact ⟨E, hc 0 (by omega), hc 1 (by omega), hI⟩
  obtain ⟨F, hF⟩ := Deep.choose_lt h4
  exact ⟨ao, n, cap, b, off, fun i => (F i).tx, fun i => (F i).la, fun i => (F i).k, fun i => (F i).lc, fun i => (F i).lb, fun i => (F i).lo, fun i => (F i).z, hcs, ⟨fun h0 => (h1 h0).1, fun h0 => (h1 h0).2, fun i hi => (hF i hi).1, fun i hi => (hF i hi).2.1, fun i hi => (hF i hi).2.2, h2⟩⟩

instance lay_some : Inhabited Lay := ⟨⟨0, 0, none, none, 0, 0, 0, 0, 0, 0, fun _ => 0, fun _ => 0, fun _ => 0, fun _ => ByteArray.empty, fun _ => none, fun _ => 0, fun _ => 0, fun _ => 0, fun _ => 0, fun _ _ => 0⟩⟩

set_option maxRecDepth 100000 in
theorem open_table {fuel : Nat} {cs : List Value} {x : DataW H × List MemPlace} (h : DataW.trod enc Try.prog w base spare held fuel 27 cs = some x) (hfit : Fit 27 x.1) : ∃ L : Lay, cs = [.slice L.na L.n L.nc, .slice L.ea L.m L.ec] ∧ L.In w.heap.size w := by
  obtain ⟨xs, n, _, hx, hlen, hxs, hf⟩ := DataW.trod_struct Try.underlying27 h
  rw [cells_table] at hlen
  rw [hx] at hfit
  match cs, hlen, xs, hxs, hf, hfit with
  | [c0, c1], _, [y0, y1], _, hf, hfit =>
    have h0 : DataW.trod enc Try.prog w base spare held n 24 (List.take (Try.prog.cellsOf 24) (List.drop 0 [c0, c1])) = some y0 := hf 0 _ rfl
    have h1 : DataW.trod enc Try.prog w base spare held n 25 (List.take (Try.prog.cellsOf 25) (List.drop 1 [c0, c1])) = some y1 := hf 1 _ rfl
    simp only [cells_nodes, cells_entries] at h0 h1
    obtain ⟨na, n, nc, nb, no, p, s, t, e0, hn⟩ := open_nodesIn h0 (hfit.field Try.underlying27 (j := 0) rfl rfl)
    obtain ⟨ea, m, ec, eb, eo, tx, la, k, lc, lb, lo, z, e1, he⟩ := open_entriesIn h1 (hfit.field Try.underlying27 (j := 1) rfl rfl)
    simp at e0 e1
    exact ⟨⟨n, m, na, ea, nc, ec, nb, no, eb, eo, p, s, t, tx, la, k, lc, lb, lo, z⟩, by rw [e0, e1], ⟨hn, he⟩⟩

structure RuD where
  r : Rl
instance ruD_some : Inhabited RuD := ⟨⟨default⟩⟩
theorem cells_rule : Try.prog.cellsOf 48 = 5 := by kernel_rfl
theorem bytes_rule : Try.prog.bytesOf 48 = 64 := by kernel_rfl
theorem open_str {fuel : Nat} {cs : List Value} {x : DataW H × List MemPlace} (h : DataW.trod enc Try.prog w base spare held fuel 9 cs = some x) (hfit : Fit 9 x.1) : ∃ s : ByteArray, cs = [.string s] ∧ s.size ≤ 140737488351232 := by
  obtain ⟨s, e, d⟩ := DataW.trod_string Try.underlying9 h
  refine ⟨s, e, ?_⟩
  rw [d.1] at hfit
  have := hfit s.data.toList.length (by simp [DataW.weights])
  have e : s.data.toList.length = s.size := by rw [Array.length_toList]; rfl
  omega

set_option maxRecDepth 100000 in
theorem open_rule {fuel : Nat} {cs : List Value} {x : DataW H × List MemPlace} (h : DataW.trod enc Try.prog w base spare held fuel 48 cs = some x) (hfit : Fit 48 x.1) : ∃ r : Rl, cs = [.string r.reset, .int .i64 r.before, .int .i64 r.level, .string r.text, .string r.more] ∧ r.reset.size ≤ 140737488351232 ∧ r.text.size ≤ 140737488351232 ∧ r.more.size ≤ 140737488351232 := by
  obtain ⟨xs, n, _, hx, hlen, hxs, hf⟩ := DataW.trod_struct Try.underlying48 h
  rw [cells_rule] at hlen
  rw [hx] at hfit
  match cs, hlen, xs, hxs, hf, hfit with
  | [c0, c1, c2, c3, c4], _, [y0, y1, y2, y3, y4], _, hf, hfit =>
    have h0 : DataW.trod enc Try.prog w base spare held n 9 (List.take (Try.prog.cellsOf 9) (List.drop 0 [c0, c1, c2, c3, c4])) = some y0 := hf 0 _ rfl
    have h1 : DataW.trod enc Try.prog w base spare held n 3 (List.take (Try.prog.cellsOf 3) (List.drop 1 [c0, c1, c2, c3, c4])) = some y1 := hf 1 _ rfl
    have h2 : DataW.trod enc Try.prog w base spare held n 3 (List.take (Try.prog.cellsOf 3) (List.drop 2 [c0, c1, c2, c3, c4])) = some y2 := hf 2 _ rfl
    have h3 : DataW.trod enc Try.prog w base spare held n 9 (List.take (Try.prog.cellsOf 9) (List.drop 3 [c0, c1, c2, c3, c4])) = some y3 := hf 3 _ rfl
    have h4 : DataW.trod enc Try.prog w base spare held n 9 (List.take (Try.prog.cellsOf 9) (List.drop 4 [c0, c1, c2, c3, c4])) = some y4 := hf 4 _ rfl
    simp only [cells_str, cells_int] at h0 h1 h2 h3 h4
    obtain ⟨s0, e0, l0⟩ := open_str h0 (hfit.field Try.underlying48 (j := 0) rfl rfl)
    obtain ⟨n1, e1, _⟩ := DataW.trod_int Try.underlying3 h1
    obtain ⟨n2, e2, _⟩ := DataW.trod_int Try.underlying3 h2
    obtain ⟨s3, e3, l3⟩ := open_str h3 (hfit.field Try.underlying48 (j := 3) rfl rfl)
    obtain ⟨s4, e4, l4⟩ := open_str h4 (hfit.field Try.underlying48 (j := 4) rfl rfl)
    simp at e0 e1 e2 e3 e4
    exact ⟨⟨s0, n1, n2, s3, s4⟩, by rw [e0, e1, e2, e3, e4], l0, l3, l4⟩
theorem open_rules {fuel : Nat} {cs : List Value} {x : DataW H × List MemPlace} (h : DataW.trod enc Try.prog w base spare held fuel 29 cs = some x) (hfit : Fit 29 x.1) :
    ∃ ao n cap b off f, cs = [.slice ao n cap] ∧ RulesIn w.heap.size w ao n b off f := by
  obtain ⟨ao, n, cap, b, off, hcs, h1, h2, h3⟩ := open_rows Try.underlying29 cells_rule (by omega) h hfit
  rw [bytes_rule] at h2
  have h4 : ∀ i, i < n → ∃ R : RuD, (w.cell? ⟨b, off + i * 5, none⟩ = some (.string R.r.reset) ∧ w.cell? ⟨b, off + i * 5 + 1, none⟩ = some (.int .i64 R.r.before) ∧ w.cell? ⟨b, off + i * 5 + 2, none⟩ = some (.int .i64 R.r.level) ∧ w.cell? ⟨b, off + i * 5 + 3, none⟩ = some (.string R.r.text) ∧ w.cell? ⟨b, off + i * 5 + 4, none⟩ = some (.string R.r.more)) ∧
      (R.r.reset.size ≤ 140737488351232 ∧ R.r.text.size ≤ 140737488351232 ∧ R.r.more.size ≤ 140737488351232) := fun i hi => by
    obtain ⟨cs', m, d, _, hc, ht, hfd⟩ := h3 i hi
    obtain ⟨r, rfl, hl⟩ := open_rule ht hfd
    exact ⟨⟨r⟩, ⟨hc 0 (by omega), hc 1 (by omega), hc 2 (by omega), hc 3 (by omega), hc 4 (by omega)⟩, hl⟩
  obtain ⟨F, hF⟩ := Deep.choose_lt h4
  exact ⟨ao, n, cap, b, off, fun i => (F i).r, hcs, ⟨fun h0 => (h1 h0).1, fun h0 => (h1 h0).2, fun i hi => (hF i hi).1.1, fun i hi => (hF i hi).1.2.1, fun i hi => (hF i hi).1.2.2.1, fun i hi => (hF i hi).1.2.2.2.1, fun i hi => (hF i hi).1.2.2.2.2, h2, fun i hi => (hF i hi).2⟩⟩

structure OpD where
  kind : Int
  T : Lay
  sa : ByteArray
  sb : ByteArray
  lev : Int
  ra : Option Addr
  rn : Nat
  rc : Nat
instance opD_some : Inhabited OpD := ⟨⟨0, default, ByteArray.empty, ByteArray.empty, 0, none, 0, 0⟩⟩

end
end Go.Proofs.Ytpclldccjpncdab

namespace Go.Proofs.Ytpclldccjpncdab
open Go.RowKit Go.ChangeShapes

theorem keepKnob : ownKnob Try.prog.godebug = none := by kernel_rfl
theorem keepLaid : laidOutB Try.prog = true := by kernel_rfl
theorem wf_range {n : Int} (h : (Lit.int .i64 n).wf = true) : -9223372036854775808 ≤ n ∧ n ≤ 9223372036854775807 := by
  simp only [Lit.wf, Bool.and_eq_true, decide_eq_true_eq] at h
  exact h

theorem open_raw {H : Type} {enc : TypeId × Value → H} {w : World} {base : Nat} {spare : Nat → Bool} {held : Bool} {fuel : Nat} {cs : List Value} {x : DataW H × List MemPlace} (h : DataW.trod enc Try.prog w base spare held fuel 22 cs = some x) (hfit : Fit 22 x.1) :
    ∃ ao k cap b off z, cs = [.slice ao k cap] ∧ RawIn w.heap.size w ao k b off z := by
  rcases open_ints Try.underlying22 Try.underlying3 cells_int h with ⟨hcs, _⟩ | ⟨a, len, cap, zs, hcs, _, hl, hm, hz, hx, hcell, hwf⟩
  · exact ⟨none, 0, 0, 0, 0, fun _ => 0, hcs, ⟨⟨by omega, by omega, by omega, by omega⟩, by omega⟩⟩
  · have hle : len ≤ zs.length := by rw [hz]; split <;> omega
    rw [hx] at hfit
    have hsz := hfit.slice Try.underlying22
    rw [bytes_int] at hsz
    simp only [lits, List.length_map, List.length_take, List.length_drop] at hsz
    refine ⟨some a, len, cap, a.block, a.off, fun i => zs.getD i 0, hcs, ⟨⟨fun h0 => ?_, fun h0 => ?_, fun i hi => ?_, by omega⟩, fun i hi => wf_range (hwf _ ?_)⟩⟩
    · have := hcell 0 (by omega)
      rw [← plain_of this]
    · have := hcell 0 (by omega)
      exact World.cells?_block (w := w) (base := 0) (a := a.add 0) (n := 1) (cs := [_]) (cells?_one (Nat.zero_le _) this) (by omega) |> (by simpa [Addr.add] using ·)
    · have h0 := plain_of (hcell 0 (by omega))
      have := hcell i (by omega)
      rw [h0, Go.WideShapes.add_plain] at this
      exact this
    · simp [List.getD_eq_getElem?_getD, show i < zs.length by omega]

end Go.Proofs.Ytpclldccjpncdab
