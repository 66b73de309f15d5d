import Derived.Test.YtpclldccjpncdabGreatM07
namespace Go.Proofs.YtpclldccjpncdabGreat
open Go.RowKit

theorem foundC_len (m : Nat) (tx : Nat → ByteArray) (la : Nat → Option Addr) (k lc : Nat → Nat) (s : ByteArray) : ∀ q, (foundC m tx la k lc s q).length = q * 2
  | 0 => by simp [foundC]
  | q + 1 => by rw [foundC_succ, List.length_append, foundC_len m tx la k lc s q]; simp; omega
theorem foundC_at (m : Nat) (tx : Nat → ByteArray) (la : Nat → Option Addr) (k lc : Nat → Nat) (s : ByteArray) (j : Nat) : ∀ q, j < q →
    (foundC m tx la k lc s q)[j * 2]? = some (.string (tx (pidx m tx s j))) ∧ (foundC m tx la k lc s q)[j * 2 + 1]? = some (.slice (la (pidx m tx s j)) (k (pidx m tx s j)) (lc (pidx m tx s j)))
  | 0, h => by omega
  | q + 1, h => by
    have hl := foundC_len m tx la k lc s q
    rw [foundC_succ]
    by_cases e : j = q
    · subst e
      rw [List.getElem?_append_right (by omega), List.getElem?_append_right (by omega), hl]
      simp
    · rw [List.getElem?_append_left (by omega), List.getElem?_append_left (by omega)]
      exact foundC_at m tx la k lc s j q (by omega)
theorem own_cells {w : World} {base : Nat} {e : TypeId} {size : Nat} {v : Value} {n : Nat} {xs : List Value} (ho : w.ownsRow base e size v n xs) :
    ∃ vo vc gv, v = .slice vo n vc ∧ (0 < n → vo = some ⟨gv, 0, none⟩ ∧ gv < w.heap.size ∧ base ≤ gv) ∧ ∀ c u, c < n * size → xs[c]? = some u → w.cell? ⟨gv, c, none⟩ = some u := by
  obtain ⟨_, h2⟩ := ho
  rcases h2 with ⟨hv, h0⟩ | ⟨g, cap, cur, hv, hb, hh, hnc, _, hcs, ht⟩
  · exact ⟨none, 0, 0, by rw [hv, h0], by omega, fun c u hc => by subst h0; omega⟩
  · refine ⟨_, cap, g, hv, fun _ => ⟨rfl, (Array.getElem?_eq_some_iff.1 hh).1, hb⟩, fun c u hc hx => ?_⟩
    rw [← ht, List.getElem?_take, if_pos hc] at hx
    simp only [Array.getElem?_toList] at hx
    simp [World.cell?, hh, hx]

theorem cut_in (m cap b off : Nat) (ao : Option Addr) (tx : Nat → ByteArray) (la : Nat → Option Addr) (k lc lb lo : Nat → Nat) (z : Nat → Nat → Int) (s : ByteArray) (w : World) (hm : m ≤ 48) (hs : s.size ≤ 1000)
    (ht : ∀ i, i < m → 1 ≤ (tx i).size ∧ (tx i).size ≤ 3) (h : EntriesIn w.heap.size w ao m b off tx la k lc lb lo z) :
    Calls Tryz.prog 69 #[.slice ao m cap, .string s] w fun e w' => ∃ q, Cut m tx s q ∧ Below w.heap.size w w' ∧
      ((pos m tx s q = s.size ∧ ∃ vo vc gv, e = .returned (.tuple #[.slice vo q vc, .bool true]) ∧ EntriesIn w'.heap.size w' vo q gv 0 (fun j => tx (pidx m tx s j)) (fun j => la (pidx m tx s j)) (fun j => k (pidx m tx s j)) (fun j => lc (pidx m tx s j)) (fun j => lb (pidx m tx s j)) (fun j => lo (pidx m tx s j)) (fun j => z (pidx m tx s j))) ∨
       (pos m tx s q ≠ s.size ∧ e = .returned (.tuple #[.slice none 0 0, .bool false]))) := by
  refine (cut_any m cap b off ao tx la k lc lb lo z s w hm hs ht h).mono ?_
  rintro e w' ⟨q, hq, hb, hor⟩
  refine ⟨q, hq, hb, ?_⟩
  rcases hor with ⟨h1, v, rfl, ho⟩ | h2
  · obtain ⟨vo, vc, gv, rfl, ha, hc⟩ := own_cells ho
    refine .inl ⟨h1, vo, vc, gv, rfl, ⟨fun h0 => (ha h0).1, fun h0 => (ha h0).2.1, fun i hi => ?_, fun i hi => ?_, fun i hi => ?_, ?_⟩⟩
    · have := hc (i * 2) _ (by omega) (foundC_at m tx la k lc s i q hi).1
      simpa using this
    · have := hc (i * 2 + 1) _ (by omega) (foundC_at m tx la k lc s i q hi).2
      simpa using this
    · have := pidx_spec hq.go hi
      exact ((h.ints _ this.1).below hb).mono hb.size
    · have h3 := pos_ge q hq.go
      have h4 := pos_le m tx s q
      omega
  · exact .inr h2

/-! ### what a valid table has -/
structure Lay.Ok (L : Lay) : Prop where
  n : L.n ≤ 48
  m : L.m ≤ 48
  tx : ∀ i, i < L.m → 1 ≤ (L.tx i).size ∧ (L.tx i).size ≤ 3
  k : ∀ i, i < L.m → 1 ≤ L.k i ∧ L.k i ≤ 4
  z : ∀ i, i < L.m → ∀ j, j < L.k i → 0 ≤ L.z i j ∧ L.z i j < L.n
  node : ∀ i, i < L.n → nodeB (L.p i) (L.s i) (L.t i) = true
theorem err_zero {L : Lay} (h : L.err = 0) : L.Ok := by
  unfold Lay.err at h
  by_cases h1 : 48 < L.n ∨ 48 < L.m
  · rw [if_pos h1] at h; omega
  · rw [if_neg h1] at h
    by_cases h2 : nodesB L.n L.p L.s L.t = false
    · rw [if_pos h2] at h; omega
    · rw [if_neg h2] at h
      by_cases h3 : entriesB L.m L.tx L.k L.z L.n = false
      · rw [if_pos h3] at h; omega
      · have h4 : nodesOk L.n L.p L.s L.t := by simpa [nodesB] using h2
        have h5 : entriesOk L.m L.tx L.k L.z L.n := by simpa [entriesB] using h3
        have h6 : ∀ i, i < L.m → entryOk (L.tx i).size (L.k i) (L.z i) L.n := fun i hi => by simpa [entryB] using (h5 i hi).1
        exact ⟨by omega, by omega, fun i hi => (h6 i hi).1, fun i hi => (h6 i hi).2.1, fun i hi j hj => (h6 i hi).2.2 j hj, fun i hi => (h4 i hi).1⟩

/-- texts in memory -/
structure StrsIn (B : Nat) (w : World) (ao : Option Addr) (k b off : Nat) (u : Nat → ByteArray) : Prop where
  addr : 0 < k → ao = some ⟨b, off, none⟩
  lt : 0 < k → b < B
  cell : ∀ i, i < k → w.cell? ⟨b, off + i, none⟩ = some (.string (u i))
  le : k ≤ 1000
theorem StrsIn.below {B : Nat} {w w' : World} {ao : Option Addr} {k b off : Nat} {u : Nat → ByteArray} (h : StrsIn B w ao k b off u) (hb : Below B w w') : StrsIn B w' ao k b off u :=
  ⟨h.addr, h.lt, fun i hi => (hb.cell (by exact h.lt (by omega))).trans (h.cell i hi), h.le⟩
theorem StrsIn.mono {B B' : Nat} {w : World} {ao : Option Addr} {k b off : Nat} {u : Nat → ByteArray} (h : StrsIn B w ao k b off u) (hB : B ≤ B') : StrsIn B' w ao k b off u :=
  ⟨h.addr, fun h0 => Nat.lt_of_lt_of_le (h.lt h0) hB, h.cell, h.le⟩

/-- the answer of Pieces: the value, the error -/
def PiecesAns (L : Lay) (s : ByteArray) (v : Value) (er : Int) (w' : World) : Prop :=
  (L.err ≠ 0 ∧ v = .slice none 0 0 ∧ er = L.err) ∨ (L.err = 0 ∧ 24 < s.size ∧ v = .slice none 0 0 ∧ er = 4) ∨
  (L.err = 0 ∧ s.size ≤ 24 ∧ ∃ q, Cut L.m L.tx s q ∧ ((pos L.m L.tx s q ≠ s.size ∧ v = .slice none 0 0 ∧ er = 6) ∨ (pos L.m L.tx s q = s.size ∧ er = 0 ∧ ∃ ao cap b off, v = .slice ao q cap ∧ StrsIn w'.heap.size w' ao q b off (piece L.m L.tx s))))

end Go.Proofs.YtpclldccjpncdabGreat

namespace Go.Proofs.YtpclldccjpncdabGreat
open Go.RowKit

theorem infoStr : (Tryz.prog.info? 9).map (fun i => (i.zero, i.size, i.bytes)) = some (some (.string ByteArray.empty), 1, 16) := by kernel_rfl
theorem strs_of_own {w : World} {base : Nat} {e : TypeId} {v : Value} {n : Nat} {u : Nat → ByteArray} (hn : n ≤ 1000) (ho : w.ownsRow base e 1 v n ((List.range n).map fun j => .string (u j))) : ∃ ao cap b, v = .slice ao n cap ∧ StrsIn w.heap.size w ao n b 0 u := by
  obtain ⟨vo, vc, gv, rfl, ha, hc⟩ := own_cells ho
  refine ⟨vo, vc, gv, rfl, ⟨fun h0 => (ha h0).1, fun h0 => (ha h0).2.1, fun i hi => ?_, hn⟩⟩
  have := hc i (.string (u i)) (by omega) (by simp [hi])
  simpa using this

set_option maxRecDepth 100000 in
set_option maxHeartbeats 1000000 in
theorem tablePieces_any (L : Lay) (s : ByteArray) (w : World) (h : L.In w.heap.size w) :
    Calls Tryz.prog 39 #[.agg #[.slice L.na L.n L.nc, .slice L.ea L.m L.ec], .string s] w fun e w' => ∃ v er, e = .returned (.tuple #[v, .int .i64 er]) ∧ PiecesAns L s v er w' ∧ Below w.heap.size w w' := by
  have HL : Hid (∀ w', Below w.heap.size w w' → L.In w'.heap.size w') := fun w' hb => h.later hb
  clear h
  by_cases he : L.err = 0
  · by_cases hs : s.size ≤ 24
    · have hok := err_zero he
      have hm := hok.m
      have htx := hok.tx
      have HOK : Hid (L.Ok) := hok
      have HTX : Hid (∀ i, i < L.m → 1 ≤ (L.tx i).size ∧ (L.tx i).size ≤ 3) := htx
      clear hok htx
      obtain ⟨i0, hi0, hq0, hq1, hq2⟩ := info_parts infoStr
      go_enter Tryz.func39, Tryz.ntmps39
      go_wp2_with (first
        | (go_at_call 36; refine (tableValid_any L _ (HL.out _ (below_one _))).mono ?_; rintro e w1 ⟨rfl, hb1⟩; obtain ⟨hc, hf⟩ := bcell hb1; have hz1 : w.heap.size < w1.heap.size := by have := hb1.size; simp at this; omega))
      have HIN : Hid (L.In w1.heap.size w1) := HL.out _ (below_then (below_one _) hb1)
      refine (cut_in L.m _ _ _ _ L.tx L.la L.k L.lc L.lb L.lo L.z s w1 hm (by omega) HTX.out HIN.out.entries).mono ?_
      rintro e w2 ⟨q, hq, hb2, hor⟩
      have hq1' := pos_ge q hq.go
      have hq2' := pos_le L.m L.tx s q
      have HQ : Hid (Cut L.m L.tx s q) := hq
      have hqs : q ≤ 24 := by omega
      have HBW : Hid (Below w.heap.size w w2) := below_then (below_then (below_one _) hb1) hb2
      clear hq hq1' hq2'
      rcases hor with ⟨hp, vo, vc, gv, rfl, hein⟩ | ⟨hp, rfl⟩
      · have HP : Hid (pos L.m L.tx s q = s.size) := hp
        have HF := hein
        have HFI : Hid (EntriesIn w2.heap.size w2 vo q gv 0 (fun j => L.tx (pidx L.m L.tx s j)) (fun j => L.la (pidx L.m L.tx s j)) (fun j => L.k (pidx L.m L.tx s j)) (fun j => L.lc (pidx L.m L.tx s j)) (fun j => L.lb (pidx L.m L.tx s j)) (fun j => L.lo (pidx L.m L.tx s j)) (fun j => L.z (pidx L.m L.tx s j))) := hein
        clear hein HF hp hc hf
        go_wp2
        go_loopw [9, 10] (fun v iv wr => ∃ i : Nat, i ≤ q ∧ iv = .int .i64 i ∧ Below w2.heap.size w2 wr ∧ wr.ownsRow w2.heap.size 9 1 v i ((List.range i).map fun j => .string (piece L.m L.tx s j))) (fun _ iv _ => q - (intOf iv).toNat)
        case atStart => exact ⟨0, Nat.zero_le _, rfl, Below.refl _ _, World.ownsRow_nil _ _ _ _⟩
        case round =>
          obtain ⟨i, hi, rfl, hbel, hown⟩ := hrel
          have HOWN : Hid (wr.ownsRow w2.heap.size 9 1 _ i ((List.range i).map fun j => .string (piece L.m L.tx s j))) := hown
          clear hown
          have hsz := hbel.size
          by_cases hlt : i < q
          · have ha := HFI.out.addr (by omega)
            subst ha
            have c0 := cellTo hbel (HFI.out.text i hlt) (HFI.out.lt (by omega))
            simp only [Nat.zero_add] at c0
            rw [(pidx_spec HQ.out.go hlt).2] at c0
            go_wp2_with (first
              | (at_builtin; refine wpList_append_lies _ (by rfl) (.tmp 34) (.tmp 40) 40 (by rfl) w2.heap.size 9 i0 (.string ByteArray.empty) 1 16 Tryz.underlying40 hi0 hq0 hq1 hq2 rfl (by omega) _ i _ (by rfl) (HOWN.out.alloc _) ⟨wr.heap.size, 0, none⟩ 1 1 [.string (piece L.m L.tx s i)] (by rfl) (by rfl) ?c1 ?c2 (by omega) ?c3 ?c5 ?c4 (wr.heap.size + 1) (by simp) ?_))
            case c1 => exact cell_one_new _ _ _
            case c2 => intro u hu; simp at hu; subst hu; rfl
            case c3 => unfold maxLen; omega
            case c5 => omega
            case c4 => simp; omega
            · intro gv2 cap2 w3 hown2 hgrow _ _
              have HBN : Hid (Below w2.heap.size w2 w3) := (hbel.alloc hsz _).grown hgrow (by simp; omega) (fun r hr => by
                obtain ⟨_, ho⟩ := HOWN.out
                rcases ho with ⟨hv, _⟩ | ⟨b', _, _, hv, hb', _⟩
                · rw [hv] at hr; simp [Value.ownBlock] at hr
                · rw [hv] at hr; simp [Value.ownBlock] at hr; omega)
              have HO2 : Hid (w3.ownsRow w2.heap.size 9 1 (.slice (some ⟨gv2, 0, none⟩) (i + 1) cap2) (i + 1) ((List.range (i + 1)).map fun j => .string (piece L.m L.tx s j))) := by
                show _
                rw [List.range_succ, List.map_append]
                exact hown2
              clear hown2 hgrow c0
              go_wp2
              go_roundw
              case rel => exact ⟨i + 1, by omega, by go_num, HBN.out, HO2.out⟩
              case measure => simp [intOf]; omega
          · have hie : i = q := by omega
            subst hie
            have HST := strs_of_own (by omega) HOWN.out
            obtain ⟨vo', vc', gv', hv, hst⟩ := HST
            have HST2 : Hid (StrsIn wr.heap.size wr vo' i gv' 0 (piece L.m L.tx s)) := hst
            clear hst
            subst hv
            go_wp2
            go_ret2
            exact ⟨_, _, rfl, .inr (.inr ⟨he, hs, i, HQ.out, .inr ⟨HP.out, rfl, _, _, _, _, rfl, HST2.out⟩⟩), below_then HBW.out hbel⟩
      · go_wp2
        go_ret2
        exact ⟨_, _, rfl, .inr (.inr ⟨he, hs, q, HQ.out, .inl ⟨hp, rfl, rfl⟩⟩), HBW.out⟩
    · go_enter Tryz.func39, Tryz.ntmps39
      go_wp2_with (first
        | (go_at_call 36; refine (tableValid_any L _ (HL.out _ (below_one _))).mono ?_; rintro e w1 ⟨rfl, hb1⟩; obtain ⟨hc, hf⟩ := bcell hb1; have hz1 : w.heap.size < w1.heap.size := by have := hb1.size; simp at this; omega))
      go_ret2
      exact ⟨_, _, rfl, .inr (.inl ⟨he, by omega, rfl, rfl⟩), below_then (below_one _) hb1⟩
  · go_enter Tryz.func39, Tryz.ntmps39
    go_wp2_with (first
      | (go_at_call 36; refine (tableValid_any L _ (HL.out _ (below_one _))).mono ?_; rintro e w1 ⟨rfl, hb1⟩; obtain ⟨hc, hf⟩ := bcell hb1; have hz1 : w.heap.size < w1.heap.size := by have := hb1.size; simp at this; omega))
    go_ret2
    exact ⟨_, _, rfl, .inl ⟨he, rfl, rfl⟩, below_then (below_one _) hb1⟩

set_option maxHeartbeats 400000 in
theorem pieces_any (L : Lay) (s : ByteArray) (w : World) (h : L.In w.heap.size w) :
    Calls Tryz.prog 15 #[.agg #[.slice L.na L.n L.nc, .slice L.ea L.m L.ec], .string s] w fun e w' => ∃ v er, e = .returned (.tuple #[v, .int .i64 er]) ∧ PiecesAns L s v er w' ∧ Below w.heap.size w w' := by
  have HL : Hid (∀ w', Below w.heap.size w w' → L.In w'.heap.size w') := fun w' hb => h.later hb
  clear h
  go_enter Tryz.func15, Tryz.ntmps15
  go_wp2_with (go_at_call 39; refine (tablePieces_any L _ _ (HL.out _ (below_one _))).mono ?_; rintro e w1 ⟨v, er, rfl, hans, hb1⟩)
  go_ret2
  exact ⟨_, _, rfl, hans, below_then (below_one _) hb1⟩

end Go.Proofs.YtpclldccjpncdabGreat

namespace Go.Proofs.YtpclldccjpncdabGreat
open Go.RowKit

noncomputable def entI (m : Nat) (tx : Nat → ByteArray) (u : ByteArray) : Int := if idx m tx u < m then (idx m tx u : Nat) else -1
theorem entI_hit {m : Nat} {tx : Nat → ByteArray} {u : ByteArray} {i : Nat} (hi : i < m) (ht : tx i = u) (hf : ∀ j, j < i → tx j ≠ u) : (i : Int) = entI m tx u := by
  have := idx_eq hi ht hf
  simp [entI, this, hi]
theorem entI_miss {m : Nat} {tx : Nat → ByteArray} {u : ByteArray} (hf : ∀ j, j < m → tx j ≠ u) : -1 = entI m tx u := by
  have : idx m tx u = m := idx_none (fun ⟨i, hi, ht⟩ => hf i hi ht)
  simp [entI, this]
theorem entI_text {m : Nat} {tx : Nat → ByteArray} {u : ByteArray} (h : isText m tx u) : entI m tx u = (idx m tx u : Nat) := by simp [entI, (idx_spec h).1]
theorem entI_no {m : Nat} {tx : Nat → ByteArray} {u : ByteArray} (h : ¬ isText m tx u) : entI m tx u = -1 := by simp [entI, idx_none h]

set_option maxHeartbeats 400000 in
theorem entry_any (m cap b off : Nat) (ao : Option Addr) (tx : Nat → ByteArray) (la : Nat → Option Addr) (k lc lb lo : Nat → Nat) (z : Nat → Nat → Int) (u : ByteArray) (w : World) (hm : m ≤ 1000) (h : EntriesIn w.heap.size w ao m b off tx la k lc lb lo z) :
    Calls Tryz.prog 70 #[.slice ao m cap, .string u] w fun e w' => e = .returned (.int .i64 (entI m tx u)) ∧ w = w' := by
  have HE : Hid (EntriesIn w.heap.size w ao m b off tx la k lc lb lo z) := h
  clear h
  go_enter Tryz.func70, Tryz.ntmps70
  go_wp2
  go_loop [5] (fun iv => ∃ i : Nat, i ≤ m ∧ iv = .int .i64 i ∧ ∀ j, j < i → tx j ≠ u) (fun iv => m - (intOf iv).toNat)
  case atStart => exact ⟨0, Nat.zero_le _, rfl, fun j hj => by omega⟩
  case round =>
    obtain ⟨i, hi, rfl, hno⟩ := hrel
    have HN : Hid (∀ j, j < i → tx j ≠ u) := hno
    clear hno
    by_cases hlt : i < m
    · have ha := HE.out.addr (by omega)
      subst ha
      have c0 := HE.out.text i hlt
      by_cases ht : tx i = u
      · have hb : ((tx i).toList == u.toList) = true := by simp [ht]
        have HT : Hid (tx i = u) := ht
        clear ht
        go_wp2
        go_ret
        exact ⟨ret_int (entI_hit hlt HT.out HN.out), rfl⟩
      · have hb : ((tx i).toList == u.toList) = false := by simp [bytes_eq, ht]
        have HT : Hid (tx i ≠ u) := ht
        clear ht
        go_wp2
        go_round
        case rel => exact ⟨i + 1, by omega, by go_num, fun j hj => by
            by_cases e : j = i
            · rw [e]; exact HT.out
            · exact HN.out j (by omega)⟩
        case measure => simp [intOf]; omega
    · go_wp2
      go_ret
      have : i = m := by omega
      subst this
      exact ⟨ret_int (entI_miss HN.out), rfl⟩

set_option maxHeartbeats 400000 in
theorem sameStrings_any (k b off b' off' cap cap' : Nat) (ao ao' : Option Addr) (u : Nat → ByteArray) (w : World) (h : StrsIn w.heap.size w ao k b off u) (h' : StrsIn w.heap.size w ao' k b' off' u) :
    Calls Tryz.prog 17 #[.slice ao k cap, .slice ao' k cap'] w fun e w' => e = .returned (.bool true) ∧ Below w.heap.size w w' := by
  have hk := h.le
  obtain ⟨ha, hb, hc, _⟩ := h
  obtain ⟨ha', hb', hc', _⟩ := h'
  go_enter Tryz.func17, Tryz.ntmps17
  go_wp2
  go_loopw [5] (fun i wr => ∃ j : Nat, j ≤ k ∧ i = .int .i64 j ∧ Below w.heap.size w wr) (fun i _ => k - (intOf i).toNat)
  case atStart => exact ⟨0, Nat.zero_le _, rfl, Below.refl _ _⟩
  case round =>
    obtain ⟨j, hj, rfl, hbel⟩ := hrel
    by_cases hlt : j < k
    · have e1 := ha (by omega)
      have e2 := ha' (by omega)
      subst e1
      subst e2
      have c0 := cellTo hbel (hc j hlt) (hb (by omega))
      have c1 := cellTo hbel (hc' j hlt) (hb' (by omega))
      go_wp2
      go_quiet (fail)
      go_wp2
      go_roundw
      case rel => exact ⟨j + 1, by omega, by go_num, below_drewN hbel _⟩
      case measure => simp [intOf]; omega
    · go_wp2
      go_ret
      exact ⟨rfl, hbel⟩

end Go.Proofs.YtpclldccjpncdabGreat
