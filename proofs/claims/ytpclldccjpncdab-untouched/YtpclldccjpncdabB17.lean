import Derived.Test.YtpclldccjpncdabB16
namespace Go.Proofs.Ytpclldccjpncdab
open Go.RowKit

theorem infoStr : (Try.prog.info? 9).map (fun i => (i.zero, i.size, i.bytes)) = some (some (.string ByteArray.empty), 1, 16) := by kernel_rfl
theorem strs_of_own {w : World} {base : Nat} {e : TypeId} {v : Value} {n : Nat} {u : Nat → ByteArray} (hn : n ≤ 1000) (ho : w.ownsRow base e 1 v n ((List.range n).map fun j => .string (u j))) : ∃ ao cap b, v = .slice ao n cap ∧ StrsIn w.heap.size w ao n b 0 u := by
  obtain ⟨vo, vc, gv, rfl, ha, hc⟩ := own_cells ho
  refine ⟨vo, vc, gv, rfl, ⟨fun h0 => (ha h0).1, fun h0 => (ha h0).2.1, fun i hi => ?_, hn⟩⟩
  have := hc i (.string (u i)) (by omega) (by simp [hi])
  simpa using this

set_option maxRecDepth 100000 in
set_option maxHeartbeats 1000000 in
theorem tablePieces_any (L : Lay) (s : ByteArray) (w : World) (h : L.In w.heap.size w) :
    Calls Try.prog 34 #[.agg #[.slice L.na L.n L.nc, .slice L.ea L.m L.ec], .string s] w fun e w' => ∃ v er, e = .returned (.tuple #[v, .int .i64 er]) ∧ PiecesAns L s v er w' ∧ Below w.heap.size w w' := by
  have HL : Hid (∀ w', Below w.heap.size w w' → L.In w'.heap.size w') := fun w' hb => h.later hb
  clear h
  by_cases he : L.err = 0
  · by_cases hs : s.size ≤ 24
    · have hok := err_zero he
      have hm := hok.m
      have htx := hok.tx
      have HOK : Hid (L.Ok) := hok
      have HTX : Hid (∀ i, i < L.m → 1 ≤ (L.tx i).size ∧ (L.tx i).size ≤ 3) := htx
      clear hok htx
      obtain ⟨i0, hi0, hq0, hq1, hq2⟩ := info_parts infoStr
      go_enter Try.func34, Try.ntmps34
      go_wp2_with (first
        | (go_at_call 32; refine (tableValid_any L _ (HL.out _ (below_one _))).mono ?_; rintro e w1 ⟨rfl, hb1⟩; obtain ⟨hc, hf⟩ := bcell hb1; have hz1 : w.heap.size < w1.heap.size := by have := hb1.size; simp at this; omega))
      have HIN : Hid (L.In w1.heap.size w1) := HL.out _ (below_then (below_one _) hb1)
      refine (cut_in L.m _ _ _ _ L.tx L.la L.k L.lc L.lb L.lo L.z s w1 hm (by omega) HTX.out HIN.out.entries).mono ?_
      rintro e w2 ⟨q, hq, hb2, hor⟩
      have hq1' := pos_ge q hq.go
      have hq2' := pos_le L.m L.tx s q
      have HQ : Hid (Cut L.m L.tx s q) := hq
      have hqs : q ≤ 24 := by omega
      have HBW : Hid (Below w.heap.size w w2) := below_then (below_then (below_one _) hb1) hb2
      clear hq hq1' hq2'
      rcases hor with ⟨hp, vo, vc, gv, rfl, hein⟩ | ⟨hp, rfl⟩
      · have HP : Hid (pos L.m L.tx s q = s.size) := hp
        have HF := hein
        have HFI : Hid (EntriesIn w2.heap.size w2 vo q gv 0 (fun j => L.tx (pidx L.m L.tx s j)) (fun j => L.la (pidx L.m L.tx s j)) (fun j => L.k (pidx L.m L.tx s j)) (fun j => L.lc (pidx L.m L.tx s j)) (fun j => L.lb (pidx L.m L.tx s j)) (fun j => L.lo (pidx L.m L.tx s j)) (fun j => L.z (pidx L.m L.tx s j))) := hein
        clear hein HF hp hc hf
        go_wp2
        go_loopw [9, 10] (fun v iv wr => ∃ i : Nat, i ≤ q ∧ iv = .int .i64 i ∧ Below w2.heap.size w2 wr ∧ wr.ownsRow w2.heap.size 9 1 v i ((List.range i).map fun j => .string (piece L.m L.tx s j))) (fun _ iv _ => q - (intOf iv).toNat)
        case atStart => exact ⟨0, Nat.zero_le _, rfl, Below.refl _ _, World.ownsRow_nil _ _ _ _⟩
        case round =>
          obtain ⟨i, hi, rfl, hbel, hown⟩ := hrel
          have HOWN : Hid (wr.ownsRow w2.heap.size 9 1 _ i ((List.range i).map fun j => .string (piece L.m L.tx s j))) := hown
          clear hown
          have hsz := hbel.size
          by_cases hlt : i < q
          · have ha := HFI.out.addr (by omega)
            subst ha
            have c0 := cellTo hbel (HFI.out.text i hlt) (HFI.out.lt (by omega))
            simp only [Nat.zero_add] at c0
            rw [(pidx_spec HQ.out.go hlt).2] at c0
            go_wp2_with (first
              | (at_builtin; refine wpList_append_lies _ (by rfl) (.tmp 34) (.tmp 40) 49 (by rfl) w2.heap.size 9 i0 (.string ByteArray.empty) 1 16 Try.underlying49 hi0 hq0 hq1 hq2 rfl (by omega) _ i _ (by rfl) (HOWN.out.alloc _) ⟨wr.heap.size, 0, none⟩ 1 1 [.string (piece L.m L.tx s i)] (by rfl) (by rfl) ?c1 ?c2 (by omega) ?c3 ?c5 ?c4 (wr.heap.size + 1) (by simp) ?_))
            case c1 => exact cell_one_new _ _ _
            case c2 => intro u hu; simp at hu; subst hu; rfl
            case c3 => unfold maxLen; omega
            case c5 => omega
            case c4 => simp; omega
            · intro gv2 cap2 w3 hown2 hgrow _ _
              have HBN : Hid (Below w2.heap.size w2 w3) := (hbel.alloc hsz _).grown hgrow (by simp; omega) (fun r hr => by
                obtain ⟨_, ho⟩ := HOWN.out
                rcases ho with ⟨hv, _⟩ | ⟨b', _, _, hv, hb', _⟩
                · rw [hv] at hr; simp [Value.ownBlock] at hr
                · rw [hv] at hr; simp [Value.ownBlock] at hr; omega)
              have HO2 : Hid (w3.ownsRow w2.heap.size 9 1 (.slice (some ⟨gv2, 0, none⟩) (i + 1) cap2) (i + 1) ((List.range (i + 1)).map fun j => .string (piece L.m L.tx s j))) := by
                show _
                rw [List.range_succ, List.map_append]
                exact hown2
              clear hown2 hgrow c0
              go_wp2
              go_roundw
              case rel => exact ⟨i + 1, by omega, by go_num, HBN.out, HO2.out⟩
              case measure => simp [intOf]; omega
          · have hie : i = q := by omega
            subst hie
            have HST := strs_of_own (by omega) HOWN.out
            obtain ⟨vo', vc', gv', hv, hst⟩ := HST
            have HST2 : Hid (StrsIn wr.heap.size wr vo' i gv' 0 (piece L.m L.tx s)) := hst
            clear hst
            subst hv
            go_wp2
            go_ret2
            exact ⟨_, _, rfl, .inr (.inr ⟨he, hs, i, HQ.out, .inr ⟨HP.out, rfl, _, _, _, _, rfl, HST2.out⟩⟩), below_then HBW.out hbel⟩
      · go_wp2
        go_ret2
        exact ⟨_, _, rfl, .inr (.inr ⟨he, hs, q, HQ.out, .inl ⟨hp, rfl, rfl⟩⟩), HBW.out⟩
    · go_enter Try.func34, Try.ntmps34
      go_wp2_with (first
        | (go_at_call 32; refine (tableValid_any L _ (HL.out _ (below_one _))).mono ?_; rintro e w1 ⟨rfl, hb1⟩; obtain ⟨hc, hf⟩ := bcell hb1; have hz1 : w.heap.size < w1.heap.size := by have := hb1.size; simp at this; omega))
      go_ret2
      exact ⟨_, _, rfl, .inr (.inl ⟨he, by omega, rfl, rfl⟩), below_then (below_one _) hb1⟩
  · go_enter Try.func34, Try.ntmps34
    go_wp2_with (first
      | (go_at_call 32; refine (tableValid_any L _ (HL.out _ (below_one _))).mono ?_; rintro e w1 ⟨rfl, hb1⟩; obtain ⟨hc, hf⟩ := bcell hb1; have hz1 : w.heap.size < w1.heap.size := by have := hb1.size; simp at this; omega))
    go_ret2
    exact ⟨_, _, rfl, .inl ⟨he, rfl, rfl⟩, below_then (below_one _) hb1⟩

set_option maxHeartbeats 400000 in
theorem pieces_any (L : Lay) (s : ByteArray) (w : World) (h : L.In w.heap.size w) :
    Calls Try.prog 19 #[.agg #[.slice L.na L.n L.nc, .slice L.ea L.m L.ec], .string s] w fun e w' => ∃ v er, e = .returned (.tuple #[v, .int .i64 er]) ∧ PiecesAns L s v er w' ∧ Below w.heap.size w w' := by
  have HL : Hid (∀ w', Below w.heap.size w w' → L.In w'.heap.size w') := fun w' hb => h.later hb
  clear h
  go_enter Try.func19, Try.ntmps19
  go_wp2_with (go_at_call 34; refine (tablePieces_any L _ _ (HL.out _ (below_one _))).mono ?_; rintro e w1 ⟨v, er, rfl, hans, hb1⟩)
  go_ret2
  exact ⟨_, _, rfl, hans, below_then (below_one _) hb1⟩

end Go.Proofs.Ytpclldccjpncdab

namespace Go.Proofs.Ytpclldccjpncdab
open Go.RowKit

noncomputable def entI (m : Nat) (tx : Nat → ByteArray) (u : ByteArray) : Int := if idx m tx u < m then (idx m tx u : Nat) else -1
theorem entI_hit {m : Nat} {tx : Nat → ByteArray} {u : ByteArray} {i : Nat} (hi : i < m) (ht : tx i = u) (hf : ∀ j, j < i → tx j ≠ u) : (i : Int) = entI m tx u := by
  have := idx_eq hi ht hf
  simp [entI, this, hi]
theorem entI_miss {m : Nat} {tx : Nat → ByteArray} {u : ByteArray} (hf : ∀ j, j < m → tx j ≠ u) : -1 = entI m tx u := by
  have : idx m tx u = m := idx_none (fun ⟨i, hi, ht⟩ => hf i hi ht)
  simp [entI, this]
theorem entI_text {m : Nat} {tx : Nat → ByteArray} {u : ByteArray} (h : isText m tx u) : entI m tx u = (idx m tx u : Nat) := by simp [entI, (idx_spec h).1]
theorem entI_no {m : Nat} {tx : Nat → ByteArray} {u : ByteArray} (h : ¬ isText m tx u) : entI m tx u = -1 := by simp [entI, idx_none h]

end Go.Proofs.Ytpclldccjpncdab

namespace Go.Proofs.Ytpclldccjpncdab
open Go.RowKit

/-- what is left of a text from a place on -/
def rest (s : ByteArray) (p : Nat) : ByteArray := s.extract p s.size
theorem rest_zero (s : ByteArray) : rest s 0 = s := ByteArray.extract_zero_size
theorem rest_size (s : ByteArray) (p : Nat) : (rest s p).size = s.size - p := by simp [rest, ByteArray.size_extract]
theorem rest_sub (s : ByteArray) (p n : Nat) (h : p + n ≤ s.size) : (rest s p).extract 0 n = sub s p n := by
  rw [rest, sub, ByteArray.extract_extract, Nat.add_zero, Nat.min_eq_left h]
theorem rest_rest (s : ByteArray) (p n : Nat) : (rest s p).extract n (rest s p).size = rest s (p + n) := by
  rw [rest_size, rest, ByteArray.extract_extract, rest]
  congr 1
  omega

end Go.Proofs.Ytpclldccjpncdab

namespace Go.Proofs.Ytpclldccjpncdab
open Go.RowKit

/-- the numbers of a text's nodes, as numbers -/
noncomputable def numsZ (L : Lay) (s : ByteArray) (q : Nat) : List Int := (nums L s q).map Int.ofNat
theorem numsZ_succ {L : Lay} (hok : L.Ok) {s : ByteArray} {q : Nat} (h : ∀ j, j < q + 1 → 0 < lenAt L.m L.tx s (pos L.m L.tx s j)) :
    numsZ L s (q + 1) = numsZ L s q ++ (List.range (L.k (pidx L.m L.tx s q))).map fun i => L.z (pidx L.m L.tx s q) i := by
  unfold numsZ
  rw [nums_succ, List.map_append]
  congr 1
  simp only [entNums, List.map_map]
  refine List.map_congr_left fun i hi => ?_
  have := hok.z _ (pidx_spec h (Nat.lt_succ_self q)).1 i (List.mem_range.1 hi)
  simp; omega

end Go.Proofs.Ytpclldccjpncdab
