import Derived.Test.YtpclldccjpncdabGreatM14
import Derived.Maps.AppendAt
import Derived.OwnWalk
import Derived.Laws.Rows
import Derived.Laws.BytesArg
import Derived.Lib.AppendStr
namespace Go.Proofs.YtpclldccjpncdabGreat
open Go.RowKit

theorem infoIntC : (Tryz.prog.info? 3).map (fun i => (i.zero, i.size, i.bytes)) = some (some (.int .i64 0), 1, 8) := by kernel_rfl
theorem infoByteC : (Tryz.prog.info? 5).map (fun i => (i.zero, i.size, i.bytes)) = some (some (.int .u8 0), 1, 1) := by kernel_rfl
theorem infoNodeC : (Tryz.prog.info? 65).map (fun i => (i.zero, i.size, i.bytes)) = some (some (.agg #[.int .i64 0, .int .i64 0, .int .i64 0]), 3, 24) := by kernel_rfl
theorem infoEntC : (Tryz.prog.info? 63).map (fun i => (i.zero, i.size, i.bytes)) = some (some (.agg #[.string ByteArray.empty, .slice none 0 0]), 2, 40) := by kernel_rfl
theorem infoListC : (Tryz.prog.info? 61).map (fun i => (i.zero, i.size, i.bytes)) = some (some (.slice none 0 0), 1, 24) := by kernel_rfl

theorem newC2 (w : World) {B : Nat} (hB : w.heap.size = B) (a b : Value) (t : TypeId) : ∀ (j : Nat) (u : Value), [a, b][j]? = some u → (w.alloc (.cells #[a, b] t)).cell? ((⟨B, 0, none⟩ : Addr).add j) = some u :=
  hB ▸ World.news_of_block (cs := #[a, b]) (t := t) (fr := (0, 0)) (heap_alloc_new w _)
theorem newC3 (w : World) {B : Nat} (hB : w.heap.size = B) (a b c : Value) (t : TypeId) : ∀ (j : Nat) (u : Value), [a, b, c][j]? = some u → (w.alloc (.cells #[a, b, c] t)).cell? ((⟨B, 0, none⟩ : Addr).add j) = some u :=
  hB ▸ World.news_of_block (cs := #[a, b, c]) (t := t) (fr := (0, 0)) (heap_alloc_new w _)
theorem newC4 (w : World) {B : Nat} (hB : w.heap.size = B) (a b c d : Value) (t : TypeId) : ∀ (j : Nat) (u : Value), [a, b, c, d][j]? = some u → (w.alloc (.cells #[a, b, c, d] t)).cell? ((⟨B, 0, none⟩ : Addr).add j) = some u :=
  hB ▸ World.news_of_block (cs := #[a, b, c, d]) (t := t) (fr := (0, 0)) (heap_alloc_new w _)

section
variable {w : World} {base : Nat} {e : TypeId} {size : Nat} {v : Value} {n : Nat} {xs : List Value}
theorem ownC_lt (ho : w.ownsRow base e size v n xs) {b : Nat} (hb : v.ownBlock = some b) : b < w.heap.size ∧ base ≤ b := by
  obtain ⟨_, h2⟩ := ho
  rcases h2 with ⟨rfl, _⟩ | ⟨g, cap, cur, rfl, hg, hh, _⟩
  · simp [Value.ownBlock] at hb
  · simp only [Value.ownBlock, Option.some.injEq] at hb
    subst hb
    exact ⟨(Array.getElem?_eq_some_iff.1 hh).1, hg⟩
theorem ownC_below {w' : World} (ho : w.ownsRow base e size v n xs) (hb : Below w.heap.size w w') : w'.ownsRow base e size v n xs :=
  own_of_block ho fun b h => hb.block b (ownC_lt ho h).1
theorem ownC_base {b' : Nat} (ho : w.ownsRow base e size v n xs) (h : b' ≤ base) : w.ownsRow b' e size v n xs := by
  obtain ⟨h1, h2⟩ := ho
  rcases h2 with h2 | ⟨g, cap, cur, hv, hg, r⟩
  · exact ⟨h1, .inl h2⟩
  · exact ⟨h1, .inr ⟨g, cap, cur, hv, by omega, r⟩⟩
theorem ownC_grown_below {B : Nat} {w0 w2 : World} (hb : Below B w0 w) (hB : B ≤ w.heap.size) (hown : w.ownsRow base e size v n xs) (hbase : B ≤ base) (hg : w.grownBy w2 v.ownBlock) : Below B w0 w2 :=
  hb.grown hg hB (fun _ hr => Nat.le_trans hbase (ownC_lt hown hr).2)
theorem ownC_cells (ho : w.ownsRow base e size v n xs) :
    ∃ vo vc gv, v = .slice vo n vc ∧ (0 < n → vo = some ⟨gv, 0, none⟩ ∧ gv < w.heap.size ∧ base ≤ gv) ∧ ∀ c u, c < n * size → xs[c]? = some u → w.cell? ⟨gv, c, none⟩ = some u := by
  obtain ⟨_, h2⟩ := ho
  rcases h2 with ⟨hv, h0⟩ | ⟨g, cap, cur, hv, hb, hh, hnc, _, hcs, ht⟩
  · exact ⟨none, 0, 0, by rw [hv, h0], by omega, fun c u hc => by subst h0; omega⟩
  · refine ⟨_, cap, g, hv, fun _ => ⟨rfl, (Array.getElem?_eq_some_iff.1 hh).1, hb⟩, fun c u hc hx => ?_⟩
    rw [← ht, List.getElem?_take, if_pos hc] at hx
    simp only [Array.getElem?_toList] at hx
    simp [World.cell?, hh, hx]
theorem ownC_shape (ho : w.ownsRow base e size v n xs) : ∃ vo vc, v = .slice vo n vc := by
  obtain ⟨vo, vc, _, h, _⟩ := ownC_cells ho
  exact ⟨vo, vc, h⟩
/-- rows of two types are two blocks -/
theorem ownC_two {base' : Nat} {e' : TypeId} {size' : Nat} {v' : Value} {n' : Nat} {xs' : List Value} (ho : w.ownsRow base e size v n xs) (ho' : w.ownsRow base' e' size' v' n' xs') (ht : e ≠ e') {b : Nat} (hb : v.ownBlock = some b) : some b ≠ v'.ownBlock := fun hb' => by
  obtain ⟨_, h2⟩ := ho
  obtain ⟨_, h2'⟩ := ho'
  rcases h2 with ⟨rfl, _⟩ | ⟨g, cap, cur, rfl, _, hh, _⟩
  · simp [Value.ownBlock] at hb
  · rcases h2' with ⟨rfl, _⟩ | ⟨g', cap', cur', rfl, _, hh', _⟩
    · simp [Value.ownBlock] at hb'
    · simp only [Value.ownBlock, Option.some.injEq] at hb hb'
      subst hb
      subst hb'
      rw [hh] at hh'
      cases hh'
      exact ht rfl
theorem ownC_grown {w' : World} {base' : Nat} {e' : TypeId} {size' : Nat} {v' : Value} {n' : Nat} {xs' : List Value} (ho : w.ownsRow base e size v n xs) (ho' : w.ownsRow base' e' size' v' n' xs') (ht : e ≠ e') (hg : w.grownBy w' v'.ownBlock) : w'.ownsRow base e size v n xs :=
  own_of_block ho fun b hb => hg.block b (ownC_lt ho hb).1 (ownC_two ho ho' ht hb)
theorem row2C {b : Nat} {t : TypeId} {f : Nat → Value} (h : w.rowIs b t 2 f) : w.heap[b]? = some (.cells #[f 0, f 1] t (0, 0)) := by
  obtain ⟨c, hc, hs, hf⟩ := h
  rw [hc]
  have : c = #[f 0, f 1] := by
    apply Array.ext_getElem?
    intro i
    match i with
    | 0 => rw [hf 0 (by omega)]; rfl
    | 1 => rw [hf 1 (by omega)]; rfl
    | j + 2 => rw [Array.getElem?_eq_none (by omega)]; rfl
  rw [this]
theorem resC2 {P : Program} {fn : Func} {p u : Tmp} {ty : TypeId} (h : fn.results = #[.cell p ty, .tmp u]) (tmps : Array Value) (g : Nat) (f : Nat → Value) (d : TypeDesc)
    (hp : tmps.getD p undef = .pointer (some ⟨g, 0, none⟩)) (hg : w.rowIs g ty 2 f)
    (hu : P.underlying ty = some d) (hd : (match d with | .struct _ | .array _ _ => true | _ => false) = true) (hi : (P.info? ty).map (·.size) = some 2) :
    (results fn tmps).run P w = .ok (.tuple #[.agg #[f 0, f 1], tmps.getD u undef]) w := by
  have hp' : tmps[p]?.getD undef = .pointer (some ⟨g, 0, none⟩) := by simpa using hp
  simp [results, h, hp', asAddr, run_loadVar_row w g ty ty #[f 0, f 1] (0, 0) d (row2C hg) hu hd hi]
theorem resC3 {P : Program} {fn : Func} {p u v : Tmp} {ty : TypeId} (h : fn.results = #[.cell p ty, .tmp u, .tmp v]) (tmps : Array Value) (g : Nat) (f : Nat → Value) (d : TypeDesc)
    (hp : tmps.getD p undef = .pointer (some ⟨g, 0, none⟩)) (hg : w.rowIs g ty 2 f)
    (hu : P.underlying ty = some d) (hd : (match d with | .struct _ | .array _ _ => true | _ => false) = true) (hi : (P.info? ty).map (·.size) = some 2) :
    (results fn tmps).run P w = .ok (.tuple #[.agg #[f 0, f 1], tmps.getD u undef, tmps.getD v undef]) w := by
  have hp' : tmps[p]?.getD undef = .pointer (some ⟨g, 0, none⟩) := by simpa using hp
  simp [results, h, hp', asAddr, run_loadVar_row w g ty ty #[f 0, f 1] (0, 0) d (row2C hg) hu hd hi]
end
theorem sizeEntC : (Tryz.prog.info? 63).map (·.size) = some 2 := by kernel_rfl
theorem sizeTabC : (Tryz.prog.info? 28).map (·.size) = some 2 := by kernel_rfl
end Go.Proofs.YtpclldccjpncdabGreat

namespace Go.Proofs.YtpclldccjpncdabGreat
open Go.RowKit

/-- the bytes of a text, as numbers -/
def blC (s : ByteArray) : List Int := s.data.toList.map fun u => (u.toNat : Int)
theorem blC_len (s : ByteArray) : (blC s).length = s.size := by rw [blC, List.length_map, Array.length_toList]; rfl
theorem blC_cells (s : ByteArray) : Go.Lib.strCells s = (blC s).map (Value.int .u8) := by simp [Go.Lib.strCells, blC]
theorem blC_str (s : ByteArray) : strOfNums (blC s) = s := by
  apply ByteArray.ext
  apply Array.ext'
  rw [strOfNums_data, blC, List.map_map]
  refine (List.map_congr_left (g := id) fun u _ => ?_).trans (List.map_id _)
  simp
theorem str_app (a b : List Int) : strOfNums (a ++ b) = strOfNums a ++ strOfNums b := by
  apply ByteArray.ext
  apply Array.ext'
  rw [ByteArray.data_append, Array.toList_append, strOfNums_data, strOfNums_data, strOfNums_data, List.map_append]
/-- bytes of one's own become a text -/
theorem convC {w : World} {base : Nat} {v : Value} {l : List Int} (ho : w.ownsRow base 5 1 v l.length (l.map (Value.int .u8))) : ∃ vo vc, v = .slice vo l.length vc ∧ (convert 73 9 (.slice vo l.length vc)).run Tryz.prog w = .ok (.string (strOfNums l)) w := by
  obtain ⟨vo, vc, gv, rfl, ha, hc⟩ := ownC_cells ho
  refine ⟨vo, vc, rfl, ?_⟩
  by_cases h0 : 0 < l.length
  · rw [(ha h0).1]
    refine run_convert_bytes_arg w 73 5 Tryz.underlying73 Tryz.underlying5 gv 0 l.length vc l rfl (fun i hi => ?_) 9 Tryz.underlying9
    have := hc i (.int .u8 (l.getD i 0)) (by omega) (by simp [List.getD, List.getElem?_eq_getElem hi])
    simpa using this
  · have hl : l = [] := List.eq_nil_of_length_eq_zero (by omega)
    subst hl
    obtain ⟨_, h2⟩ := ho
    rcases h2 with ⟨hv, _⟩ | ⟨g, cap, cur, hv, _⟩
    · cases hv
      exact run_convert_bytes_nil w 73 5 Tryz.underlying73 Tryz.underlying5 0 0 9 Tryz.underlying9
    · cases hv
      exact run_convert_bytes_arg w 73 5 Tryz.underlying73 Tryz.underlying5 g 0 0 vc [] rfl (fun i hi => by omega) 9 Tryz.underlying9

def zl (k : Nat) (z : Nat → Int) : List Int := (List.range k).map z
theorem zl_len (k : Nat) (z : Nat → Int) : (zl k z).length = k := by simp [zl]
theorem zl_snoc (k : Nat) (z : Nat → Int) : zl (k + 1) z = zl k z ++ [z k] := by simp [zl, List.range_succ]
/-- the numbers of an entry -/
def enC (tx : ByteArray) (k : Nat) (z : Nat → Int) : List Int := [(tx.size : Int)] ++ blC tx ++ [(k : Int)] ++ zl k z

set_option maxRecDepth 100000 in
set_option maxHeartbeats 1000000 in
theorem entryText_any (tx : ByteArray) (ao : Option Addr) (k cap b off : Nat) (z : Nat → Int) (w : World) (ht : tx.size ≤ 255) (hk : k ≤ 255) (hz : ∀ j, j < k → 0 ≤ z j ∧ z j ≤ 255) (h : IntsIn w.heap.size w ao k b off z) :
    Calls Tryz.prog 76 #[.agg #[.string tx, .slice ao k cap]] w fun e w' => e = .returned (.string (strOfNums (enC tx k z))) ∧ Below w.heap.size w w' := by
  obtain ⟨i0, hi0, hq0, hq1, hq2⟩ := info_parts infoByteC
  have HI : Hid (IntsIn w.heap.size w ao k b off z) := h
  have HZ : Hid (∀ j, j < k → 0 ≤ z j ∧ z j ≤ 255) := hz
  clear h hz
  have HW : Hid (∀ wr : World, Below (w.alloc (.cells #[.string tx, .slice ao k cap] 63)).heap.size (w.alloc (.cells #[.string tx, .slice ao k cap] 63)) wr → wr.cell? ⟨w.heap.size, 0, none⟩ = some (.string tx) ∧ wr.cell? ⟨w.heap.size, 1, none⟩ = some (.slice ao k cap) ∧ Below w.heap.size w wr ∧ w.heap.size + 1 ≤ wr.heap.size) := fun wr hb => by
    have hr := row_new w #[.string tx, .slice ao k cap] 63 2 rfl
    refine ⟨cellTo hb (hr.cell (i := 0) (by omega)) (by simp), cellTo hb (hr.cell (i := 1) (by omega)) (by simp), below_then (below_one _) hb, by have := hb.size; simpa using this⟩
  have hWs : (w.alloc (.cells #[.string tx, .slice ao k cap] 63)).heap.size = w.heap.size + 1 := size_one _ _
  have HWS : Hid ((w.alloc (.cells #[.string tx, .slice ao k cap] 63)).heap.size = w.heap.size + 1) := hWs
  clear hWs
  have HD : Hid (enC tx k z = [(tx.size : Int)] ++ blC tx ++ [(k : Int)] ++ zl k z) := rfl
  go_enter Tryz.func76, Tryz.ntmps76
  go_wp2_with (first
    | (at_builtin; refine wpList_append_lies _ (by rfl) (.tmp 5) (.tmp 10) 73 (by rfl) (w.heap.size + 1) 5 i0 (.int .u8 0) 1 1 Tryz.underlying73 hi0 hq0 hq1 hq2 rfl (by omega) _ 0 _ (by rfl) (World.ownsRow_nil _ _ _ _) ⟨w.heap.size + 1, 0, none⟩ 1 1 [.int .u8 tx.size] (by rfl) (by rfl) ?c1 ?c2 (by omega) ?c3 ?c5 ?c4 (w.heap.size + 2) (by simp) ?_))
  case c1 => simpa using cell_one_new (w.alloc (.cells #[.string tx, .slice ao k cap] 63)) (.int .u8 tx.size) 5
  case c2 => intro u hu; simp at hu; subst hu; rfl
  case c3 => unfold maxLen; omega
  case c5 => omega
  case c4 => simp
  · intro g1 cap1 w1 hown1 hgrow1 _ _
    have hb1 : Below (w.alloc (.cells #[.string tx, .slice ao k cap] 63)).heap.size (w.alloc (.cells #[.string tx, .slice ao k cap] 63)) w1 := (below_one _).grown hgrow1 (by simp) (fun r hr => by simp [Value.ownBlock] at hr)
    have HB1 : Hid (Below (w.alloc (.cells #[.string tx, .slice ao k cap] 63)).heap.size (w.alloc (.cells #[.string tx, .slice ao k cap] 63)) w1) := hb1
    obtain ⟨c0, c1, _, hz1⟩ := HW.out w1 hb1
    have HO1 : Hid (w1.ownsRow (w.heap.size + 1) 5 1 (.slice (some ⟨g1, 0, none⟩) (0 + 1) cap1) (0 + 1) ([(tx.size : Int)].map (Value.int .u8))) := hown1
    clear hown1 hgrow1 hb1
    go_wp2_with (first
      | (at_builtin; refine Go.Lib.wpList_append_own_string _ (by rfl) (.tmp 12) (.tmp 14) 73 9 (by rfl) (w.heap.size + 1) 5 i0 Tryz.underlying73 Tryz.underlying9 hi0 hq0 hq1 hq2 _ 1 _ (by rfl) HO1.out tx (by rfl) ?d1 ?d2 hz1 ?_))
    case d1 => unfold maxLen; omega
    case d2 => omega
    · intro v2 w2 hown2 hgrow2 _
      have hb2 : Below (w.alloc (.cells #[.string tx, .slice ao k cap] 63)).heap.size (w.alloc (.cells #[.string tx, .slice ao k cap] 63)) w2 := ownC_grown_below HB1.out (by rw [HWS.out]; exact hz1) HO1.out (by rw [HWS.out]; exact Nat.le_refl _) hgrow2
      have HB2 : Hid (Below (w.alloc (.cells #[.string tx, .slice ao k cap] 63)).heap.size (w.alloc (.cells #[.string tx, .slice ao k cap] 63)) w2) := hb2
      obtain ⟨c0', c1', _, hz2⟩ := HW.out w2 hb2
      obtain ⟨ks, hks⟩ : ∃ ks : List Int, ks = [(tx.size : Int)] ++ blC tx := ⟨_, rfl⟩
      have hkl : ks.length = 1 + tx.size := by rw [hks, List.length_append, blC_len]; rfl
      have HKS : Hid (ks = [(tx.size : Int)] ++ blC tx) := hks
      have HO2 : Hid (w2.ownsRow (w.heap.size + 1) 5 1 v2 ks.length (ks.map (Value.int .u8))) := by
        show _
        rw [hkl, hks, List.map_append, ← blC_cells]
        exact hown2
      have hkl' : ks.length ≤ 256 := by omega
      clear hown2 hgrow2 hb2 c0 c1 hks hkl HB1 HO1
      go_wp2_with (first
        | (at_builtin; refine wpList_append_lies _ (by rfl) (.tmp 16) (.tmp 21) 73 (by rfl) (w.heap.size + 1) 5 i0 (.int .u8 0) 1 1 Tryz.underlying73 hi0 hq0 hq1 hq2 rfl (by omega) _ ks.length _ (by rfl) (HO2.out.alloc _) ⟨w2.heap.size, 0, none⟩ 1 1 [.int .u8 k] (by rfl) (by rfl) ?e1 ?e2 (by omega) ?e3 ?e5 ?e4 (w2.heap.size + 1) (by simp) ?_))
      case e1 => exact cell_one_new _ _ _
      case e2 => intro u hu; simp at hu; subst hu; rfl
      case e3 => unfold maxLen; omega
      case e5 => omega
      case e4 => simp; omega
      · intro g3 cap3 w3 hown3 hgrow3 _ _
        have HB3 : Hid (Below (w.alloc (.cells #[.string tx, .slice ao k cap] 63)).heap.size (w.alloc (.cells #[.string tx, .slice ao k cap] 63)) w3) := ownC_grown_below (below_then HB2.out (below_one _)) (by rw [HWS.out]; simp; omega) (HO2.out.alloc _) (by rw [HWS.out]; exact Nat.le_refl _) hgrow3
        have HO3 : Hid (w3.ownsRow (w.heap.size + 1) 5 1 (.slice (some ⟨g3, 0, none⟩) (ks.length + 1) cap3) (ks ++ [(k : Int)]).length ((ks ++ [(k : Int)]).map (Value.int .u8))) := by
          show _
          rw [List.length_append, List.map_append]
          exact hown3
        clear hown3 hgrow3 HB2 HO2 c0' c1'
        go_wp2
        go_loopw [3, 4] (fun v iv wr => ∃ (i : Nat) (us : List Int), Hid (us = (ks ++ [(k : Int)]) ++ zl i z) ∧ i ≤ k ∧ iv = .int .i64 (i : Nat) ∧ Below (w.alloc (.cells #[.string tx, .slice ao k cap] 63)).heap.size (w.alloc (.cells #[.string tx, .slice ao k cap] 63)) wr ∧ wr.ownsRow (w.heap.size + 1) 5 1 v us.length (us.map (Value.int .u8))) (fun _ iv _ => k - (intOf iv).toNat)
        case atStart => exact ⟨0, _, (by show _ = _; rw [show zl 0 z = [] from rfl, List.append_nil]), Nat.zero_le _, rfl, HB3.out, HO3.out⟩
        case round =>
          clear HB3 HO3
          obtain ⟨i, us, HUS, hi, rfl, hbel, hown⟩ := hrel
          have HOW : Hid (wr.ownsRow (w.heap.size + 1) 5 1 _ us.length (us.map (Value.int .u8))) := hown
          have HBR : Hid (Below (w.alloc (.cells #[.string tx, .slice ao k cap] 63)).heap.size (w.alloc (.cells #[.string tx, .slice ao k cap] 63)) wr) := hbel
          obtain ⟨c0, c1, hbw, hzr⟩ := HW.out wr hbel
          have hul : us.length ≤ 1000 := by rw [HUS.out, List.length_append, List.length_append, zl_len]; simp; omega
          clear hown hbel
          by_cases hlt : i < k
          · rw [HI.out.addr (by omega)] at c1
            have z0 := cellTo hbw (HI.out.cell i hlt) (HI.out.lt (by omega))
            have hbb := HI.out.lt (by omega)
            have hzi := HZ.out i hlt
            obtain ⟨x, hx⟩ : ∃ x, x = z i := ⟨_, rfl⟩
            rw [← hx] at z0 hzi
            have HX : Hid (x = z i) := hx
            clear hx
            go_wp2_with (first
              | (at_builtin; refine wpList_append_lies _ (by rfl) (.tmp 30) (.tmp 37) 73 (by rfl) (w.heap.size + 1) 5 i0 (.int .u8 0) 1 1 Tryz.underlying73 hi0 hq0 hq1 hq2 rfl (by omega) _ us.length _ (by rfl) (HOW.out.alloc _) ⟨wr.heap.size, 0, none⟩ 1 1 [.int .u8 x] (by rfl) (by rfl) ?f1 ?f2 (by omega) ?f3 ?f5 ?f4 (wr.heap.size + 1) (by simp) ?_))
            case f1 => exact cell_one_new _ _ _
            case f2 => intro u hu; simp at hu; subst hu; rfl
            case f3 => unfold maxLen; omega
            case f5 => omega
            case f4 => simp; omega
            · intro g4 cap4 w4 hown4 hgrow4 _ _
              have HB4 : Hid (Below (w.alloc (.cells #[.string tx, .slice ao k cap] 63)).heap.size (w.alloc (.cells #[.string tx, .slice ao k cap] 63)) w4) := ownC_grown_below (below_then HBR.out (below_one _)) (by rw [HWS.out]; simp; omega) (HOW.out.alloc _) (by rw [HWS.out]; exact Nat.le_refl _) hgrow4
              have HO4 : Hid (w4.ownsRow (w.heap.size + 1) 5 1 (.slice (some ⟨g4, 0, none⟩) (us.length + 1) cap4) (us ++ [x]).length ((us ++ [x]).map (Value.int .u8))) := by
                show _
                rw [List.length_append, List.map_append]
                exact hown4
              clear hown4 hgrow4 c0 c1 z0
              go_wp2
              go_roundw
              case rel => exact ⟨i + 1, us ++ [x], (by show _ = _; rw [zl_snoc, HUS.out, ← HX.out]; simp only [List.append_assoc]), by omega, by go_num, HB4.out, HO4.out⟩
              case measure => simp [intOf]; omega
          · have hie : i = k := by omega
            subst hie
            obtain ⟨vo9, vc9, hv9, hcv⟩ := convC HOW.out
            subst hv9
            have HE : Hid (us = enC tx i z) := by show _ = _; rw [HUS.out, HKS.out, HD.out]
            have HBW : Hid (Below w.heap.size w wr) := hbw
            clear hbw
            go_wp2
            go_ret
            exact ⟨by rw [← HE.out]; rfl, HBW.out⟩

end Go.Proofs.YtpclldccjpncdabGreat

namespace Go.Proofs.YtpclldccjpncdabGreat
open Go.RowKit

def ndE (L : Lay) (i : Nat) : List Int := [L.p i, L.s i, L.t i]
def nds (L : Lay) (k : Nat) : List Int := (List.range k).flatMap (ndE L)
theorem nds_snoc (L : Lay) (k : Nat) : nds L (k + 1) = nds L k ++ [L.p k, L.s k, L.t k] := by simp [nds, ndE, List.range_succ]
theorem nds_len (L : Lay) : ∀ k, (nds L k).length = k * 3
  | 0 => rfl
  | k + 1 => by rw [nds_snoc, List.length_append, nds_len L k]; simp; omega
def ens (L : Lay) (k : Nat) : List Int := (List.range k).flatMap fun i => enC (L.tx i) (L.k i) (L.z i)
theorem ens_snoc (L : Lay) (k : Nat) : ens L (k + 1) = ens L k ++ enC (L.tx k) (L.k k) (L.z k) := by simp [ens, List.range_succ]
theorem enC_len (tx : ByteArray) (k : Nat) (z : Nat → Int) : (enC tx k z).length = tx.size + k + 2 := by
  simp [enC, blC_len, zl_len]; omega
theorem ens_len {L : Lay} (hok : L.Ok) : ∀ k, k ≤ L.m → (ens L k).length ≤ k * 9
  | 0, _ => by simp [ens]
  | k + 1, h => by
    have h1 := ens_len hok k (by omega)
    have h2 := hok.tx k (by omega)
    have h3 := hok.k k (by omega)
    rw [ens_snoc, List.length_append, enC_len]
    omega
/-- the numbers of a table's text -/
def encN (L : Lay) : List Int := [(L.n : Int)] ++ nds L L.n ++ [(L.m : Int)] ++ ens L L.m
noncomputable def encV (L : Lay) : ByteArray := if L.err ≠ 0 then ByteArray.empty else strOfNums (encN L)
theorem encV_no {L : Lay} (h : L.err ≠ 0) : encV L = ByteArray.empty := by simp [encV, h]
theorem encV_ok {L : Lay} (h : L.err = 0) : encV L = strOfNums (encN L) := by simp [encV, h]
theorem node_bd {L : Lay} (hok : L.Ok) {i : Nat} (hi : i < L.n) : (0 ≤ L.p i ∧ L.p i ≤ 255) ∧ (0 ≤ L.s i ∧ L.s i ≤ 255) ∧ (0 ≤ L.t i ∧ L.t i ≤ 255) := by
  have := hok.node i hi
  simp only [nodeB, decide_eq_true_eq] at this
  omega

set_option maxRecDepth 100000 in
set_option maxHeartbeats 2000000 in
theorem codeEncode_any (L : Lay) (w : World) (h : L.In w.heap.size w) :
    Calls Tryz.prog 46 #[.agg #[.slice L.na L.n L.nc, .slice L.ea L.m L.ec]] w fun e w' => e = .returned (.tuple #[.string (encV L), .int .i64 L.err]) ∧ Below w.heap.size w w' := by
  obtain ⟨i0, hi0, hq0, hq1, hq2⟩ := info_parts infoByteC
  have HIN : Hid (∀ wx, Below w.heap.size w wx → L.In wx.heap.size wx) := fun wx hb => h.later hb
  have HW : Hid (∀ wr : World, Below (w.alloc (.cells #[.slice L.na L.n L.nc, .slice L.ea L.m L.ec] 28)).heap.size (w.alloc (.cells #[.slice L.na L.n L.nc, .slice L.ea L.m L.ec] 28)) wr → wr.cell? ⟨w.heap.size, 0, none⟩ = some (.slice L.na L.n L.nc) ∧ wr.cell? ⟨w.heap.size, 1, none⟩ = some (.slice L.ea L.m L.ec) ∧ Below w.heap.size w wr ∧ w.heap.size + 1 ≤ wr.heap.size) := fun wr hb => by
    have hr := row_new w #[.slice L.na L.n L.nc, .slice L.ea L.m L.ec] 28 2 rfl
    refine ⟨cellTo hb (hr.cell (i := 0) (by omega)) (by simp), cellTo hb (hr.cell (i := 1) (by omega)) (by simp), below_then (below_one _) hb, by have := hb.size; simpa using this⟩
  have HL : Hid (L.In w.heap.size w) := h
  clear h
  by_cases he : L.err = 0
  · have hok := err_zero he
    have hn := hok.n
    have hm := hok.m
    have HOK : Hid L.Ok := hok
    have HE : Hid (L.err = 0) := he
    have HV : Hid (∀ wx, Below w.heap.size w wx → Calls Tryz.prog 36 #[.agg #[.slice L.na L.n L.nc, .slice L.ea L.m L.ec]] wx fun e w' => e = .returned (.int .i64 0) ∧ Below wx.heap.size wx w') := fun wx hb => by
      have := tableValid_any L wx (HIN.out wx hb)
      rw [he] at this
      exact this
    have HVV : Hid (encV L = strOfNums (encN L)) := encV_ok he
    clear hok he
    obtain ⟨W, hW⟩ : ∃ W, W = w.alloc (.cells #[.slice L.na L.n L.nc, .slice L.ea L.m L.ec] 28) := ⟨_, rfl⟩
    have HWS : Hid (W.heap.size = w.heap.size + 1) := by show _ = _; rw [hW]; exact size_one _ _
    rw [← hW] at HW
    have HEQ : Hid (W = w.alloc (.cells #[.slice L.na L.n L.nc, .slice L.ea L.m L.ec] 28)) := hW
    clear hW
    go_enter Tryz.func46, Tryz.ntmps46
    go_wp2_with fail
    refine (HV.out _ (below_one _)).mono ?_
    rintro e w1 ⟨rfl, hb1⟩
    rw [← HEQ.out] at hb1
    have HB1 : Hid (Below W.heap.size W w1) := hb1
    obtain ⟨c0, c1, _, hz1⟩ := HW.out w1 hb1
    clear hb1 HV
    go_wp2_with (first
      | (at_builtin; refine wpList_append_lies _ (by rfl) (.tmp 15) (.tmp 20) 73 (by rfl) (w.heap.size + 1) 5 i0 (.int .u8 0) 1 1 Tryz.underlying73 hi0 hq0 hq1 hq2 rfl (by omega) _ 0 _ (by rfl) (World.ownsRow_nil _ _ _ _) ⟨w1.heap.size, 0, none⟩ 1 1 [.int .u8 L.n] (by rfl) (by rfl) ?a1 ?a2 (by omega) ?a3 ?a5 ?a4 (w1.heap.size + 1) (by simp) ?_))
    case a1 => exact cell_one_new _ _ _
    case a2 => intro u hu; simp at hu; subst hu; rfl
    case a3 => unfold maxLen; omega
    case a5 => omega
    case a4 => simp; omega
    · intro g2 cap2 w2 hown2 hgrow2 _ _
      have HB2 : Hid (Below W.heap.size W w2) := (below_then HB1.out (below_one _)).grown hgrow2 (by rw [HWS.out]; simp; omega) (fun r hr => by simp [Value.ownBlock] at hr)
      have HO2 : Hid (w2.ownsRow (w.heap.size + 1) 5 1 (.slice (some ⟨g2, 0, none⟩) (0 + 1) cap2) ([(L.n : Int)]).length (([(L.n : Int)]).map (Value.int .u8))) := hown2
      clear hown2 hgrow2 HB1 c0 c1
      go_wp2
      go_loopw [5, 6] (fun v iv wr => ∃ (i : Nat) (us : List Int), Hid (us = [(L.n : Int)] ++ nds L i) ∧ i ≤ L.n ∧ iv = .int .i64 (i : Nat) ∧ Below W.heap.size W wr ∧ wr.ownsRow (w.heap.size + 1) 5 1 v us.length (us.map (Value.int .u8))) (fun _ iv _ => L.n - (intOf iv).toNat)
      case atStart => exact ⟨0, _, rfl, Nat.zero_le _, rfl, HB2.out, HO2.out⟩
      case round =>
        clear HB2 HO2
        obtain ⟨i, us, HUS, hi, rfl, hbel, hown⟩ := hrel
        have HOW : Hid (wr.ownsRow (w.heap.size + 1) 5 1 _ us.length (us.map (Value.int .u8))) := hown
        have HBR : Hid (Below W.heap.size W wr) := hbel
        obtain ⟨c0, c1, hbw, hzr⟩ := HW.out wr hbel
        have hul : us.length ≤ 200 := by rw [HUS.out, List.length_append, nds_len]; simp; omega
        clear hown hbel
        by_cases hlt : i < L.n
        · rw [HL.out.nodes.addr (by omega)] at c0
          have hbb := HL.out.nodes.lt (by omega)
          have p0 := cellTo hbw (HL.out.nodes.p i hlt) hbb
          have p1 := cellTo hbw (HL.out.nodes.s i hlt) hbb
          have p2 := cellTo hbw (HL.out.nodes.t i hlt) hbb
          obtain ⟨n0, n1, n2⟩ := node_bd HOK.out hlt
          obtain ⟨x0, hx0⟩ : ∃ x, x = L.p i := ⟨_, rfl⟩
          obtain ⟨x1, hx1⟩ : ∃ x, x = L.s i := ⟨_, rfl⟩
          obtain ⟨x2, hx2⟩ : ∃ x, x = L.t i := ⟨_, rfl⟩
          rw [← hx0] at p0 n0
          rw [← hx1] at p1 n1
          rw [← hx2] at p2 n2
          have HX : Hid (nds L (i + 1) = nds L i ++ [x0, x1, x2]) := by show _ = _; rw [nds_snoc, hx0, hx1, hx2]
          clear hx0 hx1 hx2 hbw
          go_wp2_with (first
            | (at_builtin; refine wpList_append_lies _ (by rfl) (.tmp 34) (.tmp 44) 73 (by rfl) (w.heap.size + 1) 5 i0 (.int .u8 0) 1 1 Tryz.underlying73 hi0 hq0 hq1 hq2 rfl (by omega) _ us.length _ (by rfl) ((HOW.out.alloc _).alloc _) ⟨wr.heap.size + 1, 0, none⟩ 3 3 [.int .u8 x0, .int .u8 x1, .int .u8 x2] (by rfl) (by rfl) ?b1 ?b2 (by omega) ?b3 ?b5 ?b4 (wr.heap.size + 2) (by simp) ?_))
          case b1 => exact newC3 _ (by simp) _ _ _ _
          case b2 => intro u hu; simp at hu; rcases hu with rfl | rfl | rfl <;> rfl
          case b3 => unfold maxLen; omega
          case b5 => omega
          case b4 => simp; omega
          · intro g4 cap4 w4 hown4 hgrow4 _ _
            have HB4 : Hid (Below W.heap.size W w4) := ownC_grown_below (below_then (below_then HBR.out (below_one _)) (below_one _)) (by rw [HWS.out]; simp; omega) ((HOW.out.alloc _).alloc _) (by rw [HWS.out]; exact Nat.le_refl _) hgrow4
            have HO4 : Hid (w4.ownsRow (w.heap.size + 1) 5 1 (.slice (some ⟨g4, 0, none⟩) (us.length + 3) cap4) (us ++ [x0, x1, x2]).length ((us ++ [x0, x1, x2]).map (Value.int .u8))) := by
              show _
              rw [List.length_append, List.map_append]
              exact hown4
            clear hown4 hgrow4 c0 c1 p0 p1 p2
            go_wp2
            go_roundw
            case rel => exact ⟨i + 1, us ++ [x0, x1, x2], (by show _ = _; rw [HX.out, HUS.out, List.append_assoc]), by omega, by go_num, HB4.out, HO4.out⟩
            case measure => simp [intOf]; omega
        · have hie : i = L.n := by omega
          subst hie
          go_wp2_with (first
            | (at_builtin; refine wpList_append_lies _ (by rfl) (.tmp 46) (.tmp 51) 73 (by rfl) (w.heap.size + 1) 5 i0 (.int .u8 0) 1 1 Tryz.underlying73 hi0 hq0 hq1 hq2 rfl (by omega) _ us.length _ (by rfl) (HOW.out.alloc _) ⟨wr.heap.size, 0, none⟩ 1 1 [.int .u8 L.m] (by rfl) (by rfl) ?d1 ?d2 (by omega) ?d3 ?d5 ?d4 (wr.heap.size + 1) (by simp) ?_))
          case d1 => exact cell_one_new _ _ _
          case d2 => intro u hu; simp at hu; subst hu; rfl
          case d3 => unfold maxLen; omega
          case d5 => omega
          case d4 => simp; omega
          · intro g4 cap4 w4 hown4 hgrow4 _ _
            have HB4 : Hid (Below W.heap.size W w4) := ownC_grown_below (below_then HBR.out (below_one _)) (by rw [HWS.out]; simp; omega) (HOW.out.alloc _) (by rw [HWS.out]; exact Nat.le_refl _) hgrow4
            have HO4 : Hid (w4.ownsRow (w.heap.size + 1) 5 1 (.slice (some ⟨g4, 0, none⟩) (us.length + 1) cap4) (us ++ [(L.m : Int)]).length ((us ++ [(L.m : Int)]).map (Value.int .u8))) := by
              show _
              rw [List.length_append, List.map_append]
              exact hown4
            clear hown4 hgrow4 c0 c1 HBR HOW
            go_wp2
            go_loopw [5, 8] (fun v iv wx => ∃ (j : Nat) (vs : List Int), Hid (vs = us ++ [(L.m : Int)] ++ ens L j) ∧ j ≤ L.m ∧ iv = .int .i64 (j : Nat) ∧ Below W.heap.size W wx ∧ wx.ownsRow (w.heap.size + 1) 5 1 v vs.length (vs.map (Value.int .u8))) (fun _ iv _ => L.m - (intOf iv).toNat)
            case atStart => exact ⟨0, _, (by show _ = _; rw [show ens L 0 = [] from rfl, List.append_nil]), Nat.zero_le _, rfl, HB4.out, HO4.out⟩
            case round =>
              rename World => wx
              clear HB4 HO4 hbw
              obtain ⟨j, vs, HVS, hj, rfl, hbel, hown⟩ := hrel
              have HOX : Hid (wx.ownsRow (w.heap.size + 1) 5 1 _ vs.length (vs.map (Value.int .u8))) := hown
              have HBX : Hid (Below W.heap.size W wx) := hbel
              obtain ⟨c0, c1, hbw, hzx⟩ := HW.out wx hbel
              have hvl : vs.length ≤ 1000 := by
                have := ens_len HOK.out j hj
                rw [HVS.out, List.length_append, List.length_append]
                simp
                omega
              clear hown hbel
              by_cases hjl : j < L.m
              · rw [HL.out.entries.addr (by omega)] at c1
                have hbb := HL.out.entries.lt (by omega)
                have e0 := cellTo hbw (HL.out.entries.text j hjl) hbb
                have e1 := cellTo hbw (HL.out.entries.list j hjl) hbb
                obtain ⟨tx, htx⟩ : ∃ x, x = L.tx j := ⟨_, rfl⟩
                obtain ⟨K, hK⟩ : ∃ x, x = L.k j := ⟨_, rfl⟩
                have hI := (HL.out.entries.ints j hjl).below hbw
                have hIx := hI.mono hbw.size
                have htb := HOK.out.tx j hjl
                have hkb := HOK.out.k j hjl
                have hzb := HOK.out.z j hjl
                rw [← htx] at e0 htb
                rw [← hK] at e1 hkb hzb hIx
                have HET : Hid (Calls Tryz.prog 76 #[.agg #[.string tx, .slice (L.la j) K (L.lc j)]] wx fun e w' => e = .returned (.string (strOfNums (enC tx K (L.z j)))) ∧ Below wx.heap.size wx w') := entryText_any tx _ K _ _ _ (L.z j) wx (by omega) (by omega) (fun q hq => by have := hzb q hq; omega) hIx
                obtain ⟨la, hla⟩ : ∃ x, x = L.la j := ⟨_, rfl⟩
                obtain ⟨lc, hlc⟩ : ∃ x, x = L.lc j := ⟨_, rfl⟩
                obtain ⟨us2, hus2⟩ : ∃ x, x = enC tx K (L.z j) := ⟨_, rfl⟩
                obtain ⟨st, hst⟩ : ∃ x, x = strOfNums us2 := ⟨_, rfl⟩
                rw [← hla, ← hlc] at e1 HET
                rw [← hus2, ← hst] at HET
                have HSN : Hid (ens L (j + 1) = ens L j ++ us2) := by show _ = _; rw [ens_snoc, hus2, htx, hK]
                have hul2 : us2.length ≤ 1000 := by rw [hus2, enC_len]; omega
                have hsts : st.size = us2.length := by rw [hst, strOfNums_size]
                have hsl : st.size ≤ 1000 := by omega
                have HSC : Hid (Go.Lib.strCells st = us2.map (Value.int .u8) ∧ st.size = us2.length) := by
                  refine ⟨?_, hsts⟩
                  have hbd : ∀ x ∈ us2, 0 ≤ x ∧ x ≤ 255 := by
                    intro x hx
                    rw [hus2] at hx
                    simp only [enC, List.mem_append, List.mem_singleton] at hx
                    rcases hx with ((hx | hx) | hx) | hx
                    · omega
                    · simp only [blC, List.mem_map] at hx
                      obtain ⟨u, _, rfl⟩ := hx
                      have := UInt8.toNat_lt u
                      omega
                    · omega
                    · simp only [zl, List.mem_map, List.mem_range] at hx
                      obtain ⟨q, hq, rfl⟩ := hx
                      have := hzb q hq
                      omega
                  rw [hst]
                  unfold Go.Lib.strCells
                  rw [strOfNums_data, List.map_map]
                  refine List.map_congr_left fun x hx => ?_
                  have := hbd x hx
                  have h1 : x.toNat % 256 = x.toNat := by omega
                  simp [h1]
                  omega
                clear htx hK hI hIx hzb hla hlc hus2 hst hsts hbw
                go_wp2_with fail
                refine Calls.mono HET.out ?_
                rintro e w5 ⟨rfl, hb5⟩
                have HB5 : Hid (Below W.heap.size W w5) := below_then HBX.out hb5
                have hz5 : wx.heap.size ≤ w5.heap.size := hb5.size
                have HO5 : Hid (w5.ownsRow (w.heap.size + 1) 5 1 _ vs.length (vs.map (Value.int .u8))) := ownC_below HOX.out hb5
                clear hb5 HET c0 c1 e0 e1 HOX HBX
                go_wp2_with (first
                  | (at_builtin; refine Go.Lib.wpList_append_own_string _ (by rfl) (.tmp 66) (.tmp 67) 73 9 (by rfl) (w.heap.size + 1) 5 i0 Tryz.underlying73 Tryz.underlying9 hi0 hq0 hq1 hq2 _ vs.length _ (by rfl) HO5.out st (by rfl) ?f1 ?f2 ?f3 ?_))
                case f1 => unfold maxLen; omega
                case f2 => omega
                case f3 => omega
                · intro v6 w6 hown6 hgrow6 _
                  have HB6 : Hid (Below W.heap.size W w6) := ownC_grown_below HB5.out (by rw [HWS.out]; omega) HO5.out (by rw [HWS.out]; exact Nat.le_refl _) hgrow6
                  have HO6 : Hid (w6.ownsRow (w.heap.size + 1) 5 1 v6 (vs ++ us2).length ((vs ++ us2).map (Value.int .u8))) := by
                    show _
                    rw [List.length_append, List.map_append, ← HSC.out.1, ← HSC.out.2]
                    exact hown6
                  clear hown6 hgrow6 HB5 HO5
                  go_wp2
                  go_roundw
                  case rel => exact ⟨j + 1, vs ++ us2, (by show _ = _; rw [HSN.out, HVS.out, List.append_assoc]), by omega, by go_num, HB6.out, HO6.out⟩
                  case measure => simp [intOf]; omega
              · have hje : j = L.m := by omega
                subst hje
                obtain ⟨vo9, vc9, hv9, hcv⟩ := convC HOX.out
                subst hv9
                have HEN : Hid (vs = encN L) := by show _ = _; rw [HVS.out, HUS.out]; rfl
                have HBW : Hid (Below w.heap.size w wx) := hbw
                clear hbw
                go_wp2
                go_ret2
                exact ⟨by rw [HVV.out, HE.out, ← HEN.out]; rfl, HBW.out⟩
  · have HVV : Hid (encV L = { data := #[] }) := encV_no he
    have HV : Hid (∀ wx, Below w.heap.size w wx → Calls Tryz.prog 36 #[.agg #[.slice L.na L.n L.nc, .slice L.ea L.m L.ec]] wx fun e w' => e = .returned (.int .i64 L.err) ∧ Below wx.heap.size wx w') := fun wx hb => tableValid_any L wx (HIN.out wx hb)
    have he' : (L.err == 0) = false := by simpa using he
    go_enter Tryz.func46, Tryz.ntmps46
    go_wp2_with fail
    refine (HV.out _ (below_one _)).mono ?_
    rintro e w1 ⟨rfl, hb1⟩
    go_wp2
    go_ret2
    exact ⟨by rw [HVV.out]; rfl, below_then (below_one _) hb1⟩

end Go.Proofs.YtpclldccjpncdabGreat
