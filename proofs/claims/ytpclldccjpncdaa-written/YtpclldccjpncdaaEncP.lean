import Derived.Test.YtpclldccjpncdaaOwnC
import Derived.Test.YtpclldccjpncdaaCutY
import Derived.Laws.BytesArg
import Derived.Lib.AppendStr
namespace Go.Proofs.Ytpclldccjpncdaa
open Go.RowKit

/-- the bytes of a text, as numbers -/
def blC (s : ByteArray) : List Int := s.data.toList.map fun u => (u.toNat : Int)
theorem blC_len (s : ByteArray) : (blC s).length = s.size := by rw [blC, List.length_map, Array.length_toList]; rfl
theorem blC_cells (s : ByteArray) : Go.Lib.strCells s = (blC s).map (Value.int .u8) := by simp [Go.Lib.strCells, blC]
theorem blC_str (s : ByteArray) : strOfNums (blC s) = s := by
  apply ByteArray.ext
  apply Array.ext'
  rw [strOfNums_data, blC, List.map_map]
  refine (List.map_congr_left (g := id) fun u _ => ?_).trans (List.map_id _)
  simp
theorem str_app (a b : List Int) : strOfNums (a ++ b) = strOfNums a ++ strOfNums b := by
  apply ByteArray.ext
  apply Array.ext'
  rw [ByteArray.data_append, Array.toList_append, strOfNums_data, strOfNums_data, strOfNums_data, List.map_append]
/-- bytes of one's own become a text -/
theorem convC {w : World} {base : Nat} {v : Value} {l : List Int} (ho : w.ownsRow base 5 1 v l.length (l.map (Value.int .u8))) : ∃ vo vc, v = .slice vo l.length vc ∧ (convert 50 9 (.slice vo l.length vc)).run Try.prog w = .ok (.string (strOfNums l)) w := by
  obtain ⟨vo, vc, gv, rfl, ha, hc⟩ := ownC_cells ho
  refine ⟨vo, vc, rfl, ?_⟩
  by_cases h0 : 0 < l.length
  · rw [(ha h0).1]
    refine run_convert_bytes_arg w 50 5 Try.underlying50 Try.underlying5 gv 0 l.length vc l rfl (fun i hi => ?_) 9 Try.underlying9
    have := hc i (.int .u8 (l.getD i 0)) (by omega) (by simp [List.getD, List.getElem?_eq_getElem hi])
    simpa using this
  · have hl : l = [] := List.eq_nil_of_length_eq_zero (by omega)
    subst hl
    obtain ⟨_, h2⟩ := ho
    rcases h2 with ⟨hv, _⟩ | ⟨g, cap, cur, hv, _⟩
    · cases hv
      exact run_convert_bytes_nil w 50 5 Try.underlying50 Try.underlying5 0 0 9 Try.underlying9
    · cases hv
      exact run_convert_bytes_arg w 50 5 Try.underlying50 Try.underlying5 g 0 0 vc [] rfl (fun i hi => by omega) 9 Try.underlying9

def zl (k : Nat) (z : Nat → Int) : List Int := (List.range k).map z
theorem zl_len (k : Nat) (z : Nat → Int) : (zl k z).length = k := by simp [zl]
theorem zl_snoc (k : Nat) (z : Nat → Int) : zl (k + 1) z = zl k z ++ [z k] := by simp [zl, List.range_succ]
/-- the numbers of an entry -/
def enC (tx : ByteArray) (k : Nat) (z : Nat → Int) : List Int := [(tx.size : Int)] ++ blC tx ++ [(k : Int)] ++ zl k z

set_option maxRecDepth 100000 in
set_option maxHeartbeats 1000000 in
theorem entryText_any (tx : ByteArray) (ao : Option Addr) (k cap b off : Nat) (z : Nat → Int) (w : World) (ht : tx.size ≤ 255) (hk : k ≤ 255) (hz : ∀ j, j < k → 0 ≤ z j ∧ z j ≤ 255) (h : IntsIn w.heap.size w ao k b off z) :
    Calls Try.prog 46 #[.agg #[.string tx, .slice ao k cap]] w fun e w' => e = .returned (.string (strOfNums (enC tx k z))) ∧ Below w.heap.size w w' := by
  obtain ⟨i0, hi0, hq0, hq1, hq2⟩ := info_parts infoByteC
  have HI : Hid (IntsIn w.heap.size w ao k b off z) := h
  have HZ : Hid (∀ j, j < k → 0 ≤ z j ∧ z j ≤ 255) := hz
  clear h hz
  have HW : Hid (∀ wr : World, Below (w.alloc (.cells #[.string tx, .slice ao k cap] 64)).heap.size (w.alloc (.cells #[.string tx, .slice ao k cap] 64)) wr → wr.cell? ⟨w.heap.size, 0, none⟩ = some (.string tx) ∧ wr.cell? ⟨w.heap.size, 1, none⟩ = some (.slice ao k cap) ∧ Below w.heap.size w wr ∧ w.heap.size + 1 ≤ wr.heap.size) := fun wr hb => by
    have hr := row_new w #[.string tx, .slice ao k cap] 64 2 rfl
    refine ⟨cellTo hb (hr.cell (i := 0) (by omega)) (by simp), cellTo hb (hr.cell (i := 1) (by omega)) (by simp), below_then (below_one _) hb, by have := hb.size; simpa using this⟩
  have hWs : (w.alloc (.cells #[.string tx, .slice ao k cap] 64)).heap.size = w.heap.size + 1 := size_one _ _
  have HWS : Hid ((w.alloc (.cells #[.string tx, .slice ao k cap] 64)).heap.size = w.heap.size + 1) := hWs
  clear hWs
  have HD : Hid (enC tx k z = [(tx.size : Int)] ++ blC tx ++ [(k : Int)] ++ zl k z) := rfl
  go_enter Try.func46, Try.ntmps46
  go_wp2_with (first
    | (at_builtin; refine wpList_append_lies _ (by rfl) (.tmp 5) (.tmp 10) 50 (by rfl) (w.heap.size + 1) 5 i0 (.int .u8 0) 1 1 Try.underlying50 hi0 hq0 hq1 hq2 rfl (by omega) _ 0 _ (by rfl) (World.ownsRow_nil _ _ _ _) ⟨w.heap.size + 1, 0, none⟩ 1 1 [.int .u8 tx.size] (by rfl) (by rfl) ?c1 ?c2 (by omega) ?c3 ?c5 ?c4 (w.heap.size + 2) (by simp) ?_))
  case c1 => simpa using cell_one_new (w.alloc (.cells #[.string tx, .slice ao k cap] 64)) (.int .u8 tx.size) 5
  case c2 => intro u hu; simp at hu; subst hu; rfl
  case c3 => unfold maxLen; omega
  case c5 => omega
  case c4 => simp
  · intro g1 cap1 w1 hown1 hgrow1 _ _
    have hb1 : Below (w.alloc (.cells #[.string tx, .slice ao k cap] 64)).heap.size (w.alloc (.cells #[.string tx, .slice ao k cap] 64)) w1 := (below_one _).grown hgrow1 (by simp) (fun r hr => by simp [Value.ownBlock] at hr)
    have HB1 : Hid (Below (w.alloc (.cells #[.string tx, .slice ao k cap] 64)).heap.size (w.alloc (.cells #[.string tx, .slice ao k cap] 64)) w1) := hb1
    obtain ⟨c0, c1, _, hz1⟩ := HW.out w1 hb1
    have HO1 : Hid (w1.ownsRow (w.heap.size + 1) 5 1 (.slice (some ⟨g1, 0, none⟩) (0 + 1) cap1) (0 + 1) ([(tx.size : Int)].map (Value.int .u8))) := hown1
    clear hown1 hgrow1 hb1
    go_wp2_with (first
      | (at_builtin; refine Go.Lib.wpList_append_own_string _ (by rfl) (.tmp 12) (.tmp 14) 50 9 (by rfl) (w.heap.size + 1) 5 i0 Try.underlying50 Try.underlying9 hi0 hq0 hq1 hq2 _ 1 _ (by rfl) HO1.out tx (by rfl) ?d1 ?d2 hz1 ?_))
    case d1 => unfold maxLen; omega
    case d2 => omega
    · intro v2 w2 hown2 hgrow2 _
      have hb2 : Below (w.alloc (.cells #[.string tx, .slice ao k cap] 64)).heap.size (w.alloc (.cells #[.string tx, .slice ao k cap] 64)) w2 := ownC_grown_below HB1.out (by rw [HWS.out]; exact hz1) HO1.out (by rw [HWS.out]; exact Nat.le_refl _) hgrow2
      have HB2 : Hid (Below (w.alloc (.cells #[.string tx, .slice ao k cap] 64)).heap.size (w.alloc (.cells #[.string tx, .slice ao k cap] 64)) w2) := hb2
      obtain ⟨c0', c1', _, hz2⟩ := HW.out w2 hb2
      obtain ⟨ks, hks⟩ : ∃ ks : List Int, ks = [(tx.size : Int)] ++ blC tx := ⟨_, rfl⟩
      have hkl : ks.length = 1 + tx.size := by rw [hks, List.length_append, blC_len]; rfl
      have HKS : Hid (ks = [(tx.size : Int)] ++ blC tx) := hks
      have HO2 : Hid (w2.ownsRow (w.heap.size + 1) 5 1 v2 ks.length (ks.map (Value.int .u8))) := by
        show _
        rw [hkl, hks, List.map_append, ← blC_cells]
        exact hown2
      have hkl' : ks.length ≤ 256 := by omega
      clear hown2 hgrow2 hb2 c0 c1 hks hkl HB1 HO1
      go_wp2_with (first
        | (at_builtin; refine wpList_append_lies _ (by rfl) (.tmp 16) (.tmp 21) 50 (by rfl) (w.heap.size + 1) 5 i0 (.int .u8 0) 1 1 Try.underlying50 hi0 hq0 hq1 hq2 rfl (by omega) _ ks.length _ (by rfl) (HO2.out.alloc _) ⟨w2.heap.size, 0, none⟩ 1 1 [.int .u8 k] (by rfl) (by rfl) ?e1 ?e2 (by omega) ?e3 ?e5 ?e4 (w2.heap.size + 1) (by simp) ?_))
      case e1 => exact cell_one_new _ _ _
      case e2 => intro u hu; simp at hu; subst hu; rfl
      case e3 => unfold maxLen; omega
      case e5 => omega
      case e4 => simp; omega
      · intro g3 cap3 w3 hown3 hgrow3 _ _
        have HB3 : Hid (Below (w.alloc (.cells #[.string tx, .slice ao k cap] 64)).heap.size (w.alloc (.cells #[.string tx, .slice ao k cap] 64)) w3) := ownC_grown_below (below_then HB2.out (below_one _)) (by rw [HWS.out]; simp; omega) (HO2.out.alloc _) (by rw [HWS.out]; exact Nat.le_refl _) hgrow3
        have HO3 : Hid (w3.ownsRow (w.heap.size + 1) 5 1 (.slice (some ⟨g3, 0, none⟩) (ks.length + 1) cap3) (ks ++ [(k : Int)]).length ((ks ++ [(k : Int)]).map (Value.int .u8))) := by
          show _
          rw [List.length_append, List.map_append]
          exact hown3
        clear hown3 hgrow3 HB2 HO2 c0' c1'
        go_wp2
        go_loopw [3, 4] (fun v iv wr => ∃ (i : Nat) (us : List Int), Hid (us = (ks ++ [(k : Int)]) ++ zl i z) ∧ i ≤ k ∧ iv = .int .i64 (i : Nat) ∧ Below (w.alloc (.cells #[.string tx, .slice ao k cap] 64)).heap.size (w.alloc (.cells #[.string tx, .slice ao k cap] 64)) wr ∧ wr.ownsRow (w.heap.size + 1) 5 1 v us.length (us.map (Value.int .u8))) (fun _ iv _ => k - (intOf iv).toNat)
        case atStart => exact ⟨0, _, (by show _ = _; rw [show zl 0 z = [] from rfl, List.append_nil]), Nat.zero_le _, rfl, HB3.out, HO3.out⟩
        case round =>
          clear HB3 HO3
          obtain ⟨i, us, HUS, hi, rfl, hbel, hown⟩ := hrel
          have HOW : Hid (wr.ownsRow (w.heap.size + 1) 5 1 _ us.length (us.map (Value.int .u8))) := hown
          have HBR : Hid (Below (w.alloc (.cells #[.string tx, .slice ao k cap] 64)).heap.size (w.alloc (.cells #[.string tx, .slice ao k cap] 64)) wr) := hbel
          obtain ⟨c0, c1, hbw, hzr⟩ := HW.out wr hbel
          have hul : us.length ≤ 1000 := by rw [HUS.out, List.length_append, List.length_append, zl_len]; simp; omega
          clear hown hbel
          by_cases hlt : i < k
          · rw [HI.out.addr (by omega)] at c1
            have z0 := cellTo hbw (HI.out.cell i hlt) (HI.out.lt (by omega))
            have hbb := HI.out.lt (by omega)
            have hzi := HZ.out i hlt
            obtain ⟨x, hx⟩ : ∃ x, x = z i := ⟨_, rfl⟩
            rw [← hx] at z0 hzi
            have HX : Hid (x = z i) := hx
            clear hx
            go_wp2_with (first
              | (at_builtin; refine wpList_append_lies _ (by rfl) (.tmp 30) (.tmp 37) 50 (by rfl) (w.heap.size + 1) 5 i0 (.int .u8 0) 1 1 Try.underlying50 hi0 hq0 hq1 hq2 rfl (by omega) _ us.length _ (by rfl) (HOW.out.alloc _) ⟨wr.heap.size, 0, none⟩ 1 1 [.int .u8 x] (by rfl) (by rfl) ?f1 ?f2 (by omega) ?f3 ?f5 ?f4 (wr.heap.size + 1) (by simp) ?_))
            case f1 => exact cell_one_new _ _ _
            case f2 => intro u hu; simp at hu; subst hu; rfl
            case f3 => unfold maxLen; omega
            case f5 => omega
            case f4 => simp; omega
            · intro g4 cap4 w4 hown4 hgrow4 _ _
              have HB4 : Hid (Below (w.alloc (.cells #[.string tx, .slice ao k cap] 64)).heap.size (w.alloc (.cells #[.string tx, .slice ao k cap] 64)) w4) := ownC_grown_below (below_then HBR.out (below_one _)) (by rw [HWS.out]; simp; omega) (HOW.out.alloc _) (by rw [HWS.out]; exact Nat.le_refl _) hgrow4
              have HO4 : Hid (w4.ownsRow (w.heap.size + 1) 5 1 (.slice (some ⟨g4, 0, none⟩) (us.length + 1) cap4) (us ++ [x]).length ((us ++ [x]).map (Value.int .u8))) := by
                show _
                rw [List.length_append, List.map_append]
                exact hown4
              clear hown4 hgrow4 c0 c1 z0
              go_wp2
              go_roundw
              case rel => exact ⟨i + 1, us ++ [x], (by show _ = _; rw [zl_snoc, HUS.out, ← HX.out]; simp only [List.append_assoc]), by omega, by go_num, HB4.out, HO4.out⟩
              case measure => simp [intOf]; omega
          · have hie : i = k := by omega
            subst hie
            obtain ⟨vo9, vc9, hv9, hcv⟩ := convC HOW.out
            subst hv9
            have HE : Hid (us = enC tx i z) := by show _ = _; rw [HUS.out, HKS.out, HD.out]
            have HBW : Hid (Below w.heap.size w wr) := hbw
            clear hbw
            go_wp2
            go_ret
            exact ⟨by rw [← HE.out]; rfl, HBW.out⟩

end Go.Proofs.Ytpclldccjpncdaa
