import Derived.Test.YtpclldccjpncdaaEncP
import Derived.Test.YtpclldccjpncdaaValid
namespace Go.Proofs.Ytpclldccjpncdaa
open Go.RowKit

def ndE (L : Lay) (i : Nat) : List Int := [L.p i, L.s i, L.t i]
def nds (L : Lay) (k : Nat) : List Int := (List.range k).flatMap (ndE L)
theorem nds_snoc (L : Lay) (k : Nat) : nds L (k + 1) = nds L k ++ [L.p k, L.s k, L.t k] := by simp [nds, ndE, List.range_succ]
theorem nds_len (L : Lay) : ∀ k, (nds L k).length = k * 3
  | 0 => rfl
  | k + 1 => by rw [nds_snoc, List.length_append, nds_len L k]; simp; omega
def ens (L : Lay) (k : Nat) : List Int := (List.range k).flatMap fun i => enC (L.tx i) (L.k i) (L.z i)
theorem ens_snoc (L : Lay) (k : Nat) : ens L (k + 1) = ens L k ++ enC (L.tx k) (L.k k) (L.z k) := by simp [ens, List.range_succ]
theorem enC_len (tx : ByteArray) (k : Nat) (z : Nat → Int) : (enC tx k z).length = tx.size + k + 2 := by
  simp [enC, blC_len, zl_len]; omega
theorem ens_len {L : Lay} (hok : L.Ok) : ∀ k, k ≤ L.m → (ens L k).length ≤ k * 9
  | 0, _ => by simp [ens]
  | k + 1, h => by
    have h1 := ens_len hok k (by omega)
    have h2 := hok.tx k (by omega)
    have h3 := hok.k k (by omega)
    rw [ens_snoc, List.length_append, enC_len]
    omega
/-- the numbers of a table's text -/
def encN (L : Lay) : List Int := [(L.n : Int)] ++ nds L L.n ++ [(L.m : Int)] ++ ens L L.m
noncomputable def encV (L : Lay) : ByteArray := if L.err ≠ 0 then ByteArray.empty else strOfNums (encN L)
theorem encV_no {L : Lay} (h : L.err ≠ 0) : encV L = ByteArray.empty := by simp [encV, h]
theorem encV_ok {L : Lay} (h : L.err = 0) : encV L = strOfNums (encN L) := by simp [encV, h]
theorem node_bd {L : Lay} (hok : L.Ok) {i : Nat} (hi : i < L.n) : (0 ≤ L.p i ∧ L.p i ≤ 255) ∧ (0 ≤ L.s i ∧ L.s i ≤ 255) ∧ (0 ≤ L.t i ∧ L.t i ≤ 255) := by
  have := hok.node i hi
  simp only [nodeB, decide_eq_true_eq] at this
  omega

set_option maxRecDepth 100000 in
set_option maxHeartbeats 2000000 in
theorem codeEncode_any (L : Lay) (w : World) (h : L.In w.heap.size w) :
    Calls Try.prog 34 #[.agg #[.slice L.na L.n L.nc, .slice L.ea L.m L.ec]] w fun e w' => e = .returned (.tuple #[.string (encV L), .int .i64 L.err]) ∧ Below w.heap.size w w' := by
  obtain ⟨i0, hi0, hq0, hq1, hq2⟩ := info_parts infoByteC
  have HIN : Hid (∀ wx, Below w.heap.size w wx → L.In wx.heap.size wx) := fun wx hb => h.later hb
  have HW : Hid (∀ wr : World, Below (w.alloc (.cells #[.slice L.na L.n L.nc, .slice L.ea L.m L.ec] 26)).heap.size (w.alloc (.cells #[.slice L.na L.n L.nc, .slice L.ea L.m L.ec] 26)) wr → wr.cell? ⟨w.heap.size, 0, none⟩ = some (.slice L.na L.n L.nc) ∧ wr.cell? ⟨w.heap.size, 1, none⟩ = some (.slice L.ea L.m L.ec) ∧ Below w.heap.size w wr ∧ w.heap.size + 1 ≤ wr.heap.size) := fun wr hb => by
    have hr := row_new w #[.slice L.na L.n L.nc, .slice L.ea L.m L.ec] 26 2 rfl
    refine ⟨cellTo hb (hr.cell (i := 0) (by omega)) (by simp), cellTo hb (hr.cell (i := 1) (by omega)) (by simp), below_then (below_one _) hb, by have := hb.size; simpa using this⟩
  have HL : Hid (L.In w.heap.size w) := h
  clear h
  by_cases he : L.err = 0
  · have hok := err_zero he
    have hn := hok.n
    have hm := hok.m
    have HOK : Hid L.Ok := hok
    have HE : Hid (L.err = 0) := he
    have HV : Hid (∀ wx, Below w.heap.size w wx → Calls Try.prog 40 #[.agg #[.slice L.na L.n L.nc, .slice L.ea L.m L.ec]] wx fun e w' => e = .returned (.int .i64 0) ∧ Below wx.heap.size wx w') := fun wx hb => by
      have := tableValid_any L wx (HIN.out wx hb)
      rw [he] at this
      exact this
    have HVV : Hid (encV L = strOfNums (encN L)) := encV_ok he
    clear hok he
    obtain ⟨W, hW⟩ : ∃ W, W = w.alloc (.cells #[.slice L.na L.n L.nc, .slice L.ea L.m L.ec] 26) := ⟨_, rfl⟩
    have HWS : Hid (W.heap.size = w.heap.size + 1) := by show _ = _; rw [hW]; exact size_one _ _
    rw [← hW] at HW
    have HEQ : Hid (W = w.alloc (.cells #[.slice L.na L.n L.nc, .slice L.ea L.m L.ec] 26)) := hW
    clear hW
    go_enter Try.func34, Try.ntmps34
    go_wp2_with fail
    refine (HV.out _ (below_one _)).mono ?_
    rintro e w1 ⟨rfl, hb1⟩
    rw [← HEQ.out] at hb1
    have HB1 : Hid (Below W.heap.size W w1) := hb1
    obtain ⟨c0, c1, _, hz1⟩ := HW.out w1 hb1
    clear hb1 HV
    go_wp2_with (first
      | (at_builtin; refine wpList_append_lies _ (by rfl) (.tmp 15) (.tmp 20) 50 (by rfl) (w.heap.size + 1) 5 i0 (.int .u8 0) 1 1 Try.underlying50 hi0 hq0 hq1 hq2 rfl (by omega) _ 0 _ (by rfl) (World.ownsRow_nil _ _ _ _) ⟨w1.heap.size, 0, none⟩ 1 1 [.int .u8 L.n] (by rfl) (by rfl) ?a1 ?a2 (by omega) ?a3 ?a5 ?a4 (w1.heap.size + 1) (by simp) ?_))
    case a1 => exact cell_one_new _ _ _
    case a2 => intro u hu; simp at hu; subst hu; rfl
    case a3 => unfold maxLen; omega
    case a5 => omega
    case a4 => simp; omega
    · intro g2 cap2 w2 hown2 hgrow2 _ _
      have HB2 : Hid (Below W.heap.size W w2) := (below_then HB1.out (below_one _)).grown hgrow2 (by rw [HWS.out]; simp; omega) (fun r hr => by simp [Value.ownBlock] at hr)
      have HO2 : Hid (w2.ownsRow (w.heap.size + 1) 5 1 (.slice (some ⟨g2, 0, none⟩) (0 + 1) cap2) ([(L.n : Int)]).length (([(L.n : Int)]).map (Value.int .u8))) := hown2
      clear hown2 hgrow2 HB1 c0 c1
      go_wp2
      go_loopw [5, 6] (fun v iv wr => ∃ (i : Nat) (us : List Int), Hid (us = [(L.n : Int)] ++ nds L i) ∧ i ≤ L.n ∧ iv = .int .i64 (i : Nat) ∧ Below W.heap.size W wr ∧ wr.ownsRow (w.heap.size + 1) 5 1 v us.length (us.map (Value.int .u8))) (fun _ iv _ => L.n - (intOf iv).toNat)
      case atStart => exact ⟨0, _, rfl, Nat.zero_le _, rfl, HB2.out, HO2.out⟩
      case round =>
        clear HB2 HO2
        obtain ⟨i, us, HUS, hi, rfl, hbel, hown⟩ := hrel
        have HOW : Hid (wr.ownsRow (w.heap.size + 1) 5 1 _ us.length (us.map (Value.int .u8))) := hown
        have HBR : Hid (Below W.heap.size W wr) := hbel
        obtain ⟨c0, c1, hbw, hzr⟩ := HW.out wr hbel
        have hul : us.length ≤ 200 := by rw [HUS.out, List.length_append, nds_len]; simp; omega
        clear hown hbel
        by_cases hlt : i < L.n
        · rw [HL.out.nodes.addr (by omega)] at c0
          have hbb := HL.out.nodes.lt (by omega)
          have p0 := cellTo hbw (HL.out.nodes.p i hlt) hbb
          have p1 := cellTo hbw (HL.out.nodes.s i hlt) hbb
          have p2 := cellTo hbw (HL.out.nodes.t i hlt) hbb
          obtain ⟨n0, n1, n2⟩ := node_bd HOK.out hlt
          obtain ⟨x0, hx0⟩ : ∃ x, x = L.p i := ⟨_, rfl⟩
          obtain ⟨x1, hx1⟩ : ∃ x, x = L.s i := ⟨_, rfl⟩
          obtain ⟨x2, hx2⟩ : ∃ x, x = L.t i := ⟨_, rfl⟩
          rw [← hx0] at p0 n0
          rw [← hx1] at p1 n1
          rw [← hx2] at p2 n2
          have HX : Hid (nds L (i + 1) = nds L i ++ [x0, x1, x2]) := by show _ = _; rw [nds_snoc, hx0, hx1, hx2]
          clear hx0 hx1 hx2 hbw
          go_wp2_with (first
            | (at_builtin; refine wpList_append_lies _ (by rfl) (.tmp 34) (.tmp 44) 50 (by rfl) (w.heap.size + 1) 5 i0 (.int .u8 0) 1 1 Try.underlying50 hi0 hq0 hq1 hq2 rfl (by omega) _ us.length _ (by rfl) ((HOW.out.alloc _).alloc _) ⟨wr.heap.size + 1, 0, none⟩ 3 3 [.int .u8 x0, .int .u8 x1, .int .u8 x2] (by rfl) (by rfl) ?b1 ?b2 (by omega) ?b3 ?b5 ?b4 (wr.heap.size + 2) (by simp) ?_))
          case b1 => exact newC3 _ (by simp) _ _ _ _
          case b2 => intro u hu; simp at hu; rcases hu with rfl | rfl | rfl <;> rfl
          case b3 => unfold maxLen; omega
          case b5 => omega
          case b4 => simp; omega
          · intro g4 cap4 w4 hown4 hgrow4 _ _
            have HB4 : Hid (Below W.heap.size W w4) := ownC_grown_below (below_then (below_then HBR.out (below_one _)) (below_one _)) (by rw [HWS.out]; simp; omega) ((HOW.out.alloc _).alloc _) (by rw [HWS.out]; exact Nat.le_refl _) hgrow4
            have HO4 : Hid (w4.ownsRow (w.heap.size + 1) 5 1 (.slice (some ⟨g4, 0, none⟩) (us.length + 3) cap4) (us ++ [x0, x1, x2]).length ((us ++ [x0, x1, x2]).map (Value.int .u8))) := by
              show _
              rw [List.length_append, List.map_append]
              exact hown4
            clear hown4 hgrow4 c0 c1 p0 p1 p2
            go_wp2
            go_roundw
            case rel => exact ⟨i + 1, us ++ [x0, x1, x2], (by show _ = _; rw [HX.out, HUS.out, List.append_assoc]), by omega, by go_num, HB4.out, HO4.out⟩
            case measure => simp [intOf]; omega
        · have hie : i = L.n := by omega
          subst hie
          go_wp2_with (first
            | (at_builtin; refine wpList_append_lies _ (by rfl) (.tmp 46) (.tmp 51) 50 (by rfl) (w.heap.size + 1) 5 i0 (.int .u8 0) 1 1 Try.underlying50 hi0 hq0 hq1 hq2 rfl (by omega) _ us.length _ (by rfl) (HOW.out.alloc _) ⟨wr.heap.size, 0, none⟩ 1 1 [.int .u8 L.m] (by rfl) (by rfl) ?d1 ?d2 (by omega) ?d3 ?d5 ?d4 (wr.heap.size + 1) (by simp) ?_))
          case d1 => exact cell_one_new _ _ _
          case d2 => intro u hu; simp at hu; subst hu; rfl
          case d3 => unfold maxLen; omega
          case d5 => omega
          case d4 => simp; omega
          · intro g4 cap4 w4 hown4 hgrow4 _ _
            have HB4 : Hid (Below W.heap.size W w4) := ownC_grown_below (below_then HBR.out (below_one _)) (by rw [HWS.out]; simp; omega) (HOW.out.alloc _) (by rw [HWS.out]; exact Nat.le_refl _) hgrow4
            have HO4 : Hid (w4.ownsRow (w.heap.size + 1) 5 1 (.slice (some ⟨g4, 0, none⟩) (us.length + 1) cap4) (us ++ [(L.m : Int)]).length ((us ++ [(L.m : Int)]).map (Value.int .u8))) := by
              show _
              rw [List.length_append, List.map_append]
              exact hown4
            clear hown4 hgrow4 c0 c1 HBR HOW
            go_wp2
            go_loopw [5, 8] (fun v iv wx => ∃ (j : Nat) (vs : List Int), Hid (vs = us ++ [(L.m : Int)] ++ ens L j) ∧ j ≤ L.m ∧ iv = .int .i64 (j : Nat) ∧ Below W.heap.size W wx ∧ wx.ownsRow (w.heap.size + 1) 5 1 v vs.length (vs.map (Value.int .u8))) (fun _ iv _ => L.m - (intOf iv).toNat)
            case atStart => exact ⟨0, _, (by show _ = _; rw [show ens L 0 = [] from rfl, List.append_nil]), Nat.zero_le _, rfl, HB4.out, HO4.out⟩
            case round =>
              rename World => wx
              clear HB4 HO4 hbw
              obtain ⟨j, vs, HVS, hj, rfl, hbel, hown⟩ := hrel
              have HOX : Hid (wx.ownsRow (w.heap.size + 1) 5 1 _ vs.length (vs.map (Value.int .u8))) := hown
              have HBX : Hid (Below W.heap.size W wx) := hbel
              obtain ⟨c0, c1, hbw, hzx⟩ := HW.out wx hbel
              have hvl : vs.length ≤ 1000 := by
                have := ens_len HOK.out j hj
                rw [HVS.out, List.length_append, List.length_append]
                simp
                omega
              clear hown hbel
              by_cases hjl : j < L.m
              · rw [HL.out.entries.addr (by omega)] at c1
                have hbb := HL.out.entries.lt (by omega)
                have e0 := cellTo hbw (HL.out.entries.text j hjl) hbb
                have e1 := cellTo hbw (HL.out.entries.list j hjl) hbb
                obtain ⟨tx, htx⟩ : ∃ x, x = L.tx j := ⟨_, rfl⟩
                obtain ⟨K, hK⟩ : ∃ x, x = L.k j := ⟨_, rfl⟩
                have hI := (HL.out.entries.ints j hjl).below hbw
                have hIx := hI.mono hbw.size
                have htb := HOK.out.tx j hjl
                have hkb := HOK.out.k j hjl
                have hzb := HOK.out.z j hjl
                rw [← htx] at e0 htb
                rw [← hK] at e1 hkb hzb hIx
                have HET : Hid (Calls Try.prog 46 #[.agg #[.string tx, .slice (L.la j) K (L.lc j)]] wx fun e w' => e = .returned (.string (strOfNums (enC tx K (L.z j)))) ∧ Below wx.heap.size wx w') := entryText_any tx _ K _ _ _ (L.z j) wx (by omega) (by omega) (fun q hq => by have := hzb q hq; omega) hIx
                obtain ⟨la, hla⟩ : ∃ x, x = L.la j := ⟨_, rfl⟩
                obtain ⟨lc, hlc⟩ : ∃ x, x = L.lc j := ⟨_, rfl⟩
                obtain ⟨us2, hus2⟩ : ∃ x, x = enC tx K (L.z j) := ⟨_, rfl⟩
                obtain ⟨st, hst⟩ : ∃ x, x = strOfNums us2 := ⟨_, rfl⟩
                rw [← hla, ← hlc] at e1 HET
                rw [← hus2, ← hst] at HET
                have HSN : Hid (ens L (j + 1) = ens L j ++ us2) := by show _ = _; rw [ens_snoc, hus2, htx, hK]
                have hul2 : us2.length ≤ 1000 := by rw [hus2, enC_len]; omega
                have hsts : st.size = us2.length := by rw [hst, strOfNums_size]
                have hsl : st.size ≤ 1000 := by omega
                have HSC : Hid (Go.Lib.strCells st = us2.map (Value.int .u8) ∧ st.size = us2.length) := by
                  refine ⟨?_, hsts⟩
                  have hbd : ∀ x ∈ us2, 0 ≤ x ∧ x ≤ 255 := by
                    intro x hx
                    rw [hus2] at hx
                    simp only [enC, List.mem_append, List.mem_singleton] at hx
                    rcases hx with ((hx | hx) | hx) | hx
                    · omega
                    · simp only [blC, List.mem_map] at hx
                      obtain ⟨u, _, rfl⟩ := hx
                      have := UInt8.toNat_lt u
                      omega
                    · omega
                    · simp only [zl, List.mem_map, List.mem_range] at hx
                      obtain ⟨q, hq, rfl⟩ := hx
                      have := hzb q hq
                      omega
                  rw [hst]
                  unfold Go.Lib.strCells
                  rw [strOfNums_data, List.map_map]
                  refine List.map_congr_left fun x hx => ?_
                  have := hbd x hx
                  have h1 : x.toNat % 256 = x.toNat := by omega
                  simp [h1]
                  omega
                clear htx hK hI hIx hzb hla hlc hus2 hst hsts hbw
                go_wp2_with fail
                refine Calls.mono HET.out ?_
                rintro e w5 ⟨rfl, hb5⟩
                have HB5 : Hid (Below W.heap.size W w5) := below_then HBX.out hb5
                have hz5 : wx.heap.size ≤ w5.heap.size := hb5.size
                have HO5 : Hid (w5.ownsRow (w.heap.size + 1) 5 1 _ vs.length (vs.map (Value.int .u8))) := ownC_below HOX.out hb5
                clear hb5 HET c0 c1 e0 e1 HOX HBX
                go_wp2_with (first
                  | (at_builtin; refine Go.Lib.wpList_append_own_string _ (by rfl) (.tmp 66) (.tmp 67) 50 9 (by rfl) (w.heap.size + 1) 5 i0 Try.underlying50 Try.underlying9 hi0 hq0 hq1 hq2 _ vs.length _ (by rfl) HO5.out st (by rfl) ?f1 ?f2 ?f3 ?_))
                case f1 => unfold maxLen; omega
                case f2 => omega
                case f3 => omega
                · intro v6 w6 hown6 hgrow6 _
                  have HB6 : Hid (Below W.heap.size W w6) := ownC_grown_below HB5.out (by rw [HWS.out]; omega) HO5.out (by rw [HWS.out]; exact Nat.le_refl _) hgrow6
                  have HO6 : Hid (w6.ownsRow (w.heap.size + 1) 5 1 v6 (vs ++ us2).length ((vs ++ us2).map (Value.int .u8))) := by
                    show _
                    rw [List.length_append, List.map_append, ← HSC.out.1, ← HSC.out.2]
                    exact hown6
                  clear hown6 hgrow6 HB5 HO5
                  go_wp2
                  go_roundw
                  case rel => exact ⟨j + 1, vs ++ us2, (by show _ = _; rw [HSN.out, HVS.out, List.append_assoc]), by omega, by go_num, HB6.out, HO6.out⟩
                  case measure => simp [intOf]; omega
              · have hje : j = L.m := by omega
                subst hje
                obtain ⟨vo9, vc9, hv9, hcv⟩ := convC HOX.out
                subst hv9
                have HEN : Hid (vs = encN L) := by show _ = _; rw [HVS.out, HUS.out]; rfl
                have HBW : Hid (Below w.heap.size w wx) := hbw
                clear hbw
                go_wp2
                go_ret2
                exact ⟨by rw [HVV.out, HE.out, ← HEN.out]; rfl, HBW.out⟩
  · have HVV : Hid (encV L = { data := #[] }) := encV_no he
    have HV : Hid (∀ wx, Below w.heap.size w wx → Calls Try.prog 40 #[.agg #[.slice L.na L.n L.nc, .slice L.ea L.m L.ec]] wx fun e w' => e = .returned (.int .i64 L.err) ∧ Below wx.heap.size wx w') := fun wx hb => tableValid_any L wx (HIN.out wx hb)
    have he' : (L.err == 0) = false := by simpa using he
    go_enter Try.func34, Try.ntmps34
    go_wp2_with fail
    refine (HV.out _ (below_one _)).mono ?_
    rintro e w1 ⟨rfl, hb1⟩
    go_wp2
    go_ret2
    exact ⟨by rw [HVV.out]; rfl, below_then (below_one _) hb1⟩

end Go.Proofs.Ytpclldccjpncdaa
