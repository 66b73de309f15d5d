import Derived.Test.YtpclldccjpncdaaGreatEncW
import Derived.Test.YtpclldccjpncdaaGreatRefC
namespace Go.Proofs.YtpclldccjpncdaaGreat
open Go.RowKit

set_option maxRecDepth 100000 in
set_option maxHeartbeats 2000000 in
theorem encode_any (L : Lay) (w : World) (h : L.In w.heap.size w) :
    Calls Tryz.prog 27 #[.agg #[.slice L.na L.n L.nc, .slice L.ea L.m L.ec]] w fun e w' => e = .returned (.tuple #[.string (encV L), .int .i64 L.err]) ∧ Below w.heap.size w w' := by
  have HC : Hid (Calls Tryz.prog 51 #[.agg #[.slice L.na L.n L.nc, .slice L.ea L.m L.ec]] (w.alloc (.cells #[.slice L.na L.n L.nc, .slice L.ea L.m L.ec] 28)) fun e w' => e = .returned (.tuple #[.string (encV L), .int .i64 L.err]) ∧ Below (w.alloc (.cells #[.slice L.na L.n L.nc, .slice L.ea L.m L.ec] 28)).heap.size (w.alloc (.cells #[.slice L.na L.n L.nc, .slice L.ea L.m L.ec] 28)) w') := codeEncode_any L _ (h.later (below_one _))
  clear h
  go_enter Tryz.func27, Tryz.ntmps27
  go_wp2_with fail
  refine Calls.mono HC.out ?_
  rintro e w1 ⟨rfl, hb1⟩
  go_wp2
  go_ret2
  exact ⟨rfl, below_then (below_one _) hb1⟩

theorem convN {w0 : World} {B : Nat} (l : List Int) (cs : Array Value) (hcs : cs = (l.map (Value.int .u8)).toArray) (hB : w0.heap.size = B) : (convert 73 9 (.slice (some ⟨B, 0, none⟩) l.length l.length)).run Tryz.prog (w0.alloc (.cells cs 5)) = .ok (.string (strOfNums l)) (w0.alloc (.cells cs 5)) := by
  subst hcs
  refine run_convert_bytes_arg _ 73 5 Tryz.underlying73 Tryz.underlying5 B 0 l.length l.length l rfl (fun i hi => ?_) 9 Tryz.underlying9
  have := World.news_of_block (heap_alloc_new w0 (.cells (l.map (Value.int .u8)).toArray 5)) i (.int .u8 (l.getD i 0)) (by simp [List.getD, List.getElem?_eq_getElem hi])
  rw [hB, Addr.add_lit] at this
  simpa using this

set_option maxRecDepth 100000 in
set_option maxHeartbeats 2000000 in
theorem refEncode_any (L : Lay) (w : World) (h : L.In w.heap.size w) :
    Calls Tryz.prog 28 #[.agg #[.slice L.na L.n L.nc, .slice L.ea L.m L.ec]] w fun e w' => e = .returned (.tuple #[.string (encV L), .int .i64 L.err]) ∧ Below w.heap.size w w' := by
  have HIN : Hid (∀ wx, Below w.heap.size w wx → L.In wx.heap.size wx) := fun wx hb => h.later hb
  have HW : Hid (∀ wr : World, Below (w.alloc (.cells #[.slice L.na L.n L.nc, .slice L.ea L.m L.ec] 28)).heap.size (w.alloc (.cells #[.slice L.na L.n L.nc, .slice L.ea L.m L.ec] 28)) wr → wr.cell? ⟨w.heap.size, 0, none⟩ = some (.slice L.na L.n L.nc) ∧ wr.cell? ⟨w.heap.size, 1, none⟩ = some (.slice L.ea L.m L.ec) ∧ Below w.heap.size w wr ∧ w.heap.size + 1 ≤ wr.heap.size) := fun wr hb => by
    have hr := row_new w #[.slice L.na L.n L.nc, .slice L.ea L.m L.ec] 28 2 rfl
    refine ⟨cellTo hb (hr.cell (i := 0) (by omega)) (by simp), cellTo hb (hr.cell (i := 1) (by omega)) (by simp), below_then (below_one _) hb, by have := hb.size; simpa using this⟩
  have HL : Hid (L.In w.heap.size w) := h
  clear h
  by_cases he : L.err = 0
  · have hok := err_zero he
    have hn := hok.n
    have hm := hok.m
    have HOK : Hid L.Ok := hok
    have HE : Hid (L.err = 0) := he
    have HV : Hid (∀ wx, Below w.heap.size w wx → Calls Tryz.prog 19 #[.agg #[.slice L.na L.n L.nc, .slice L.ea L.m L.ec]] wx fun e w' => e = .returned (.int .i64 0) ∧ Below wx.heap.size wx w') := fun wx hb => by
      have := refValid_any L wx (HIN.out wx hb)
      rw [he] at this
      exact this
    have HVV : Hid (encV L = strOfNums (encN L)) := encV_ok he
    clear hok he
    obtain ⟨W, hW⟩ : ∃ W, W = w.alloc (.cells #[.slice L.na L.n L.nc, .slice L.ea L.m L.ec] 28) := ⟨_, rfl⟩
    have HWS : Hid (W.heap.size = w.heap.size + 1) := by show _ = _; rw [hW]; exact size_one _ _
    rw [← hW] at HW
    have HEQ : Hid (W = w.alloc (.cells #[.slice L.na L.n L.nc, .slice L.ea L.m L.ec] 28)) := hW
    clear hW
    go_enter Tryz.func28, Tryz.ntmps28
    go_wp2_with fail
    refine (HV.out _ (below_one _)).mono ?_
    rintro e w1 ⟨rfl, hb1⟩
    rw [← HEQ.out] at hb1
    have HB1 : Hid (Below W.heap.size W w1) := hb1
    obtain ⟨c0, c1, _, hz1⟩ := HW.out w1 hb1
    clear hb1 HV
    have v1 := convN (w0 := w1) [(L.n : Int)] #[.int .u8 L.n] rfl rfl
    have HLn : Hid (strOfNums [(L.n : Int)] = strOfNums ([(L.n : Int)] ++ nds L 0)) := rfl
    obtain ⟨r0, hr0⟩ : ∃ r, r = strOfNums [(L.n : Int)] := ⟨_, rfl⟩
    have HR0 : Hid (r0 = strOfNums [(L.n : Int)]) := hr0
    rw [← hr0] at v1
    simp only [List.length_singleton] at v1
    have HBL : Hid (Below W.heap.size W (w1.alloc (.cells #[.int .u8 L.n] 5))) := below_then HB1.out (below_one _)
    clear hr0
    go_wp2
    clear v1 c0 c1
    go_loopw [5, 6] (fun sv iv wr => ∃ (i : Nat) (r : ByteArray), Hid (r = strOfNums ([(L.n : Int)] ++ nds L i)) ∧ i ≤ L.n ∧ sv = .string r ∧ iv = .int .i64 (i : Nat) ∧ Below W.heap.size W wr) (fun _ iv _ => L.n - (intOf iv).toNat)
    case atStart => exact ⟨0, r0, (by show _ = _; rw [HR0.out, HLn.out]), Nat.zero_le _, rfl, rfl, HBL.out⟩
    case round =>
      clear HBL HB1 HLn HR0
      obtain ⟨i, r, HR, hi, rfl, rfl, hbel⟩ := hrel
      have HBR : Hid (Below W.heap.size W wr) := hbel
      obtain ⟨c0, c1, hbw, hzr⟩ := HW.out wr hbel
      have hrl : r.size ≤ 1000 := by rw [HR.out, strOfNums_size, List.length_append, nds_len]; simp; omega
      clear hbel
      by_cases hlt : i < L.n
      · rw [HL.out.nodes.addr (by omega)] at c0
        have hbb := HL.out.nodes.lt (by omega)
        have p0 := cellTo hbw (HL.out.nodes.p i hlt) hbb
        have p1 := cellTo hbw (HL.out.nodes.s i hlt) hbb
        have p2 := cellTo hbw (HL.out.nodes.t i hlt) hbb
        obtain ⟨n0, n1, n2⟩ := node_bd HOK.out hlt
        obtain ⟨x0, hx0⟩ : ∃ x, x = L.p i := ⟨_, rfl⟩
        obtain ⟨x1, hx1⟩ : ∃ x, x = L.s i := ⟨_, rfl⟩
        obtain ⟨x2, hx2⟩ : ∃ x, x = L.t i := ⟨_, rfl⟩
        rw [← hx0] at p0 n0
        rw [← hx1] at p1 n1
        rw [← hx2] at p2 n2
        have HX : Hid (nds L (i + 1) = nds L i ++ [x0, x1, x2]) := by show _ = _; rw [nds_snoc, hx0, hx1, hx2]
        clear hx0 hx1 hx2 hbw
        have v1 := convN (w0 := wr.alloc (.cells #[.int .i64 x0, .int .i64 x1, .int .i64 x2] 65)) (B := wr.heap.size + 1) [x0, x1, x2] #[.int .u8 x0, .int .u8 x1, .int .u8 x2] rfl (size_one _ _)
        obtain ⟨rr, hrr⟩ : ∃ r, r = strOfNums [x0, x1, x2] := ⟨_, rfl⟩
        have HRR : Hid (rr = strOfNums [x0, x1, x2]) := hrr
        have hrrl : rr.size ≤ 3 := by rw [hrr, strOfNums_size]; simp
        rw [← hrr] at v1
        simp only [List.length_cons, List.length_nil, Nat.zero_add, Nat.reduceAdd] at v1
        clear hrr
        go_wp2
        clear v1
        go_roundw
        case rel => exact ⟨i + 1, _, (by show _ = _; rw [HX.out, ← List.append_assoc, str_app, ← HR.out, ← HRR.out]), by omega, rfl, by go_num, below_then (below_then HBR.out (below_one _)) (below_one _)⟩
        case measure => simp [intOf]; omega
      · have hie : i = L.n := by omega
        subst hie
        have v1 := convN (w0 := wr) [(L.m : Int)] #[.int .u8 L.m] rfl rfl
        obtain ⟨r1, hr1⟩ : ∃ r, r = strOfNums [(L.m : Int)] := ⟨_, rfl⟩
        have HR1 : Hid (r1 = strOfNums [(L.m : Int)]) := hr1
        have hr1l : r1.size ≤ 1 := by rw [hr1, strOfNums_size]; simp
        rw [← hr1] at v1
        simp only [List.length_singleton] at v1
        have HBL : Hid (Below W.heap.size W (wr.alloc (.cells #[.int .u8 L.m] 5))) := below_then HBR.out (below_one _)
        obtain ⟨us, hus⟩ : ∃ us : List Int, us = [(L.n : Int)] ++ nds L L.n ++ [(L.m : Int)] := ⟨_, rfl⟩
        have HUS : Hid (us = [(L.n : Int)] ++ nds L L.n ++ [(L.m : Int)]) := hus
        have HS0 : Hid (r ++ r1 = strOfNums (us ++ ens L 0)) := by show _ = _; rw [hus, show ens L 0 = [] from rfl, List.append_nil, str_app, ← HR.out, ← HR1.out]
        have hul : us.length ≤ 200 := by rw [hus, List.length_append, List.length_append, nds_len]; simp; omega
        clear hr1 hus hbw
        go_wp2
        clear v1 c0 c1
        go_loopw [5, 8] (fun sv iv wx => ∃ (j : Nat) (q : ByteArray), Hid (q = strOfNums (us ++ ens L j)) ∧ j ≤ L.m ∧ sv = .string q ∧ iv = .int .i64 (j : Nat) ∧ Below W.heap.size W wx) (fun _ iv _ => L.m - (intOf iv).toNat)
        case atStart => exact ⟨0, _, HS0.out, Nat.zero_le _, rfl, rfl, HBL.out⟩
        case round =>
          rename World => wx
          clear HBL HS0 HR1 hr1l
          obtain ⟨j, q, HQ, hj, rfl, rfl, hbel⟩ := hrel
          have HBX : Hid (Below W.heap.size W wx) := hbel
          obtain ⟨c0, c1, hbw, hzx⟩ := HW.out wx hbel
          have hql : q.size ≤ 1000 := by
            have := ens_len HOK.out j hj
            rw [HQ.out, strOfNums_size, List.length_append]
            omega
          clear hbel
          by_cases hjl : j < L.m
          · rw [HL.out.entries.addr (by omega)] at c1
            have hbb := HL.out.entries.lt (by omega)
            have e0 := cellTo hbw (HL.out.entries.text j hjl) hbb
            have e1 := cellTo hbw (HL.out.entries.list j hjl) hbb
            obtain ⟨tx, htx⟩ : ∃ x, x = L.tx j := ⟨_, rfl⟩
            obtain ⟨K, hK⟩ : ∃ x, x = L.k j := ⟨_, rfl⟩
            obtain ⟨la, hla⟩ : ∃ x, x = L.la j := ⟨_, rfl⟩
            obtain ⟨lc, hlc⟩ : ∃ x, x = L.lc j := ⟨_, rfl⟩
            have htb := HOK.out.tx j hjl
            have hkb := HOK.out.k j hjl
            have HZB : Hid (∀ c, c < K → 0 ≤ L.z j c ∧ L.z j c < L.n) := fun c hc => HOK.out.z j hjl c (by rw [← hK]; exact hc)
            have HIN2 : Hid (IntsIn w.heap.size w la K (L.lb j) (L.lo j) (L.z j)) := by show IntsIn _ _ _ _ _ _ _; rw [hla, hK]; exact HL.out.entries.ints j hjl
            rw [← htx] at e0 htb
            rw [← hK] at hkb
            rw [← hla, ← hK, ← hlc] at e1
            have HSN : Hid (ens L (j + 1) = ens L j ++ enC tx K (L.z j)) := by show _ = _; rw [ens_snoc, htx, hK]
            have hz0 : wx.heap.size + 1 = wx.heap.size + 1 := rfl
            have v1 := convN (w0 := wx.alloc (.cells #[.string tx, .slice la K lc] 63)) (B := wx.heap.size + 1) [(tx.size : Int)] #[.int .u8 tx.size] rfl (size_one _ _)
            have v2 := convN (w0 := (wx.alloc (.cells #[.string tx, .slice la K lc] 63)).alloc (.cells #[.int .u8 tx.size] 5)) (B := wx.heap.size + 1 + 1) [(K : Int)] #[.int .u8 K] rfl (by rw [size_one, size_one])
            obtain ⟨r2, hr2⟩ : ∃ r, r = strOfNums [(tx.size : Int)] := ⟨_, rfl⟩
            obtain ⟨r3, hr3⟩ : ∃ r, r = strOfNums [(K : Int)] := ⟨_, rfl⟩
            have hr2l : r2.size ≤ 1 := by rw [hr2, strOfNums_size]; simp
            have hr3l : r3.size ≤ 1 := by rw [hr3, strOfNums_size]; simp
            rw [← hr2] at v1
            rw [← hr3] at v2
            simp only [List.length_singleton] at v1 v2
            obtain ⟨us2, hus2⟩ : ∃ x : List Int, x = us ++ ens L j ++ ([(tx.size : Int)] ++ blC tx ++ [(K : Int)]) := ⟨_, rfl⟩
            have HU2 : Hid (us2 = us ++ ens L j ++ ([(tx.size : Int)] ++ blC tx ++ [(K : Int)])) := hus2
            have HS2 : Hid (q ++ r2 ++ tx ++ r3 = strOfNums (us2 ++ zl 0 (L.z j))) := by
              show _ = _
              rw [hus2, show zl 0 (L.z j) = [] from rfl, List.append_nil, str_app, ← HQ.out, str_app, str_app, blC_str, ← hr2, ← hr3, ByteArray.append_assoc, ByteArray.append_assoc, ByteArray.append_assoc]
            have hu2l : us2.length ≤ 990 := by
              have := ens_len HOK.out j hj
              rw [hus2, List.length_append, List.length_append, List.length_append, List.length_append, blC_len]
              simp
              omega
            have HBL2 : Hid (Below W.heap.size W (((wx.alloc (.cells #[.string tx, .slice la K lc] 63)).alloc (.cells #[.int .u8 tx.size] 5)).alloc (.cells #[.int .u8 K] 5))) := below_then (below_then (below_then HBX.out (below_one _)) (below_one _)) (below_one _)
            have HXC : Hid (∀ wy : World, Below (wx.alloc (.cells #[.string tx, .slice la K lc] 63)).heap.size (wx.alloc (.cells #[.string tx, .slice la K lc] 63)) wy → wy.cell? ⟨wx.heap.size, 1, none⟩ = some (.slice la K lc) ∧ Below w.heap.size w wy ∧ Below W.heap.size W wy) := fun wy hy => by
              have hr := row_new wx #[.string tx, .slice la K lc] 63 2 rfl
              exact ⟨cellTo hy (hr.cell (i := 1) (by omega)) (by simp), below_then hbw (below_then (below_one _) hy), below_then HBX.out (below_then (below_one _) hy)⟩
            have HBY : Hid (Below (wx.alloc (.cells #[.string tx, .slice la K lc] 63)).heap.size (wx.alloc (.cells #[.string tx, .slice la K lc] 63)) (((wx.alloc (.cells #[.string tx, .slice la K lc] 63)).alloc (.cells #[.int .u8 tx.size] 5)).alloc (.cells #[.int .u8 K] 5))) := below_then (below_one _) (below_one _)
            clear htx hK hla hlc hr2 hr3 hus2 hbw hz0
            obtain ⟨X, hX⟩ : ∃ X, X = wx.alloc (.cells #[.string tx, .slice la K lc] 63) := ⟨_, rfl⟩
            rw [← hX] at HXC HBY
            have HXZ : Hid (X.heap.size = wx.heap.size + 1) := by show _ = _; rw [hX]; exact size_one _ _
            have HXE : Hid (X = wx.alloc (.cells #[.string tx, .slice la K lc] 63)) := hX
            clear hX
            go_wp2
            clear v1 v2 c0 c1 e0 e1
            go_loopw [5, 10] (fun sv cv wy => ∃ (c : Nat) (p : ByteArray), Hid (p = strOfNums (us2 ++ zl c (L.z j))) ∧ c ≤ K ∧ sv = .string p ∧ cv = .int .i64 (c : Nat) ∧ Below X.heap.size X wy) (fun _ cv _ => K - (intOf cv).toNat)
            case atStart => exact ⟨0, _, HS2.out, Nat.zero_le _, rfl, rfl, (by have := HBY.out; rw [HXE.out] at this ⊢; exact this)⟩
            case round =>
              rename World => wy
              clear HS2 HBL2 HBY
              obtain ⟨c, p, HP, hc, rfl, rfl, hbel⟩ := hrel
              have HBC : Hid (Below X.heap.size X wy) := hbel
              obtain ⟨c1, hbw, hbW⟩ := HXC.out wy hbel
              have HBWW : Hid (Below W.heap.size W wy) := hbW
              have hpl : p.size ≤ 1000 := by rw [HP.out, strOfNums_size, List.length_append, zl_len]; omega
              have hzy : wx.heap.size + 1 ≤ wy.heap.size := by have := hbel.size; have := HXZ.out; omega
              clear hbel hbW
              by_cases hcl : c < K
              · rw [HIN2.out.addr (by omega)] at c1
                have z0 := cellTo hbw (HIN2.out.cell c hcl) (HIN2.out.lt (by omega))
                have hbb2 := HIN2.out.lt (by omega)
                have hzb := HZB.out c hcl
                obtain ⟨x, hx⟩ : ∃ x, x = L.z j c := ⟨_, rfl⟩
                rw [← hx] at z0 hzb
                have hx255 : x ≤ 255 := by omega
                have HX : Hid (x = L.z j c) := hx
                have v1 := convN (w0 := wy) [x] #[.int .u8 x] rfl rfl
                obtain ⟨r4, hr4⟩ : ∃ r, r = strOfNums [x] := ⟨_, rfl⟩
                have HR4 : Hid (r4 = strOfNums [x]) := hr4
                have hr4l : r4.size ≤ 1 := by rw [hr4, strOfNums_size]; simp
                rw [← hr4] at v1
                simp only [List.length_singleton] at v1
                clear hx hr4 hbw
                go_wp2
                clear v1
                go_roundw
                case rel => exact ⟨c + 1, _, (by show _ = _; rw [zl_snoc, ← List.append_assoc, str_app, ← HP.out, ← HX.out, ← HR4.out]), by omega, rfl, by go_num, below_then HBC.out (below_one _)⟩
                case measure => simp [intOf]; omega
              · have hce : c = K := by omega
                subst hce
                have HQN : Hid (p = strOfNums (us ++ ens L (j + 1))) := by show _ = _; rw [HP.out, HU2.out, HSN.out, enC]; simp only [List.append_assoc]
                clear hbw
                go_wp2
                go_roundw
                case rel => exact ⟨j + 1, p, HQN.out, by omega, rfl, by go_num, HBWW.out⟩
                case measure => simp [intOf]; omega
          · have hje : j = L.m := by omega
            subst hje
            have HEN : Hid (q = strOfNums (encN L)) := by show _ = _; rw [HQ.out, HUS.out]; rfl
            have HBW : Hid (Below w.heap.size w wx) := hbw
            clear hbw
            go_wp2
            go_ret2
            exact ⟨by rw [HVV.out, HE.out, ← HEN.out]; rfl, HBW.out⟩
  · have HVV : Hid (encV L = { data := #[] }) := encV_no he
    have HV : Hid (∀ wx, Below w.heap.size w wx → Calls Tryz.prog 19 #[.agg #[.slice L.na L.n L.nc, .slice L.ea L.m L.ec]] wx fun e w' => e = .returned (.int .i64 L.err) ∧ Below wx.heap.size wx w') := fun wx hb => refValid_any L wx (HIN.out wx hb)
    have he' : (L.err == 0) = false := by simpa using he
    go_enter Tryz.func28, Tryz.ntmps28
    go_wp2_with fail
    refine (HV.out _ (below_one _)).mono ?_
    rintro e w1 ⟨rfl, hb1⟩
    go_wp2
    go_ret2
    exact ⟨by rw [HVV.out]; rfl, below_then (below_one _) hb1⟩

end Go.Proofs.YtpclldccjpncdaaGreat
