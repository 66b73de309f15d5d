import Derived.Test.YtpclldccjpncdabGreatM15
namespace Go.Proofs.YtpclldccjpncdabGreat
open Go.RowKit

set_option maxRecDepth 100000 in
set_option maxHeartbeats 2000000 in
theorem encode_any (L : Lay) (w : World) (h : L.In w.heap.size w) :
    Calls Tryz.prog 22 #[.agg #[.slice L.na L.n L.nc, .slice L.ea L.m L.ec]] w fun e w' => e = .returned (.tuple #[.string (encV L), .int .i64 L.err]) ∧ Below w.heap.size w w' := by
  have HC : Hid (Calls Tryz.prog 46 #[.agg #[.slice L.na L.n L.nc, .slice L.ea L.m L.ec]] (w.alloc (.cells #[.slice L.na L.n L.nc, .slice L.ea L.m L.ec] 28)) fun e w' => e = .returned (.tuple #[.string (encV L), .int .i64 L.err]) ∧ Below (w.alloc (.cells #[.slice L.na L.n L.nc, .slice L.ea L.m L.ec] 28)).heap.size (w.alloc (.cells #[.slice L.na L.n L.nc, .slice L.ea L.m L.ec] 28)) w') := codeEncode_any L _ (h.later (below_one _))
  clear h
  go_enter Tryz.func22, Tryz.ntmps22
  go_wp2_with fail
  refine Calls.mono HC.out ?_
  rintro e w1 ⟨rfl, hb1⟩
  go_wp2
  go_ret2
  exact ⟨rfl, below_then (below_one _) hb1⟩

theorem convN {w0 : World} {B : Nat} (l : List Int) (cs : Array Value) (hcs : cs = (l.map (Value.int .u8)).toArray) (hB : w0.heap.size = B) : (convert 73 9 (.slice (some ⟨B, 0, none⟩) l.length l.length)).run Tryz.prog (w0.alloc (.cells cs 5)) = .ok (.string (strOfNums l)) (w0.alloc (.cells cs 5)) := by
  subst hcs
  refine run_convert_bytes_arg _ 73 5 Tryz.underlying73 Tryz.underlying5 B 0 l.length l.length l rfl (fun i hi => ?_) 9 Tryz.underlying9
  have := World.news_of_block (heap_alloc_new w0 (.cells (l.map (Value.int .u8)).toArray 5)) i (.int .u8 (l.getD i 0)) (by simp [List.getD, List.getElem?_eq_getElem hi])
  rw [hB, Addr.add_lit] at this
  simpa using this

set_option maxRecDepth 100000 in
set_option maxHeartbeats 2000000 in
theorem refEncode_any (L : Lay) (w : World) (h : L.In w.heap.size w) :
    Calls Tryz.prog 23 #[.agg #[.slice L.na L.n L.nc, .slice L.ea L.m L.ec]] w fun e w' => e = .returned (.tuple #[.string (encV L), .int .i64 L.err]) ∧ Below w.heap.size w w' := by
  have HIN : Hid (∀ wx, Below w.heap.size w wx → L.In wx.heap.size wx) := fun wx hb => h.later hb
  have HW : Hid (∀ wr : World, Below (w.alloc (.cells #[.slice L.na L.n L.nc, .slice L.ea L.m L.ec] 28)).heap.size (w.alloc (.cells #[.slice L.na L.n L.nc, .slice L.ea L.m L.ec] 28)) wr → wr.cell? ⟨w.heap.size, 0, none⟩ = some (.slice L.na L.n L.nc) ∧ wr.cell? ⟨w.heap.size, 1, none⟩ = some (.slice L.ea L.m L.ec) ∧ Below w.heap.size w wr ∧ w.heap.size + 1 ≤ wr.heap.size) := fun wr hb => by
    have hr := row_new w #[.slice L.na L.n L.nc, .slice L.ea L.m L.ec] 28 2 rfl
    refine ⟨cellTo hb (hr.cell (i := 0) (by omega)) (by simp), cellTo hb (hr.cell (i := 1) (by omega)) (by simp), below_then (below_one _) hb, by have := hb.size; simpa using this⟩
  have HL : Hid (L.In w.heap.size w) := h
  clear h
  by_cases he : L.err = 0
  · have hok := err_zero he
    have hn := hok.n
    have hm := hok.m
    have HOK : Hid L.Ok := hok
    have HE : Hid (L.err = 0) := he
    have HV : Hid (∀ wx, Below w.heap.size w wx → Calls Tryz.prog 14 #[.agg #[.slice L.na L.n L.nc, .slice L.ea L.m L.ec]] wx fun e w' => e = .returned (.int .i64 0) ∧ Below wx.heap.size wx w') := fun wx hb => by
      have := refValid_any L wx (HIN.out wx hb)
      rw [he] at this
      exact this
    have HVV : Hid (encV L = strOfNums (encN L)) := encV_ok he
    clear hok he
    obtain ⟨W, hW⟩ : ∃ W, W = w.alloc (.cells #[.slice L.na L.n L.nc, .slice L.ea L.m L.ec] 28) := ⟨_, rfl⟩
    have HWS : Hid (W.heap.size = w.heap.size + 1) := by show _ = _; rw [hW]; exact size_one _ _
    rw [← hW] at HW
    have HEQ : Hid (W = w.alloc (.cells #[.slice L.na L.n L.nc, .slice L.ea L.m L.ec] 28)) := hW
    clear hW
    go_enter Tryz.func23, Tryz.ntmps23
    go_wp2_with fail
    refine (HV.out _ (below_one _)).mono ?_
    rintro e w1 ⟨rfl, hb1⟩
    rw [← HEQ.out] at hb1
    have HB1 : Hid (Below W.heap.size W w1) := hb1
    obtain ⟨c0, c1, _, hz1⟩ := HW.out w1 hb1
    clear hb1 HV
    have v1 := convN (w0 := w1) [(L.n : Int)] #[.int .u8 L.n] rfl rfl
    have HLn : Hid (strOfNums [(L.n : Int)] = strOfNums ([(L.n : Int)] ++ nds L 0)) := rfl
    obtain ⟨r0, hr0⟩ : ∃ r, r = strOfNums [(L.n : Int)] := ⟨_, rfl⟩
    have HR0 : Hid (r0 = strOfNums [(L.n : Int)]) := hr0
    rw [← hr0] at v1
    simp only [List.length_singleton] at v1
    have HBL : Hid (Below W.heap.size W (w1.alloc (.cells #[.int .u8 L.n] 5))) := below_then HB1.out (below_one _)
    clear hr0
    go_wp2
    clear v1 c0 c1
    go_loopw [5, 6] (fun sv iv wr => ∃ (i : Nat) (r : ByteArray), Hid (r = strOfNums ([(L.n : Int)] ++ nds L i)) ∧ i ≤ L.n ∧ sv = .string r ∧ iv = .int .i64 (i : Nat) ∧ Below W.heap.size W wr) (fun _ iv _ => L.n - (intOf iv).toNat)
    case atStart => exact ⟨0, r0, (by show _ = _; rw [HR0.out, HLn.out]), Nat.zero_le _, rfl, rfl, HBL.out⟩
    case round =>
      clear HBL HB1 HLn HR0
      obtain ⟨i, r, HR, hi, rfl, rfl, hbel⟩ := hrel
      have HBR : Hid (Below W.heap.size W wr) := hbel
      obtain ⟨c0, c1, hbw, hzr⟩ := HW.out wr hbel
      have hrl : r.size ≤ 1000 := by rw [HR.out, strOfNums_size, List.length_append, nds_len]; simp; omega
      clear hbel
      by_cases hlt : i < L.n
      · rw [HL.out.nodes.addr (by omega)] at c0
        have hbb := HL.out.nodes.lt (by omega)
        have p0 := cellTo hbw (HL.out.nodes.p i hlt) hbb
        have p1 := cellTo hbw (HL.out.nodes.s i hlt) hbb
        have p2 := cellTo hbw (HL.out.nodes.t i hlt) hbb
        obtain ⟨n0, n1, n2⟩ := node_bd HOK.out hlt
        obtain ⟨x0, hx0⟩ : ∃ x, x = L.p i := ⟨_, rfl⟩
        obtain ⟨x1, hx1⟩ : ∃ x, x = L.s i := ⟨_, rfl⟩
        obtain ⟨x2, hx2⟩ : ∃ x, x = L.t i := ⟨_, rfl⟩
        rw [← hx0] at p0 n0
        rw [← hx1] at p1 n1
        rw [← hx2] at p2 n2
        have HX : Hid (nds L (i + 1) = nds L i ++ [x0, x1, x2]) := by show _ = _; rw [nds_snoc, hx0, hx1, hx2]
        clear hx0 hx1 hx2 hbw
        have v1 := convN (w0 := wr.alloc (.cells #[.int .i64 x0, .int .i64 x1, .int .i64 x2] 65)) (B := wr.heap.size + 1) [x0, x1, x2] #[.int .u8 x0, .int .u8 x1, .int .u8 x2] rfl (size_one _ _)
        obtain ⟨rr, hrr⟩ : ∃ r, r = strOfNums [x0, x1, x2] := ⟨_, rfl⟩
        have HRR : Hid (rr = strOfNums [x0, x1, x2]) := hrr
        have hrrl : rr.size ≤ 3 := by rw [hrr, strOfNums_size]; simp
        rw [← hrr] at v1
        simp only [List.length_cons, List.length_nil, Nat.zero_add, Nat.reduceAdd] at v1
        clear hrr
        go_wp2
        clear v1
        go_roundw
        case rel => exact ⟨i + 1, _, (by show _ = _; rw [HX.out, ← List.append_assoc, str_app, ← HR.out, ← HRR.out]), by omega, rfl, by go_num, below_then (below_then HBR.out (below_one _)) (below_one _)⟩
        case measure => simp [intOf]; omega
      · have hie : i = L.n := by omega
        subst hie
        have v1 := convN (w0 := wr) [(L.m : Int)] #[.int .u8 L.m] rfl rfl
        obtain ⟨r1, hr1⟩ : ∃ r, r = strOfNums [(L.m : Int)] := ⟨_, rfl⟩
        have HR1 : Hid (r1 = strOfNums [(L.m : Int)]) := hr1
        have hr1l : r1.size ≤ 1 := by rw [hr1, strOfNums_size]; simp
        rw [← hr1] at v1
        simp only [List.length_singleton] at v1
        have HBL : Hid (Below W.heap.size W (wr.alloc (.cells #[.int .u8 L.m] 5))) := below_then HBR.out (below_one _)
        obtain ⟨us, hus⟩ : ∃ us : List Int, us = [(L.n : Int)] ++ nds L L.n ++ [(L.m : Int)] := ⟨_, rfl⟩
        have HUS : Hid (us = [(L.n : Int)] ++ nds L L.n ++ [(L.m : Int)]) := hus
        have HS0 : Hid (r ++ r1 = strOfNums (us ++ ens L 0)) := by show _ = _; rw [hus, show ens L 0 = [] from rfl, List.append_nil, str_app, ← HR.out, ← HR1.out]
        have hul : us.length ≤ 200 := by rw [hus, List.length_append, List.length_append, nds_len]; simp; omega
        clear hr1 hus hbw
        go_wp2
        clear v1 c0 c1
        go_loopw [5, 8] (fun sv iv wx => ∃ (j : Nat) (q : ByteArray), Hid (q = strOfNums (us ++ ens L j)) ∧ j ≤ L.m ∧ sv = .string q ∧ iv = .int .i64 (j : Nat) ∧ Below W.heap.size W wx) (fun _ iv _ => L.m - (intOf iv).toNat)
        case atStart => exact ⟨0, _, HS0.out, Nat.zero_le _, rfl, rfl, HBL.out⟩
        case round =>
          rename World => wx
          clear HBL HS0 HR1 hr1l
          obtain ⟨j, q, HQ, hj, rfl, rfl, hbel⟩ := hrel
          have HBX : Hid (Below W.heap.size W wx) := hbel
          obtain ⟨c0, c1, hbw, hzx⟩ := HW.out wx hbel
          have hql : q.size ≤ 1000 := by
            have := ens_len HOK.out j hj
            rw [HQ.out, strOfNums_size, List.length_append]
            omega
          clear hbel
          by_cases hjl : j < L.m
          · rw [HL.out.entries.addr (by omega)] at c1
            have hbb := HL.out.entries.lt (by omega)
            have e0 := cellTo hbw (HL.out.entries.text j hjl) hbb
            have e1 := cellTo hbw (HL.out.entries.list j hjl) hbb
            obtain ⟨tx, htx⟩ : ∃ x, x = L.tx j := ⟨_, rfl⟩
            obtain ⟨K, hK⟩ : ∃ x, x = L.k j := ⟨_, rfl⟩
            obtain ⟨la, hla⟩ : ∃ x, x = L.la j := ⟨_, rfl⟩
            obtain ⟨lc, hlc⟩ : ∃ x, x = L.lc j := ⟨_, rfl⟩
            have htb := HOK.out.tx j hjl
            have hkb := HOK.out.k j hjl
            have HZB : Hid (∀ c, c < K → 0 ≤ L.z j c ∧ L.z j c < L.n) := fun c hc => HOK.out.z j hjl c (by rw [← hK]; exact hc)
            have HIN2 : Hid (IntsIn w.heap.size w la K (L.lb j) (L.lo j) (L.z j)) := by show IntsIn _ _ _ _ _ _ _; rw [hla, hK]; exact HL.out.entries.ints j hjl
            rw [← htx] at e0 htb
            rw [← hK] at hkb
            rw [← hla, ← hK, ← hlc] at e1
            have HSN : Hid (ens L (j + 1) = ens L j ++ enC tx K (L.z j)) := by show _ = _; rw [ens_snoc, htx, hK]
            have hz0 : wx.heap.size + 1 = wx.heap.size + 1 := rfl
            have v1 := convN (w0 := wx.alloc (.cells #[.string tx, .slice la K lc] 63)) (B := wx.heap.size + 1) [(tx.size : Int)] #[.int .u8 tx.size] rfl (size_one _ _)
            have v2 := convN (w0 := (wx.alloc (.cells #[.string tx, .slice la K lc] 63)).alloc (.cells #[.int .u8 tx.size] 5)) (B := wx.heap.size + 1 + 1) [(K : Int)] #[.int .u8 K] rfl (by rw [size_one, size_one])
            obtain ⟨r2, hr2⟩ : ∃ r, r = strOfNums [(tx.size : Int)] := ⟨_, rfl⟩
            obtain ⟨r3, hr3⟩ : ∃ r, r = strOfNums [(K : Int)] := ⟨_, rfl⟩
            have hr2l : r2.size ≤ 1 := by rw [hr2, strOfNums_size]; simp
            have hr3l : r3.size ≤ 1 := by rw [hr3, strOfNums_size]; simp
            rw [← hr2] at v1
            rw [← hr3] at v2
            simp only [List.length_singleton] at v1 v2
            obtain ⟨us2, hus2⟩ : ∃ x : List Int, x = us ++ ens L j ++ ([(tx.size : Int)] ++ blC tx ++ [(K : Int)]) := ⟨_, rfl⟩
            have HU2 : Hid (us2 = us ++ ens L j ++ ([(tx.size : Int)] ++ blC tx ++ [(K : Int)])) := hus2
            have HS2 : Hid (q ++ r2 ++ tx ++ r3 = strOfNums (us2 ++ zl 0 (L.z j))) := by
              show _ = _
              rw [hus2, show zl 0 (L.z j) = [] from rfl, List.append_nil, str_app, ← HQ.out, str_app, str_app, blC_str, ← hr2, ← hr3, ByteArray.append_assoc, ByteArray.append_assoc, ByteArray.append_assoc]
            have hu2l : us2.length ≤ 990 := by
              have := ens_len HOK.out j hj
              rw [hus2, List.length_append, List.length_append, List.length_append, List.length_append, blC_len]
              simp
              omega
            have HBL2 : Hid (Below W.heap.size W (((wx.alloc (.cells #[.string tx, .slice la K lc] 63)).alloc (.cells #[.int .u8 tx.size] 5)).alloc (.cells #[.int .u8 K] 5))) := below_then (below_then (below_then HBX.out (below_one _)) (below_one _)) (below_one _)
            have HXC : Hid (∀ wy : World, Below (wx.alloc (.cells #[.string tx, .slice la K lc] 63)).heap.size (wx.alloc (.cells #[.string tx, .slice la K lc] 63)) wy → wy.cell? ⟨wx.heap.size, 1, none⟩ = some (.slice la K lc) ∧ Below w.heap.size w wy ∧ Below W.heap.size W wy) := fun wy hy => by
              have hr := row_new wx #[.string tx, .slice la K lc] 63 2 rfl
              exact ⟨cellTo hy (hr.cell (i := 1) (by omega)) (by simp), below_then hbw (below_then (below_one _) hy), below_then HBX.out (below_then (below_one _) hy)⟩
            have HBY : Hid (Below (wx.alloc (.cells #[.string tx, .slice la K lc] 63)).heap.size (wx.alloc (.cells #[.string tx, .slice la K lc] 63)) (((wx.alloc (.cells #[.string tx, .slice la K lc] 63)).alloc (.cells #[.int .u8 tx.size] 5)).alloc (.cells #[.int .u8 K] 5))) := below_then (below_one _) (below_one _)
            clear htx hK hla hlc hr2 hr3 hus2 hbw hz0
            obtain ⟨X, hX⟩ : ∃ X, X = wx.alloc (.cells #[.string tx, .slice la K lc] 63) := ⟨_, rfl⟩
            rw [← hX] at HXC HBY
            have HXZ : Hid (X.heap.size = wx.heap.size + 1) := by show _ = _; rw [hX]; exact size_one _ _
            have HXE : Hid (X = wx.alloc (.cells #[.string tx, .slice la K lc] 63)) := hX
            clear hX
            go_wp2
            clear v1 v2 c0 c1 e0 e1
            go_loopw [5, 10] (fun sv cv wy => ∃ (c : Nat) (p : ByteArray), Hid (p = strOfNums (us2 ++ zl c (L.z j))) ∧ c ≤ K ∧ sv = .string p ∧ cv = .int .i64 (c : Nat) ∧ Below X.heap.size X wy) (fun _ cv _ => K - (intOf cv).toNat)
            case atStart => exact ⟨0, _, HS2.out, Nat.zero_le _, rfl, rfl, (by have := HBY.out; rw [HXE.out] at this ⊢; exact this)⟩
            case round =>
              rename World => wy
              clear HS2 HBL2 HBY
              obtain ⟨c, p, HP, hc, rfl, rfl, hbel⟩ := hrel
              have HBC : Hid (Below X.heap.size X wy) := hbel
              obtain ⟨c1, hbw, hbW⟩ := HXC.out wy hbel
              have HBWW : Hid (Below W.heap.size W wy) := hbW
              have hpl : p.size ≤ 1000 := by rw [HP.out, strOfNums_size, List.length_append, zl_len]; omega
              have hzy : wx.heap.size + 1 ≤ wy.heap.size := by have := hbel.size; have := HXZ.out; omega
              clear hbel hbW
              by_cases hcl : c < K
              · rw [HIN2.out.addr (by omega)] at c1
                have z0 := cellTo hbw (HIN2.out.cell c hcl) (HIN2.out.lt (by omega))
                have hbb2 := HIN2.out.lt (by omega)
                have hzb := HZB.out c hcl
                obtain ⟨x, hx⟩ : ∃ x, x = L.z j c := ⟨_, rfl⟩
                rw [← hx] at z0 hzb
                have hx255 : x ≤ 255 := by omega
                have HX : Hid (x = L.z j c) := hx
                have v1 := convN (w0 := wy) [x] #[.int .u8 x] rfl rfl
                obtain ⟨r4, hr4⟩ : ∃ r, r = strOfNums [x] := ⟨_, rfl⟩
                have HR4 : Hid (r4 = strOfNums [x]) := hr4
                have hr4l : r4.size ≤ 1 := by rw [hr4, strOfNums_size]; simp
                rw [← hr4] at v1
                simp only [List.length_singleton] at v1
                clear hx hr4 hbw
                go_wp2
                clear v1
                go_roundw
                case rel => exact ⟨c + 1, _, (by show _ = _; rw [zl_snoc, ← List.append_assoc, str_app, ← HP.out, ← HX.out, ← HR4.out]), by omega, rfl, by go_num, below_then HBC.out (below_one _)⟩
                case measure => simp [intOf]; omega
              · have hce : c = K := by omega
                subst hce
                have HQN : Hid (p = strOfNums (us ++ ens L (j + 1))) := by show _ = _; rw [HP.out, HU2.out, HSN.out, enC]; simp only [List.append_assoc]
                clear hbw
                go_wp2
                go_roundw
                case rel => exact ⟨j + 1, p, HQN.out, by omega, rfl, by go_num, HBWW.out⟩
                case measure => simp [intOf]; omega
          · have hje : j = L.m := by omega
            subst hje
            have HEN : Hid (q = strOfNums (encN L)) := by show _ = _; rw [HQ.out, HUS.out]; rfl
            have HBW : Hid (Below w.heap.size w wx) := hbw
            clear hbw
            go_wp2
            go_ret2
            exact ⟨by rw [HVV.out, HE.out, ← HEN.out]; rfl, HBW.out⟩
  · have HVV : Hid (encV L = { data := #[] }) := encV_no he
    have HV : Hid (∀ wx, Below w.heap.size w wx → Calls Tryz.prog 14 #[.agg #[.slice L.na L.n L.nc, .slice L.ea L.m L.ec]] wx fun e w' => e = .returned (.int .i64 L.err) ∧ Below wx.heap.size wx w') := fun wx hb => refValid_any L wx (HIN.out wx hb)
    have he' : (L.err == 0) = false := by simpa using he
    go_enter Tryz.func23, Tryz.ntmps23
    go_wp2_with fail
    refine (HV.out _ (below_one _)).mono ?_
    rintro e w1 ⟨rfl, hb1⟩
    go_wp2
    go_ret2
    exact ⟨by rw [HVV.out]; rfl, below_then (below_one _) hb1⟩

end Go.Proofs.YtpclldccjpncdabGreat

namespace Go.Proofs.YtpclldccjpncdabGreat
open Go.RowKit

theorem nds_lent (L : Lay) (gn ge : Nat) (gl : Nat → Nat) : encV (L.lent gn ge gl) = encV L := rfl
theorem encode_lent (L : Lay) (gn ge : Nat) (gl : Nat → Nat) (w : World) (h : (L.lent gn ge gl).In w.heap.size w) :
    Calls Tryz.prog 22 #[.agg #[.slice (some ⟨gn, 0, none⟩) L.n (L.n + 8), .slice (some ⟨ge, 0, none⟩) L.m (L.m + 8)]] w fun e w' => e = .returned (.tuple #[.string (encV L), .int .i64 L.err]) ∧ Below w.heap.size w w' :=
  encode_any (L.lent gn ge gl) w h

set_option maxRecDepth 100000 in
set_option maxHeartbeats 1000000 in
theorem asks_encode (L : Lay) (a b : ByteArray) (lev : Int) (ra : Option Addr) (rn rc : Nat) (w : World) (h : L.In w.heap.size w) :
    Calls Tryz.prog 7 #[.agg #[.int .i64 5, .slice L.na L.n L.nc, .slice L.ea L.m L.ec, .string a, .string b, .int .i64 lev, .slice ra rn rc]] w fun e w' => e = .returned (.bool true) ∧ Below w.heap.size w w' := by
  have HL : Hid (∀ w', Below w.heap.size w w' → L.In w'.heap.size w') := fun w' hb => h.later hb
  clear h
  obtain ⟨ev, hev⟩ : ∃ x, x = encV L := ⟨_, rfl⟩
  obtain ⟨er, her⟩ : ∃ x, x = L.err := ⟨_, rfl⟩
  have HEV : Hid (ev = encV L) := hev
  have HER : Hid (er = L.err) := her
  clear hev her
  go_enter Tryz.func7, Tryz.ntmps7
  go_wp2_with (first
    | (go_at_call 12; refine (lent_any L _ (HL.out _ (below_one _))).mono ?_; rintro e w1 ⟨g, gn, ge, gl, vo, vc, rfl, hlent⟩; obtain ⟨hc, hf⟩ := bcell hlent.below; obtain ⟨x0, x1, xg⟩ := hlent.t01; have hz : w.heap.size < w1.heap.size := by have := hlent.below.size; simp at this; omega)
    | (go_at_call 22; refine (encode_lent L gn ge gl w1 (hlent.lay (HL.out _ (below_one _)))).mono ?_; rintro e w2 ⟨rfl, hb2⟩; rw [← HEV.out, ← HER.out]; obtain ⟨hc2, hf2⟩ := bcell hb2; have hz2 : w.heap.size < w2.heap.size := by have := hb2.size; omega)
    | (go_at_call 23; refine (refEncode_any L _ (HL.out _ (below_then (below_then (below_one _) hlent.below) hb2))).mono ?_; rintro e w3 ⟨rfl, hb3⟩; rw [← HEV.out, ← HER.out]; obtain ⟨hc3, hf3⟩ := bcell hb3; have hz3 : w.heap.size < w3.heap.size := by have := hb3.size; omega)
    | (go_at_call 24; refine (still_any L _ (HL.out _ (below_one _)) g gn ge gl vo vc _ ((hlent.later hb2).later hb3)).mono ?_; rintro e w4 ⟨rfl, hb4⟩))
  go_ret
  exact ⟨rfl, below_then (below_one _) hb4⟩

set_option maxRecDepth 100000 in
set_option maxHeartbeats 1000000 in
theorem plays_encode (L : Lay) (a b : ByteArray) (lev : Int) (ra : Option Addr) (rn rc : Nat) (w : World) (h : L.In w.heap.size w) :
    Calls Tryz.prog 6 #[.agg #[.int .i64 5, .slice L.na L.n L.nc, .slice L.ea L.m L.ec, .string a, .string b, .int .i64 lev, .slice ra rn rc]] w fun e w' => e = .returned (.bool true) ∧ Below w.heap.size w w' := by
  have HL : Hid (∀ w', Below w.heap.size w w' → L.In w'.heap.size w') := fun w' hb => h.later hb
  clear h
  go_enter Tryz.func6, Tryz.ntmps6
  go_wp2_with (go_at_call 7; refine (asks_encode L _ _ _ _ _ _ _ (HL.out _ (below_one _))).mono ?_; rintro e w1 ⟨rfl, hb1⟩)
  go_ret
  exact ⟨rfl, below_then (below_one _) hb1⟩

end Go.Proofs.YtpclldccjpncdabGreat

namespace Go.Proofs.YtpclldccjpncdabGreat
open Go.RowKit

/-- the byte at a place, 0 behind the end -/
def bt (s : ByteArray) (p : Nat) : Nat := if h : p < s.size then (s[p]'h).toNat else 0
theorem bt_in {s : ByteArray} {p : Nat} (h : p < s.size) : bt s p = (s[p]'h).toNat := by simp [bt, h]
theorem bt_out {s : ByteArray} {p : Nat} (h : s.size ≤ p) : bt s p = 0 := by simp [bt, Nat.not_lt.2 h]
theorem bt_le (s : ByteArray) (p : Nat) : bt s p ≤ 255 := by
  unfold bt
  split
  · have := UInt8.toNat_lt (s[p]); omega
  · omega

/-! what a text tells, at all texts -/
def dn (s : ByteArray) : Nat := bt s 0
def q0 (s : ByteArray) : Nat := 1 + dn s * 3
def dm (s : ByteArray) : Nat := bt s (q0 s)
def nxt (s : ByteArray) (p : Nat) : Nat := p + 1 + bt s p + 1 + bt s (p + 1 + bt s p)
def epos (s : ByteArray) : Nat → Nat
  | 0 => q0 s + 1
  | i + 1 => nxt s (epos s i)
def tak (s : ByteArray) (p k : Nat) : ByteArray := if p + k ≤ s.size then sub s p k else ByteArray.empty
def dtx (s : ByteArray) (i : Nat) : ByteArray := tak s (epos s i + 1) (bt s (epos s i))
def dkp (s : ByteArray) (i : Nat) : Nat := epos s i + 1 + bt s (epos s i)
def dk (s : ByteArray) (i : Nat) : Nat := bt s (dkp s i)
def dz (s : ByteArray) (i j : Nat) : Int := (bt s (dkp s i + 1 + j) : Nat)
def dp (s : ByteArray) (i : Nat) : Int := (bt s (1 + i * 3) : Nat)
def ds (s : ByteArray) (i : Nat) : Int := (bt s (1 + i * 3 + 1) : Nat)
def dt (s : ByteArray) (i : Nat) : Int := (bt s (1 + i * 3 + 2) : Nat)
/-- of the form -/
def good (s : ByteArray) : Prop := epos s (dm s) = s.size
/-- the table that is told, wherever its lists lie -/
def dL (s : ByteArray) : Lay := { n := dn s, m := dm s, na := none, ea := none, nc := 0, ec := 0, nb := 0, no := 0, eb := 0, eo := 0, p := dp s, s := ds s, t := dt s, tx := dtx s, la := fun _ => none, k := dk s, lc := fun _ => 0, lb := fun _ => 0, lo := fun _ => 0, z := dz s }
open Classical in
noncomputable def decE (s : ByteArray) : Int := if good s then (dL s).err else 7
theorem decE_bad {s : ByteArray} (h : ¬ good s) : decE s = 7 := by simp [decE, h]
theorem decE_good {s : ByteArray} (h : good s) : decE s = (dL s).err := by simp [decE, h]

theorem nxt_le (s : ByteArray) (p : Nat) : p + 2 ≤ nxt s p := by unfold nxt; omega
theorem epos_step (s : ByteArray) (i : Nat) : epos s (i + 1) = dkp s i + 1 + dk s i := rfl
theorem epos_up (s : ByteArray) (i : Nat) : ∀ j, i ≤ j → epos s i ≤ epos s j
  | 0, h => by have : i = 0 := by omega
               rw [this]; exact Nat.le_refl _
  | j + 1, h => by
    by_cases e : i = j + 1
    · rw [e]; exact Nat.le_refl _
    · have h1 := epos_up s i j (by omega)
      have h2 := nxt_le s (epos s j)
      show epos s i ≤ nxt s (epos s j)
      omega
theorem bad_nodes {s : ByteArray} (h : s.size < q0 s + 1) : ¬ good s := fun g => by
  have := epos_up s 0 (dm s) (Nat.zero_le _)
  unfold good at g
  rw [g] at this
  have e : epos s 0 = q0 s + 1 := rfl
  omega
theorem bad_entry {s : ByteArray} {i : Nat} (hi : i < dm s) (h : s.size < epos s (i + 1)) : ¬ good s := fun g => by
  have := epos_up s (i + 1) (dm s) (by omega)
  unfold good at g
  omega

set_option maxHeartbeats 1000000 in
theorem counted_any (s : ByteArray) (p z : Nat) (w : World) (hs : s.size ≤ 140737488351232) (hz : z = 1 ∨ z = 3) (hp : p ≤ 140737488351232) :
    Calls Tryz.prog 101 #[.string s, .int .i64 p, .int .i64 z] w fun e w' => w' = w ∧
      ((p < s.size ∧ p + 1 + bt s p * z ≤ s.size ∧ e = .returned (.tuple #[.string (sub s (p + 1) (bt s p * z)), .int .i64 ((p + 1 + bt s p * z : Nat) : Int), .bool true])) ∨
       ((s.size ≤ p ∨ s.size < p + 1 + bt s p * z) ∧ e = .returned (.tuple #[.string ByteArray.empty, .int .i64 0, .bool false]))) := by
  by_cases hlt : p < s.size
  · have hb := bt_le s p
    have hbi := bt_in hlt
    obtain ⟨x, hx⟩ : ∃ x, x = bt s p := ⟨_, rfl⟩
    have hxs : ((s[p]'hlt).toNat : Int) = x := by rw [hx, hbi]
    rw [← hx] at hb ⊢
    clear hbi hx
    by_cases hf : p + 1 + x * z ≤ s.size
    · rcases hz with rfl | rfl
      all_goals
        go_enter Tryz.func101, Tryz.ntmps101
        go_wp2
        go_ret3
        refine ⟨rfl, .inl ⟨hlt, hf, ?_⟩⟩
        unfold sub
        simp only [Nat.mul_one]
        congr 4
    · rcases hz with rfl | rfl
      all_goals
        go_enter Tryz.func101, Tryz.ntmps101
        go_wp2
        go_ret3
        exact ⟨rfl, .inr ⟨.inr (by omega), rfl⟩⟩
  · go_enter Tryz.func101, Tryz.ntmps101
    go_wp2
    go_ret3
    exact ⟨rfl, .inr ⟨.inl (by omega), rfl⟩⟩

/-- the bytes of a text as numbers -/
def nums' (s : ByteArray) (k : Nat) : List Int := (List.range k).map fun j => ((bt s j : Nat) : Int)
theorem nums'_len (s : ByteArray) (k : Nat) : (nums' s k).length = k := by simp [nums']
theorem nums'_snoc (s : ByteArray) (k : Nat) : nums' s (k + 1) = nums' s k ++ [((bt s k : Nat) : Int)] := by simp [nums', List.range_succ]

set_option maxRecDepth 100000 in
set_option maxHeartbeats 1000000 in
theorem numbersFrom_any (s : ByteArray) (w : World) (hs : s.size ≤ 255) :
    Calls Tryz.prog 127 #[.string s] w fun e w' => ∃ v, e = .returned v ∧ w'.ownsRow w.heap.size 3 1 v s.size ((nums' s s.size).map (Value.int .i64)) ∧ Below w.heap.size w w' := by
  obtain ⟨i0, hi0, hq0, hq1, hq2⟩ := info_parts infoIntC
  go_enter Tryz.func127, Tryz.ntmps127
  go_wp2
  go_loopw [3, 4] (fun v iv wr => ∃ i : Nat, i ≤ s.size ∧ iv = .int .i64 i ∧ Below w.heap.size w wr ∧ wr.ownsRow w.heap.size 3 1 v i ((nums' s i).map (Value.int .i64))) (fun _ iv _ => s.size - (intOf iv).toNat)
  case atStart => exact ⟨0, Nat.zero_le _, rfl, Below.refl _ _, World.ownsRow_nil _ _ _ _⟩
  case round =>
    obtain ⟨i, hi, rfl, hbel, hown⟩ := hrel
    have HOWN : Hid (wr.ownsRow w.heap.size 3 1 _ i ((nums' s i).map (Value.int .i64))) := hown
    clear hown
    have hsz := hbel.size
    by_cases hlt : i < s.size
    · have hxb := bt_le s i
      have hbi := bt_in hlt
      obtain ⟨x, hx⟩ : ∃ x, x = bt s i := ⟨_, rfl⟩
      have hxs : ((s[i]'hlt).toNat : Int) = x := by rw [hx, hbi]
      have HX : Hid (x = bt s i) := hx
      rw [← hx] at hxb
      clear hbi hx
      go_wp2_with (first
        | (at_builtin; refine wpList_append_lies _ (by rfl) (.tmp 11) (.tmp 16) 61 (by rfl) w.heap.size 3 i0 (.int .i64 0) 1 8 Tryz.underlying61 hi0 hq0 hq1 hq2 rfl (by omega) _ i _ (by rfl) (HOWN.out.alloc _) ⟨wr.heap.size, 0, none⟩ 1 1 [.int .i64 x] (by rfl) (by rfl) ?c1 ?c2 (by omega) ?c3 ?c5 ?c4 (wr.heap.size + 1) (by simp) ?_))
      case c1 => exact cell_one_new _ _ _
      case c2 => intro u hu; simp at hu; subst hu; rfl
      case c3 => unfold maxLen; omega
      case c5 => omega
      case c4 => simp; omega
      · intro gv cap2 w2 hown2 hgrow _ _
        have HBN : Hid (Below w.heap.size w w2) := ownC_grown_below (hbel.alloc hsz _) (by simp; omega) (HOWN.out.alloc _) (Nat.le_refl _) hgrow
        have HO2 : Hid (w2.ownsRow w.heap.size 3 1 (.slice (some ⟨gv, 0, none⟩) (i + 1) cap2) (i + 1) ((nums' s (i + 1)).map (Value.int .i64))) := by
          show _
          rw [nums'_snoc, List.map_append, ← HX.out]
          exact hown2
        clear hown2 hgrow
        go_wp2
        go_roundw
        case rel => exact ⟨i + 1, by omega, by go_num, HBN.out, HO2.out⟩
        case measure => simp [intOf]; omega
    · have hie : i = s.size := by omega
      subst hie
      go_wp2
      go_ret
      exact ⟨_, rfl, HOWN.out, hbel⟩

/-- nodes by threes -/
def nodes3 (s : ByteArray) (k : Nat) : List Value := (List.range k).flatMap fun i => [.int .i64 ((bt s (i * 3) : Nat) : Int), .int .i64 ((bt s (i * 3 + 1) : Nat) : Int), .int .i64 ((bt s (i * 3 + 2) : Nat) : Int)]
theorem nodes3_snoc (s : ByteArray) (k : Nat) : nodes3 s (k + 1) = nodes3 s k ++ [.int .i64 ((bt s (k * 3) : Nat) : Int), .int .i64 ((bt s (k * 3 + 1) : Nat) : Int), .int .i64 ((bt s (k * 3 + 2) : Nat) : Int)] := by simp [nodes3, List.range_succ]

set_option maxRecDepth 100000 in
set_option maxHeartbeats 1000000 in
theorem nodesFrom_any (s : ByteArray) (n : Nat) (w : World) (hs : s.size = n * 3) (hn : n ≤ 255) :
    Calls Tryz.prog 103 #[.string s] w fun e w' => ∃ v, e = .returned v ∧ w'.ownsRow w.heap.size 65 3 v n (nodes3 s n) ∧ Below w.heap.size w w' := by
  obtain ⟨i0, hi0, hq0, hq1, hq2⟩ := info_parts infoNodeC
  have HS : Hid (s.size = n * 3) := hs
  have hsz0 : s.size ≤ 765 := by omega
  clear hs
  go_enter Tryz.func103, Tryz.ntmps103
  go_wp2
  go_loopw [3, 4] (fun v iv wr => ∃ i c : Nat, Hid (c = i * 3) ∧ i ≤ n ∧ iv = .int .i64 (c : Nat) ∧ Below w.heap.size w wr ∧ wr.ownsRow w.heap.size 65 3 v i (nodes3 s i)) (fun _ iv _ => s.size - (intOf iv).toNat)
  case atStart => exact ⟨0, 0, rfl, Nat.zero_le _, rfl, Below.refl _ _, World.ownsRow_nil _ _ _ _⟩
  case round =>
    obtain ⟨i, c, HC, hi, rfl, hbel, hown⟩ := hrel
    have HOWN : Hid (wr.ownsRow w.heap.size 65 3 _ i (nodes3 s i)) := hown
    clear hown
    have hsz := hbel.size
    by_cases hlt : i < n
    · have l0 : c < s.size := by have := HS.out; have := HC.out; omega
      have l1 : c + 1 < s.size := by have := HS.out; have := HC.out; omega
      have l2 : c + 2 < s.size := by have := HS.out; have := HC.out; omega
      have xb0 := bt_le s c
      have xb1 := bt_le s (c + 1)
      have xb2 := bt_le s (c + 2)
      have b0 := bt_in l0
      have b1 := bt_in l1
      have b2 := bt_in l2
      obtain ⟨x0, hx0⟩ : ∃ x, x = bt s c := ⟨_, rfl⟩
      obtain ⟨x1, hx1⟩ : ∃ x, x = bt s (c + 1) := ⟨_, rfl⟩
      obtain ⟨x2, hx2⟩ : ∃ x, x = bt s (c + 2) := ⟨_, rfl⟩
      have e0 : ((s[c]'l0).toNat : Int) = x0 := by rw [hx0, b0]
      have e1 : ((s[c + 1]'l1).toNat : Int) = x1 := by rw [hx1, b1]
      have e2 : ((s[c + 2]'l2).toNat : Int) = x2 := by rw [hx2, b2]
      have HX : Hid (x0 = bt s (i * 3) ∧ x1 = bt s (i * 3 + 1) ∧ x2 = bt s (i * 3 + 2)) := by
        have := HC.out
        show _ ∧ _
        rw [← this]
        exact ⟨hx0, hx1, hx2⟩
      rw [← hx0] at xb0
      rw [← hx1] at xb1
      rw [← hx2] at xb2
      clear b0 b1 b2 hx0 hx1 hx2
      have t1 : ((c : Int) + 1).toNat = c + 1 := by omega
      have t2 : ((c : Int) + 2).toNat = c + 2 := by omega
      have r1 : (c : Int) + 1 < (s.size : Int) := by omega
      have r2 : (c : Int) + 2 < (s.size : Int) := by omega
      have r3 : (0 : Int) ≤ (c : Int) + 1 := by omega
      have r4 : (0 : Int) ≤ (c : Int) + 2 := by omega
      go_wp2
      go_region
      go_wp2_with (first
        | (at_builtin; refine wpList_append_lies _ (by rfl) (.tmp 28) (.tmp 30) 25 (by rfl) w.heap.size 65 i0 (.agg #[.int .i64 0, .int .i64 0, .int .i64 0]) 3 24 Tryz.underlying25 hi0 hq0 hq1 hq2 rfl (by omega) _ i _ (by rfl) ((HOWN.out.alloc _).drew.alloc _) ⟨wr.heap.size + 1, 0, none⟩ 1 1 [.int .i64 x0, .int .i64 x1, .int .i64 x2] (by rfl) (by rfl) ?c1 ?c2 (by omega) ?c3 ?c5 ?c4 (wr.heap.size + 2) (by simp) ?_))
      case c1 => exact newC3 _ (by simp) _ _ _ _
      case c2 => intro u hu; simp at hu; rcases hu with rfl | rfl | rfl <;> rfl
      case c3 => unfold maxLen; omega
      case c5 => omega
      case c4 => simp; omega
      · intro gv cap2 w2 hown2 hgrow _ _
        have HBN : Hid (Below w.heap.size w w2) := ownC_grown_below ((hbel.alloc hsz _).drew.alloc (by simp; omega) _) (by simp; omega) ((HOWN.out.alloc _).drew.alloc _) (Nat.le_refl _) hgrow
        have HO2 : Hid (w2.ownsRow w.heap.size 65 3 (.slice (some ⟨gv, 0, none⟩) (i + 1) cap2) (i + 1) (nodes3 s (i + 1))) := by
          show _
          rw [nodes3_snoc, ← HX.out.1, ← HX.out.2.1, ← HX.out.2.2]
          exact hown2
        clear hown2 hgrow
        go_wp2
        go_roundw
        case rel => exact ⟨i + 1, c + 3, (by have := HC.out; show _ = _; omega), by omega, by go_num, HBN.out, HO2.out⟩
        case measure => simp [intOf]; omega
    · have hie : i = n := by omega
      subst hie
      have c0 : c ≤ 765 := by have := HC.out; omega
      have l0 : (s.size : Int) ≤ (c : Int) + 2 := by have := HS.out; have := HC.out; omega
      go_wp2
      go_ret
      exact ⟨_, rfl, HOWN.out, hbel⟩

end Go.Proofs.YtpclldccjpncdabGreat
