import Derived.Test.YtpclldccjpncdaaWrtA
import Derived.Deep.RegionHeld3
import Derived.Deep.Cut
import Derived.Deep.CutRange
import Derived.Deep.DeepCutAuto
namespace Go.Proofs.Ytpclldccjpncdaa
open Go.RowKit

def rlV (x : Rl) : Nat → Value := fun j => #[Value.string x.reset, .int .i64 x.before, .int .i64 x.level, .string x.text, .string x.more].getD j undef

theorem first_snoc {L : List Rl} {r : Rl} (h : ∀ j, j < L.length → (L.getD j default).first j) (hr : r.first L.length) : ∀ j, j < (L ++ [r]).length → ((L ++ [r]).getD j default).first j := fun j hj => by
  rw [List.length_append] at hj
  have hj' : j < L.length + 1 := hj
  rw [List.getD_eq_getElem?_getD]
  by_cases e : j < L.length
  · rw [List.getElem?_append_left e, ← List.getD_eq_getElem?_getD]
    exact h j e
  · have e' : j = L.length := by omega
    subst e'
    rw [List.getElem?_append_right (Nat.le_refl _), Nat.sub_self]
    exact hr
theorem rowR {w : World} {g : Nat} {t : TypeId} {u0 u3 u4 : ByteArray} {b l : Int} (h : w.rowIs g t 5 (rlV ⟨u0, b, l, u3, u4⟩)) : (w.cell? ⟨g, 0, none⟩ = some (.string u0) ∧ w.cell? ⟨g, 1, none⟩ = some (.int .i64 b) ∧ w.cell? ⟨g, 2, none⟩ = some (.int .i64 l) ∧ w.cell? ⟨g, 3, none⟩ = some (.string u3) ∧ w.cell? ⟨g, 4, none⟩ = some (.string u4)) ∧ (w.frozen? ⟨g, 0, none⟩ = false ∧ w.frozen? ⟨g, 1, none⟩ = false ∧ w.frozen? ⟨g, 2, none⟩ = false ∧ w.frozen? ⟨g, 3, none⟩ = false ∧ w.frozen? ⟨g, 4, none⟩ = false) := row5F h

set_option maxRecDepth 100000 in
set_option maxHeartbeats 4000000 in
theorem proper_any (ao : Option Addr) (n cap b off : Nat) (f : Nat → Rl) (w : World) (h : RulesIn w.heap.size w ao n b off f) (h64 : ∀ i, i < n → (f i).in64) :
    Calls Try.prog 22 #[.slice ao n cap] w fun e w' => ∃ (L : List Rl) (v : Value), e = .returned v ∧ Hid ((1 ≤ L.length ∧ L.length ≤ 2) ∧ ∀ j, j < L.length → (L.getD j default).first j) ∧ Hid (w'.ownsRow w.heap.size 70 5 v L.length (rulC L)) ∧ Below w.heap.size w w' := by
  obtain ⟨i0, hi0, hq0, hq1, hq2⟩ := info_parts infoRulC
  have HR : Hid (RulesIn w.heap.size w ao n b off f) := h
  have H64 : Hid (∀ i, i < n → (f i).in64) := h64
  have hle := h.le
  clear h h64
  go_enter Try.func22, Try.ntmps22
  go_wp2
  go_loopw [3, 4] (fun v iv wr => ∃ (i : Nat) (L : List Rl), Hid (∀ j, j < L.length → (L.getD j default).first j) ∧ Hid (i < n → i < 2 ∨ i = 2) ∧ i ≤ 2 ∧ i ≤ n ∧ L.length = i ∧ iv = .int .i64 (i : Nat) ∧ Below w.heap.size w wr ∧ wr.ownsRow w.heap.size 70 5 v L.length (rulC L)) (fun _ iv _ => 2 - (intOf iv).toNat)
  case atStart => exact ⟨0, [], (fun j hj => by simp at hj), (fun _ => by omega), by omega, by omega, rfl, rfl, Below.refl _ _, World.ownsRow_nil _ _ _ _⟩
  case round =>
    obtain ⟨i, L, HF, _, hi2, hin, hLi, rfl, hbel, hown⟩ := hrel
    obtain ⟨vo9, vc9, hv9⟩ := ownC_shape hown
    subst hv9
    rw [hLi] at hown ⊢
    have HOW : Hid (wr.ownsRow w.heap.size 70 5 (.slice vo9 i vc9) i (rulC L)) := hown
    have HLI : Hid (L.length = i) := hLi
    clear hown hLi
    have hsz := hbel.size
    by_cases hgo : i < n ∧ i < 2
    · obtain ⟨hlt, hlt2⟩ := hgo
      have hbb := HR.out.lt (by omega)
      have c0 := cellTo hbel (HR.out.c0 i hlt) hbb
      have c1 := cellTo hbel (HR.out.c1 i hlt) hbb
      have c2 := cellTo hbel (HR.out.c2 i hlt) hbb
      have c3 := cellTo hbel (HR.out.c3 i hlt) hbb
      have c4 := cellTo hbel (HR.out.c4 i hlt) hbb
      have ha := HR.out.addr (by omega)
      subst ha
      obtain ⟨x, hx⟩ : ∃ x, x = f i := ⟨_, rfl⟩
      have hfit : x.reset.size ≤ 140737488351232 ∧ x.text.size ≤ 140737488351232 ∧ x.more.size ≤ 140737488351232 := by rw [hx]; exact HR.out.fit i hlt
      have h64 : x.in64 := by rw [hx]; exact H64.out i hlt
      rw [← hx] at c0 c1 c2 c3 c4
      clear hx
      obtain ⟨rs, be, lv, tx, mo⟩ := x
      obtain ⟨fit0, fit3, fit4⟩ := hfit
      obtain ⟨⟨be1, be2⟩, lv1, lv2⟩ := h64
      simp only at c0 c1 c2 c3 c4 fit0 fit3 fit4 be1 be2 lv1 lv2
      obtain ⟨W, hW⟩ : ∃ W, W = wr.alloc (.cells #[.string rs, .int .i64 be, .int .i64 lv, .string tx, .string mo] 70) := ⟨_, rfl⟩
      have HW : Hid (W = wr.alloc (.cells #[.string rs, .int .i64 be, .int .i64 lv, .string tx, .string mo] 70)) := hW
      clear hW
      have dd1 : decide ((i : Int) < 2) = true := by simp; omega
      have dd2 : decide (i < 2) = true := by simp; omega
      go_upto_region 6 with (fail)
      go_cut [6] from 21 to 33 (fun pv wc => ∃ (u0 u3 u4 : ByteArray) (l : Nat), pv = .pointer (some ⟨wr.heap.size + 1, 0, none⟩) ∧ u0.size ≤ 6 ∧ u3.size ≤ 3 ∧ u4.size ≤ 6 ∧ l < 4 ∧ Hid (wc.rowIs (wr.heap.size + 1) 70 5 (rlV ⟨u0, 0, (l : Nat), u3, u4⟩)) ∧ Hid (Below (wr.heap.size + 1) W wc ∧ wc.heap.size = wr.heap.size + 2))
      case first =>
        go_region_held3 (fun w' => w'.cell? ⟨wr.heap.size, 0, none⟩ = some (.string rs) ∧ w'.cell? ⟨wr.heap.size, 2, none⟩ = some (.int .i64 lv) ∧ w'.cell? ⟨wr.heap.size, 3, none⟩ = some (.string tx) ∧ w'.cell? ⟨wr.heap.size, 4, none⟩ = some (.string mo)) (go_keep) (first
          | (go_at_call 21; refine (pick_any _ _ _ (by omega) (by omega)).mono ?_; rintro e wq ⟨r, rfl, hr, hwq⟩; obtain rfl := hwq.symm; clear hwq; dsimp only)
          | (go_at_call 37; refine (some_any _ _ _ (by omega)).mono ?_; rintro e wq ⟨u, rfl, hu, hwq⟩; obtain rfl := hwq.symm; clear hwq; dsimp only))
        all_goals
          go_wp2
          go_meet
          refine ⟨_, _, _, _, (by rfl), by omega, by omega, by omega, by omega, (row_at (row_new _ _ _ 5 rfl) (size_one _ _) (fun _ _ => rfl)).drew, ?_, by simp⟩
          rw [HW.out]
          exact (by rw [← size_one wr (.cells #[.string rs, .int .i64 be, .int .i64 lv, .string tx, .string mo] 70)]; exact (below_one _).drew)
      case rest =>
        rename World => wc
        obtain ⟨u0, u3, u4, l, rfl, hu0, hu3, hu4, hl, HRc, HBc⟩ := hcut
        have HWS : Hid (W.heap.size = wr.heap.size + 1) := by show _ = _; rw [HW.out]; simp
        have HWR : Hid (W.rowIs wr.heap.size 70 5 (rlV ⟨rs, be, lv, tx, mo⟩)) := by show World.rowIs _ _ _ _ _; rw [HW.out]; exact row_new _ _ _ 5 rfl
        have HWO : Hid (W.ownsRow w.heap.size 70 5 (.slice vo9 i vc9) i (rulC L)) := by show World.ownsRow _ _ _ _ _ _ _; rw [HW.out]; exact HOW.out.alloc _
        have HWB : Hid (Below w.heap.size w W) := by show Below _ _ _; rw [HW.out]; exact below_then hbel (below_one _)
        have HBE : Hid (∀ wz, Below (wr.heap.size + 1) W wz → wz.cell? ⟨wr.heap.size, 1, none⟩ = some (.int .i64 be)) := fun wz hb => (HWR.out.of_block (hb.block _ (by omega))).cell (i := 1) (by omega)
        obtain ⟨⟨c0, c1, c2, c3, c4⟩, f0, f1, f2, f3, f4⟩ := rowR HRc.out
        go_upto_if 36 with (fail)
        go_cut [34] from 34 to 37 (fun _ wd => ∃ u3' : ByteArray, 1 ≤ u3'.size ∧ u3'.size ≤ 3 ∧ Hid (wd.rowIs (wr.heap.size + 1) 70 5 (rlV ⟨u0, 0, (l : Nat), u3', u4⟩)) ∧ Hid (Below (wr.heap.size + 1) W wd ∧ wd.heap.size = wr.heap.size + 2))
        case first =>
          by_cases hz : u3.size = 0
          · have he : u3.toList.isEmpty = true := by rw [empty_iff]; simp [hz]
            have HR2 : Hid ((wc.setCell ⟨wr.heap.size + 1, 3, none⟩ (.string { data := #[120] })).rowIs (wr.heap.size + 1) 70 5 (rlV ⟨u0, 0, (l : Nat), { data := #[120] }, u4⟩)) := (HRc.out.set 3 _).congr fun j hj => by
              have : j = 0 ∨ j = 1 ∨ j = 2 ∨ j = 3 ∨ j = 4 := by omega
              rcases this with rfl | rfl | rfl | rfl | rfl <;> rfl
            have HB2 : Hid (Below (wr.heap.size + 1) W (wc.setCell ⟨wr.heap.size + 1, 3, none⟩ (.string { data := #[120] })) ∧ (wc.setCell ⟨wr.heap.size + 1, 3, none⟩ (.string { data := #[120] })).heap.size = wr.heap.size + 2) := ⟨(OnlyRow.setCell _ _ _ _).below HBc.out.1 (Nat.le_refl _), by rw [← HBc.out.2]; simp [World.setCell]⟩
            rw [he]
            clear he
            go_wp2
            go_meet
            exact ⟨_, by decide, by decide, HR2, HB2⟩
          · have he : u3.toList.isEmpty = false := by rw [empty_iff]; simp [hz]
            rw [he]
            clear he
            go_wp2
            go_meet
            exact ⟨u3, by omega, hu3, HRc, HBc⟩
        case rest =>
          rename World => wd
          obtain ⟨u3', hv1, hv3, HRd, HBd⟩ := hcut
          clear c0 c1 c2 c3 c4 f0 f1 f2 f3 f4
          obtain ⟨⟨c0, c1, c2, c3, c4⟩, f0, f1, f2, f3, f4⟩ := rowR HRd.out
          by_cases hz : u0.size = 0
          · by_cases hi00 : i = 0
            · have he : u0.toList.isEmpty = true := by rw [empty_iff]; simp [hz]
              have hi0' : ((i : Int) == 0) = true := by simp [hi00]
              clear hi00
              have HRs : Hid ((wd.setCell ⟨wr.heap.size + 1, 0, none⟩ (.string { data := #[97] })).rowIs (wr.heap.size + 1) 70 5 (rlV ⟨{ data := #[97] }, 0, (l : Nat), u3', u4⟩)) := (HRd.out.set 0 _).congr fun j hj => by
                have : j = 0 ∨ j = 1 ∨ j = 2 ∨ j = 3 ∨ j = 4 := by omega
                rcases this with rfl | rfl | rfl | rfl | rfl <;> rfl
              have HBs : Hid (Below (wr.heap.size + 1) W (wd.setCell ⟨wr.heap.size + 1, 0, none⟩ (.string { data := #[97] }))) := (OnlyRow.setCell _ _ _ _).below HBd.out.1 (Nat.le_refl _)
              have yb := HBE.out _ HBs.out
              obtain ⟨⟨y0, y1, y2, y3, y4⟩, k0, k1, k2, k3, k4⟩ := rowR HRs.out
              have hae : ({ data := #[97] } : ByteArray).toList.isEmpty = false := by rw [empty_iff]; rfl
              go_wp2_with fail
              refine (pick_any be 4 _ ⟨be1, be2⟩ (by omega)).mono ?_
              rintro e wq ⟨r, rfl, hr, hwq⟩
              obtain rfl := hwq.symm
              clear hwq
              clear y0 y2 y3 y4 k0 k2 k3 k4
              have HSr : Hid (((wd.setCell ⟨wr.heap.size + 1, 0, none⟩ (.string { data := #[97] })).setCell ⟨wr.heap.size + 1, 1, none⟩ (.int .i64 (r : Nat))).rowIs (wr.heap.size + 1) 70 5 (rlV (Rl.mk { data := #[97] } (r : Nat) (l : Nat) u3' u4))) := (HRs.out.set 1 _).congr fun j hj => by
                have : j = 0 ∨ j = 1 ∨ j = 2 ∨ j = 3 ∨ j = 4 := by omega
                rcases this with rfl | rfl | rfl | rfl | rfl <;> rfl
              have HSb : Hid (Below (wr.heap.size + 1) W ((wd.setCell ⟨wr.heap.size + 1, 0, none⟩ (.string { data := #[97] })).setCell ⟨wr.heap.size + 1, 1, none⟩ (.int .i64 (r : Nat)))) := (OnlyRow.setCell _ _ _ _).below HBs.out (Nat.le_refl _)
              have HSO : Hid (((wd.setCell ⟨wr.heap.size + 1, 0, none⟩ (.string { data := #[97] })).setCell ⟨wr.heap.size + 1, 1, none⟩ (.int .i64 (r : Nat))).ownsRow w.heap.size 70 5 (.slice vo9 i vc9) i (rulC L)) := ownC_below HWO.out (by rw [HWS.out]; exact HSb.out)
              have HSS : Hid (((wd.setCell ⟨wr.heap.size + 1, 0, none⟩ (.string { data := #[97] })).setCell ⟨wr.heap.size + 1, 1, none⟩ (.int .i64 (r : Nat))).heap.size = wr.heap.size + 2) := by show _ = _; rw [← HBd.out.2]; simp [World.setCell]
              have HDS : Hid (wd.heap.size = wr.heap.size + 2) := HBd.out.2
              have HSW : Hid (Below w.heap.size w ((wd.setCell ⟨wr.heap.size + 1, 0, none⟩ (.string { data := #[97] })).setCell ⟨wr.heap.size + 1, 1, none⟩ (.int .i64 (r : Nat)))) := below_then HWB.out (by rw [HWS.out]; exact HSb.out)
              obtain ⟨⟨x0, x1, x2, x3, x4⟩, _⟩ := rowR HSr.out
              have HFN : Hid (∀ j, j < (L ++ [(Rl.mk { data := #[97] } (r : Nat) (l : Nat) u3' u4)]).length → ((L ++ [(Rl.mk { data := #[97] } (r : Nat) (l : Nat) u3' u4)]).getD j default).first j) := first_snoc HF.out (by rw [HLI.out]; exact ⟨⟨⟨by show _ ≤ u3'.size; omega, by show u3'.size ≤ _; omega⟩, by show u4.size ≤ _; omega, by show ({ data := #[97] } : ByteArray).size ≤ _; decide, ⟨by show (0 : Int) ≤ (l : Nat); omega, by show ((l : Nat) : Int) ≤ 3; omega⟩, ⟨by show (0 : Int) ≤ ((r : Nat) : Int); omega, by show ((r : Nat) : Int) ≤ (3 : Int); omega⟩, .inr (show ({ data := #[97] } : ByteArray).size ≠ 0 by decide)⟩, fun _ => (show ({ data := #[97] } : ByteArray).size ≠ 0 by decide)⟩)
              go_wp2_with (first
                | (at_builtin; refine wpList_append_lies _ (by rfl) (.tmp 53) (.tmp 55) 52 (by rfl) w.heap.size 70 i0 (.agg #[.string ByteArray.empty, .int .i64 0, .int .i64 0, .string ByteArray.empty, .string ByteArray.empty]) 5 64 Try.underlying52 hi0 hq0 hq1 hq2 rfl (by omega) _ i _ (by rfl) (HSO.out.alloc _) ⟨wd.heap.size, 0, none⟩ 1 1 [.string { data := #[97] }, .int .i64 (r : Nat), .int .i64 (l : Nat), .string u3', .string u4] (by rfl) (by rfl) ?d1 ?d2 (by omega) ?d3 ?d5 ?d4 (wd.heap.size + 1) ?d6 ?_))
              case d1 => exact newC5 _ (by first | (rw [HSS.out, HDS.out]; done) | (rw [HSS.out]; done)) _ _ _ _ _ _
              case d2 => intro u hu; simp at hu; rcases hu with rfl | rfl | rfl | rfl | rfl <;> rfl
              case d3 => unfold maxLen; omega
              case d5 => omega
              case d4 => first | (rw [size_one, HSS.out]; omega) | (rw [HDS.out]; omega)
              case d6 => first | (rw [size_one, HSS.out, HDS.out]; done) | (rw [size_one, HSS.out]; done)
              · intro g3 cap3 w3 hown3 hgrow3 _ _
                have HB3 : Hid (Below w.heap.size w w3) := ownC_grown_below (below_then HSW.out (below_one _)) (by first | (rw [size_one, HSS.out]; omega) | (rw [HDS.out]; omega)) (HSO.out.alloc _) (Nat.le_refl _) hgrow3
                have HO3 : Hid (w3.ownsRow w.heap.size 70 5 (.slice (some ⟨g3, 0, none⟩) (i + 1) cap3) (L ++ [(Rl.mk { data := #[97] } (r : Nat) (l : Nat) u3' u4)]).length (rulC (L ++ [(Rl.mk { data := #[97] } (r : Nat) (l : Nat) u3' u4)]))) := by
                  show World.ownsRow _ _ _ _ _ _ _
                  rw [rulC_snoc, List.length_append, HLI.out]
                  exact hown3
                have HLN : Hid ((L ++ [(Rl.mk { data := #[97] } (r : Nat) (l : Nat) u3' u4)]).length = i + 1) := by show _ = _; rw [List.length_append, HLI.out]; rfl
                clear hown3 hgrow3 x0 x1 x2 x3 x4
                go_wp2
                go_roundw
                case rel => exact ⟨i + 1, L ++ [(Rl.mk { data := #[97] } (r : Nat) (l : Nat) u3' u4)], HFN, (fun _ => by omega), by omega, by omega, HLN.out, by go_num, HB3.out, HO3.out⟩
                case measure => simp [intOf]; omega
            · have he : u0.toList.isEmpty = true := by rw [empty_iff]; simp [hz]
              have hi0' : ((i : Int) == 0) = false := beq_eq_false_iff_ne.2 (by omega)
              clear c0 c1 c2 c3 c4 f0 f1 f2 f3 f4
              have HSr : Hid (wd.rowIs (wr.heap.size + 1) 70 5 (rlV (Rl.mk u0 0 (l : Nat) u3' u4))) := HRd.out
              have HSb : Hid (Below (wr.heap.size + 1) W wd) := HBd.out.1
              have HSO : Hid (wd.ownsRow w.heap.size 70 5 (.slice vo9 i vc9) i (rulC L)) := ownC_below HWO.out (by rw [HWS.out]; exact HSb.out)
              have HSS : Hid (wd.heap.size = wr.heap.size + 2) := by show _ = _; exact HBd.out.2
              have HDS : Hid (wd.heap.size = wr.heap.size + 2) := HBd.out.2
              have HSW : Hid (Below w.heap.size w wd) := below_then HWB.out (by rw [HWS.out]; exact HSb.out)
              obtain ⟨⟨x0, x1, x2, x3, x4⟩, _⟩ := rowR HSr.out
              have HFN : Hid (∀ j, j < (L ++ [(Rl.mk u0 0 (l : Nat) u3' u4)]).length → ((L ++ [(Rl.mk u0 0 (l : Nat) u3' u4)]).getD j default).first j) := first_snoc HF.out (by rw [HLI.out]; exact ⟨⟨⟨by show _ ≤ u3'.size; omega, by show u3'.size ≤ _; omega⟩, by show u4.size ≤ _; omega, by show u0.size ≤ _; omega, ⟨by show (0 : Int) ≤ (l : Nat); omega, by show ((l : Nat) : Int) ≤ 3; omega⟩, ⟨by show (0 : Int) ≤ (0 : Int); omega, by show (0 : Int) ≤ (3 : Int); omega⟩, .inl rfl⟩, fun h => absurd h hi00⟩)
              go_wp2_with (first
                | (at_builtin; refine wpList_append_lies _ (by rfl) (.tmp 53) (.tmp 55) 52 (by rfl) w.heap.size 70 i0 (.agg #[.string ByteArray.empty, .int .i64 0, .int .i64 0, .string ByteArray.empty, .string ByteArray.empty]) 5 64 Try.underlying52 hi0 hq0 hq1 hq2 rfl (by omega) _ i _ (by rfl) (HSO.out.alloc _) ⟨wd.heap.size, 0, none⟩ 1 1 [.string u0, .int .i64 0, .int .i64 (l : Nat), .string u3', .string u4] (by rfl) (by rfl) ?d1 ?d2 (by omega) ?d3 ?d5 ?d4 (wd.heap.size + 1) ?d6 ?_))
              case d1 => exact newC5 _ (by first | (rw [HSS.out, HDS.out]; done) | (rw [HSS.out]; done)) _ _ _ _ _ _
              case d2 => intro u hu; simp at hu; rcases hu with rfl | rfl | rfl | rfl | rfl <;> rfl
              case d3 => unfold maxLen; omega
              case d5 => omega
              case d4 => first | (rw [size_one, HSS.out]; omega) | (rw [HDS.out]; omega)
              case d6 => first | (rw [size_one, HSS.out, HDS.out]; done) | (rw [size_one, HSS.out]; done)
              · intro g3 cap3 w3 hown3 hgrow3 _ _
                have HB3 : Hid (Below w.heap.size w w3) := ownC_grown_below (below_then HSW.out (below_one _)) (by first | (rw [size_one, HSS.out]; omega) | (rw [HDS.out]; omega)) (HSO.out.alloc _) (Nat.le_refl _) hgrow3
                have HO3 : Hid (w3.ownsRow w.heap.size 70 5 (.slice (some ⟨g3, 0, none⟩) (i + 1) cap3) (L ++ [(Rl.mk u0 0 (l : Nat) u3' u4)]).length (rulC (L ++ [(Rl.mk u0 0 (l : Nat) u3' u4)]))) := by
                  show World.ownsRow _ _ _ _ _ _ _
                  rw [rulC_snoc, List.length_append, HLI.out]
                  exact hown3
                have HLN : Hid ((L ++ [(Rl.mk u0 0 (l : Nat) u3' u4)]).length = i + 1) := by show _ = _; rw [List.length_append, HLI.out]; rfl
                clear hown3 hgrow3 x0 x1 x2 x3 x4
                go_wp2
                go_roundw
                case rel => exact ⟨i + 1, L ++ [(Rl.mk u0 0 (l : Nat) u3' u4)], HFN, (fun _ => by omega), by omega, by omega, HLN.out, by go_num, HB3.out, HO3.out⟩
                case measure => simp [intOf]; omega
          · have he : u0.toList.isEmpty = false := by rw [empty_iff]; simp [hz]
            have yb := HBE.out _ HBd.out.1
            go_wp2_with fail
            refine (pick_any be 4 _ ⟨be1, be2⟩ (by omega)).mono ?_
            rintro e wq ⟨r, rfl, hr, hwq⟩
            obtain rfl := hwq.symm
            clear hwq
            clear c0 c2 c3 c4 f0 f2 f3 f4
            have HSr : Hid ((wd.setCell ⟨wr.heap.size + 1, 1, none⟩ (.int .i64 (r : Nat))).rowIs (wr.heap.size + 1) 70 5 (rlV (Rl.mk u0 (r : Nat) (l : Nat) u3' u4))) := (HRd.out.set 1 _).congr fun j hj => by
              have : j = 0 ∨ j = 1 ∨ j = 2 ∨ j = 3 ∨ j = 4 := by omega
              rcases this with rfl | rfl | rfl | rfl | rfl <;> rfl
            have HSb : Hid (Below (wr.heap.size + 1) W (wd.setCell ⟨wr.heap.size + 1, 1, none⟩ (.int .i64 (r : Nat)))) := (OnlyRow.setCell _ _ _ _).below HBd.out.1 (Nat.le_refl _)
            have HSO : Hid ((wd.setCell ⟨wr.heap.size + 1, 1, none⟩ (.int .i64 (r : Nat))).ownsRow w.heap.size 70 5 (.slice vo9 i vc9) i (rulC L)) := ownC_below HWO.out (by rw [HWS.out]; exact HSb.out)
            have HSS : Hid ((wd.setCell ⟨wr.heap.size + 1, 1, none⟩ (.int .i64 (r : Nat))).heap.size = wr.heap.size + 2) := by show _ = _; rw [← HBd.out.2]; simp [World.setCell]
            have HDS : Hid (wd.heap.size = wr.heap.size + 2) := HBd.out.2
            have HSW : Hid (Below w.heap.size w (wd.setCell ⟨wr.heap.size + 1, 1, none⟩ (.int .i64 (r : Nat)))) := below_then HWB.out (by rw [HWS.out]; exact HSb.out)
            obtain ⟨⟨x0, x1, x2, x3, x4⟩, _⟩ := rowR HSr.out
            have HFN : Hid (∀ j, j < (L ++ [(Rl.mk u0 (r : Nat) (l : Nat) u3' u4)]).length → ((L ++ [(Rl.mk u0 (r : Nat) (l : Nat) u3' u4)]).getD j default).first j) := first_snoc HF.out (by rw [HLI.out]; exact ⟨⟨⟨by show _ ≤ u3'.size; omega, by show u3'.size ≤ _; omega⟩, by show u4.size ≤ _; omega, by show u0.size ≤ _; omega, ⟨by show (0 : Int) ≤ (l : Nat); omega, by show ((l : Nat) : Int) ≤ 3; omega⟩, ⟨by show (0 : Int) ≤ ((r : Nat) : Int); omega, by show ((r : Nat) : Int) ≤ (3 : Int); omega⟩, .inr hz⟩, fun _ => hz⟩)
            go_wp2_with (first
              | (at_builtin; refine wpList_append_lies _ (by rfl) (.tmp 53) (.tmp 55) 52 (by rfl) w.heap.size 70 i0 (.agg #[.string ByteArray.empty, .int .i64 0, .int .i64 0, .string ByteArray.empty, .string ByteArray.empty]) 5 64 Try.underlying52 hi0 hq0 hq1 hq2 rfl (by omega) _ i _ (by rfl) (HSO.out.alloc _) ⟨wd.heap.size, 0, none⟩ 1 1 [.string u0, .int .i64 (r : Nat), .int .i64 (l : Nat), .string u3', .string u4] (by rfl) (by rfl) ?d1 ?d2 (by omega) ?d3 ?d5 ?d4 (wd.heap.size + 1) ?d6 ?_))
            case d1 => exact newC5 _ (by first | (rw [HSS.out, HDS.out]; done) | (rw [HSS.out]; done)) _ _ _ _ _ _
            case d2 => intro u hu; simp at hu; rcases hu with rfl | rfl | rfl | rfl | rfl <;> rfl
            case d3 => unfold maxLen; omega
            case d5 => omega
            case d4 => first | (rw [size_one, HSS.out]; omega) | (rw [HDS.out]; omega)
            case d6 => first | (rw [size_one, HSS.out, HDS.out]; done) | (rw [size_one, HSS.out]; done)
            · intro g3 cap3 w3 hown3 hgrow3 _ _
              have HB3 : Hid (Below w.heap.size w w3) := ownC_grown_below (below_then HSW.out (below_one _)) (by first | (rw [size_one, HSS.out]; omega) | (rw [HDS.out]; omega)) (HSO.out.alloc _) (Nat.le_refl _) hgrow3
              have HO3 : Hid (w3.ownsRow w.heap.size 70 5 (.slice (some ⟨g3, 0, none⟩) (i + 1) cap3) (L ++ [(Rl.mk u0 (r : Nat) (l : Nat) u3' u4)]).length (rulC (L ++ [(Rl.mk u0 (r : Nat) (l : Nat) u3' u4)]))) := by
                show World.ownsRow _ _ _ _ _ _ _
                rw [rulC_snoc, List.length_append, HLI.out]
                exact hown3
              have HLN : Hid ((L ++ [(Rl.mk u0 (r : Nat) (l : Nat) u3' u4)]).length = i + 1) := by show _ = _; rw [List.length_append, HLI.out]; rfl
              clear hown3 hgrow3 x0 x1 x2 x3 x4
              go_wp2
              go_roundw
              case rel => exact ⟨i + 1, L ++ [(Rl.mk u0 (r : Nat) (l : Nat) u3' u4)], HFN, (fun _ => by omega), by omega, by omega, HLN.out, by go_num, HB3.out, HO3.out⟩
              case measure => simp [intOf]; omega
    · by_cases hin' : i < n
      · have hi2' : i = 2 := by omega
        subst hi2'
        have hgo2 : (2 : Int) < (n : Int) := by omega
        clear hgo
        have hz0' : ((2 : Int) == 0) = false := by decide
        have HFN : Hid ((1 ≤ L.length ∧ L.length ≤ 2) ∧ ∀ j, j < L.length → (L.getD j default).first j) := ⟨by have := HLI.out; omega, HF.out⟩
        have HO3 : Hid (wr.ownsRow w.heap.size 70 5 (.slice vo9 2 vc9) L.length (rulC L)) := by show World.ownsRow _ _ _ _ _ _ _; rw [HLI.out]; exact HOW.out
        go_wp2
        go_ret
        exact ⟨L, _, rfl, HFN, HO3, hbel⟩
      · have hgo2 : (n : Int) ≤ (i : Int) := by omega
        clear hgo
        by_cases hz0 : i = 0
        · subst hz0
          have hL0 : L = [] := List.eq_nil_of_length_eq_zero HLI.out
          subst hL0
          have HFN : Hid ((1 ≤ [Rl.mk { data := #[97] } 0 1 { data := #[120] } { data := #[] }].length ∧ [Rl.mk { data := #[97] } 0 1 { data := #[120] } { data := #[] }].length ≤ 2) ∧ ∀ j, j < [Rl.mk { data := #[97] } 0 1 { data := #[120] } { data := #[] }].length → ([Rl.mk { data := #[97] } 0 1 { data := #[120] } { data := #[] }].getD j default).first j) := by
            refine ⟨⟨by decide, by decide⟩, fun j hj => ?_⟩
            have hj0 : j = 0 := by simp at hj; omega
            subst hj0
            exact ⟨by show Rl.ok ⟨_, _, _, _, _⟩; decide, fun _ => by decide⟩
          go_wp2_with (first
            | (at_builtin; refine wpList_append_lies _ (by rfl) (.tmp 60) (.tmp 62) 52 (by rfl) w.heap.size 70 i0 (.agg #[.string ByteArray.empty, .int .i64 0, .int .i64 0, .string ByteArray.empty, .string ByteArray.empty]) 5 64 Try.underlying52 hi0 hq0 hq1 hq2 rfl (by omega) _ 0 _ (by rfl) (HOW.out.alloc _) ⟨wr.heap.size, 0, none⟩ 1 1 [.string { data := #[97] }, .int .i64 0, .int .i64 1, .string { data := #[120] }, .string { data := #[] }] (by rfl) (by rfl) ?d1 ?d2 (by omega) ?d3 ?d5 ?d4 (wr.heap.size + 1) ?d6 ?_))
          case d1 => exact newC5 _ rfl _ _ _ _ _ _
          case d2 => intro u hu; simp at hu; rcases hu with rfl | rfl | rfl | rfl | rfl <;> rfl
          case d3 => unfold maxLen; omega
          case d5 => omega
          case d4 => simp; omega
          case d6 => simp
          · intro g3 cap3 w3 hown3 hgrow3 _ _
            have HB3 : Hid (Below w.heap.size w w3) := ownC_grown_below (below_then hbel (below_one _)) (by simp; omega) (HOW.out.alloc _) (Nat.le_refl _) hgrow3
            have HO3 : Hid (w3.ownsRow w.heap.size 70 5 (.slice (some ⟨g3, 0, none⟩) 1 cap3) 1 (rulC [Rl.mk { data := #[97] } 0 1 { data := #[120] } { data := #[] }])) := hown3
            clear hown3 hgrow3
            go_wp2
            go_ret
            exact ⟨[Rl.mk { data := #[97] } 0 1 { data := #[120] } { data := #[] }], _, rfl, HFN, HO3, HB3.out⟩
        · have hz0' : ((i : Int) == 0) = false := beq_eq_false_iff_ne.2 (by omega)
          have HFN : Hid ((1 ≤ L.length ∧ L.length ≤ 2) ∧ ∀ j, j < L.length → (L.getD j default).first j) := ⟨by have := HLI.out; omega, HF.out⟩
          have HO3 : Hid (wr.ownsRow w.heap.size 70 5 (.slice vo9 i vc9) L.length (rulC L)) := by show World.ownsRow _ _ _ _ _ _ _; rw [HLI.out]; exact HOW.out
          go_wp2
          go_ret
          exact ⟨L, _, rfl, HFN, HO3, hbel⟩

end Go.Proofs.Ytpclldccjpncdaa
