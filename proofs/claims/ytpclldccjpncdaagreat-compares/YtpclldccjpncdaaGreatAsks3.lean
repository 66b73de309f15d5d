import Derived.Test.YtpclldccjpncdaaGreatRefCompare
import Derived.Test.YtpclldccjpncdaaGreatTop1
namespace Go.Proofs.YtpclldccjpncdaaGreat
open Go.RowKit

theorem wl_lent (L : Lay) (gn ge : Nat) (gl : Nat → Nat) (s : ByteArray) (lv : Nat) : wl (L.lent gn ge gl) s lv = wl L s lv := rfl
theorem cmpFrom_lent (L : Lay) (gn ge : Nat) (gl : Nat → Nat) (a b : ByteArray) : ∀ f lv, cmpFrom (L.lent gn ge gl) a b f lv = cmpFrom L a b f lv
  | 0, _ => rfl
  | f + 1, lv => by
    unfold cmpFrom
    rw [cmpFrom_lent L gn ge gl a b f (lv + 1), wl_lent, wl_lent]
theorem cmpE_lent (L : Lay) (gn ge : Nat) (gl : Nat → Nat) (a b : ByteArray) (lev : Int) : cmpE (L.lent gn ge gl) a b lev = cmpE L a b lev := rfl
theorem cmpV_lent (L : Lay) (gn ge : Nat) (gl : Nat → Nat) (a b : ByteArray) (lev : Int) : cmpV (L.lent gn ge gl) a b lev = cmpV L a b lev := by
  unfold cmpV
  rw [cmpFrom_lent, cmpE_lent]
theorem compare_lent (L : Lay) (gn ge : Nat) (gl : Nat → Nat) (a b : ByteArray) (lev : Int) (w : World) (h : (L.lent gn ge gl).In w.heap.size w) :
    Calls Tryz.prog 23 #[.agg #[.slice (some ⟨gn, 0, none⟩) L.n (L.n + 8), .slice (some ⟨ge, 0, none⟩) L.m (L.m + 8)], .string a, .string b, .int .i64 lev] w fun e w' => e = .returned (.tuple #[.int .i64 (cmpV L a b lev), .int .i64 (cmpE L a b lev)]) ∧ Below w.heap.size w w' := by
  have := compare_any (L.lent gn ge gl) a b lev w h
  rw [cmpV_lent, cmpE_lent] at this
  exact this

set_option maxRecDepth 100000 in
set_option maxHeartbeats 1000000 in
theorem asks_compare (L : Lay) (a b : ByteArray) (lev : Int) (ra : Option Addr) (rn rc : Nat) (w : World) (h : L.In w.heap.size w) :
    Calls Tryz.prog 12 #[.agg #[.int .i64 3, .slice L.na L.n L.nc, .slice L.ea L.m L.ec, .string a, .string b, .int .i64 lev, .slice ra rn rc]] w fun e w' => e = .returned (.bool true) ∧ Below w.heap.size w w' := by
  have HL : Hid (∀ w', Below w.heap.size w w' → L.In w'.heap.size w') := fun w' hb => h.later hb
  clear h
  go_enter Tryz.func12, Tryz.ntmps12
  go_wp2_with (first
    | (go_at_call 17; refine (lent_any L _ (HL.out _ (below_one _))).mono ?_; rintro e w1 ⟨g, gn, ge, gl, vo, vc, rfl, hlent⟩; obtain ⟨hc, hf⟩ := bcell hlent.below; obtain ⟨x0, x1, xg⟩ := hlent.t01; have hz : w.heap.size < w1.heap.size := by have := hlent.below.size; simp at this; omega))
  have b1 : w1.cell? ⟨w.heap.size, 3, none⟩ = some (.string a) := by rw [hc w.heap.size 3 (by simp)]; go_simp
  have b2 : w1.cell? ⟨w.heap.size, 4, none⟩ = some (.string b) := by rw [hc w.heap.size 4 (by simp)]; go_simp
  have b3 : w1.cell? ⟨w.heap.size, 5, none⟩ = some (.int .i64 lev) := by rw [hc w.heap.size 5 (by simp)]; go_simp
  have y0 := Wb.cell (w := w1) (B := w1.heap.size) (by show g < _; omega) x0
  have y1 := Wb.cell (w := w1) (B := w1.heap.size) (by show g < _; omega) x1
  have y2 := Wb.cell (w := w1) (B := w1.heap.size) (by show w.heap.size < _; omega) b1
  have y3 := Wb.cell (w := w1) (B := w1.heap.size) (by show w.heap.size < _; omega) b2
  have y4 := Wb.cell (w := w1) (B := w1.heap.size) (by show w.heap.size < _; omega) b3
  have HI : Hid (∀ x : Wb w1.heap.size w1, (L.lent gn ge gl).In x.val.heap.size x.val) := fun x => ((hlent.lay (HL.out _ (below_one _))).below x.below).mono x.below.size
  refine wp_region_below w1.heap.size (by kernel_rfl) (by kernel_rfl) ?_
  repeat (go_big_quiet_step ((go_at_call 23; exact Wb.ofCall _ (Nat.le_refl _) (compare_lent L gn ge gl _ _ _ _ (HI.out _)))))
  refine wpQuiet_nil ?_
  rintro _ ⟨x, rfl⟩
  have hb2 := x.below
  generalize x.val = w2 at hb2
  have hz2 : w.heap.size < w2.heap.size := by have := hb2.size; omega
  obtain ⟨hc2, hf2⟩ := bcell hb2
  clear y0 y1 y2 y3 y4 HI
  go_wp2_with (first
    | (go_at_call 24; refine (refCompare_any L _ _ _ _ (HL.out _ (below_then (below_then (below_one _) hlent.below) hb2))).mono ?_; rintro e w3 ⟨rfl, hb3⟩; obtain ⟨hc3, hf3⟩ := bcell hb3; have hz3 : w.heap.size < w3.heap.size := by have := hb3.size; omega)
    | (go_at_call 29; refine (still_any L _ (HL.out _ (below_one _)) g gn ge gl vo vc _ ((hlent.later hb2).later hb3)).mono ?_; rintro e w4 ⟨rfl, hb4⟩))
  go_ret
  exact ⟨rfl, below_then (below_one _) hb4⟩

set_option maxRecDepth 100000 in
set_option maxHeartbeats 1000000 in
theorem plays_compare (L : Lay) (a b : ByteArray) (lev : Int) (ra : Option Addr) (rn rc : Nat) (w : World) (h : L.In w.heap.size w) :
    Calls Tryz.prog 11 #[.agg #[.int .i64 3, .slice L.na L.n L.nc, .slice L.ea L.m L.ec, .string a, .string b, .int .i64 lev, .slice ra rn rc]] w fun e w' => e = .returned (.bool true) ∧ Below w.heap.size w w' := by
  have HL : Hid (∀ w', Below w.heap.size w w' → L.In w'.heap.size w') := fun w' hb => h.later hb
  clear h
  go_enter Tryz.func11, Tryz.ntmps11
  go_wp2_with (go_at_call 12; refine (asks_compare L _ _ _ _ _ _ _ (HL.out _ (below_one _))).mono ?_; rintro e w1 ⟨rfl, hb1⟩)
  go_ret
  exact ⟨rfl, below_then (below_one _) hb1⟩

end Go.Proofs.YtpclldccjpncdaaGreat
