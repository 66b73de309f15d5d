import Derived.Test.YtpclldccjpncdaaGreatRefKey
import Derived.Test.YtpclldccjpncdaaGreatTop1
namespace Go.Proofs.YtpclldccjpncdaaGreat
open Go.RowKit

theorem keyL_lent (L : Lay) (gn ge : Nat) (gl : Nat → Nat) (s : ByteArray) : ∀ k, keyL (L.lent gn ge gl) s k = keyL L s k
  | 0 => rfl
  | k + 1 => by
    unfold keyL
    rw [keyL_lent L gn ge gl s k]
    rfl
theorem keyE_lent (L : Lay) (gn ge : Nat) (gl : Nat → Nat) (s : ByteArray) (lev : Int) : keyE (L.lent gn ge gl) s lev = keyE L s lev := rfl
theorem keyV_lent (L : Lay) (gn ge : Nat) (gl : Nat → Nat) (s : ByteArray) (lev : Int) : keyV (L.lent gn ge gl) s lev = keyV L s lev := by
  unfold keyV
  rw [keyL_lent, keyE_lent]
theorem key_lent (L : Lay) (gn ge : Nat) (gl : Nat → Nat) (s : ByteArray) (lev : Int) (w : World) (h : (L.lent gn ge gl).In w.heap.size w) :
    Calls Tryz.prog 25 #[.agg #[.slice (some ⟨gn, 0, none⟩) L.n (L.n + 8), .slice (some ⟨ge, 0, none⟩) L.m (L.m + 8)], .string s, .int .i64 lev] w fun e w' => e = .returned (.tuple #[.string (keyV L s lev), .int .i64 (keyE L s lev)]) ∧ Below w.heap.size w w' := by
  have := key_any (L.lent gn ge gl) s lev w h
  rw [keyV_lent, keyE_lent] at this
  exact this

set_option maxRecDepth 100000 in
set_option maxHeartbeats 1000000 in
theorem asks_key (L : Lay) (a b : ByteArray) (lev : Int) (ra : Option Addr) (rn rc : Nat) (w : World) (h : L.In w.heap.size w) :
    Calls Tryz.prog 12 #[.agg #[.int .i64 4, .slice L.na L.n L.nc, .slice L.ea L.m L.ec, .string a, .string b, .int .i64 lev, .slice ra rn rc]] w fun e w' => e = .returned (.bool true) ∧ Below w.heap.size w w' := by
  have HL : Hid (∀ w', Below w.heap.size w w' → L.In w'.heap.size w') := fun w' hb => h.later hb
  clear h
  go_enter Tryz.func12, Tryz.ntmps12
  go_wp2_with (first
    | (go_at_call 17; refine (lent_any L _ (HL.out _ (below_one _))).mono ?_; rintro e w1 ⟨g, gn, ge, gl, vo, vc, rfl, hlent⟩; obtain ⟨hc, hf⟩ := bcell hlent.below; obtain ⟨x0, x1, xg⟩ := hlent.t01; have hz : w.heap.size < w1.heap.size := by have := hlent.below.size; simp at this; omega))
  have b1 : w1.cell? ⟨w.heap.size, 3, none⟩ = some (.string a) := by rw [hc w.heap.size 3 (by simp)]; go_simp
  have b3 : w1.cell? ⟨w.heap.size, 5, none⟩ = some (.int .i64 lev) := by rw [hc w.heap.size 5 (by simp)]; go_simp
  have y0 := Wb.cell (w := w1) (B := w1.heap.size) (by show g < _; omega) x0
  have y1 := Wb.cell (w := w1) (B := w1.heap.size) (by show g < _; omega) x1
  have y2 := Wb.cell (w := w1) (B := w1.heap.size) (by show w.heap.size < _; omega) b1
  have y4 := Wb.cell (w := w1) (B := w1.heap.size) (by show w.heap.size < _; omega) b3
  have HI : Hid (∀ x : Wb w1.heap.size w1, (L.lent gn ge gl).In x.val.heap.size x.val) := fun x => ((hlent.lay (HL.out _ (below_one _))).below x.below).mono x.below.size
  refine wp_region_below w1.heap.size (by kernel_rfl) (by kernel_rfl) ?_
  repeat (go_big_quiet_step ((go_at_call 25; exact Wb.ofCall _ (Nat.le_refl _) (key_lent L gn ge gl _ _ _ (HI.out _)))))
  refine wpQuiet_nil ?_
  rintro _ ⟨x, rfl⟩
  have hb2 := x.below
  generalize x.val = w2 at hb2
  have hz2 : w.heap.size < w2.heap.size := by have := hb2.size; omega
  obtain ⟨hc2, hf2⟩ := bcell hb2
  clear y0 y1 y2 y4 HI
  go_wp2_with (first
    | (go_at_call 26; refine (refKey_any L _ _ _ (HL.out _ (below_then (below_then (below_one _) hlent.below) hb2))).mono ?_; rintro e w3 ⟨rfl, hb3⟩; obtain ⟨hc3, hf3⟩ := bcell hb3; have hz3 : w.heap.size < w3.heap.size := by have := hb3.size; omega)
    | (go_at_call 29; refine (still_any L _ (HL.out _ (below_one _)) g gn ge gl vo vc _ ((hlent.later hb2).later hb3)).mono ?_; rintro e w4 ⟨rfl, hb4⟩))
  go_ret
  exact ⟨rfl, below_then (below_one _) hb4⟩

set_option maxRecDepth 100000 in
set_option maxHeartbeats 1000000 in
theorem plays_key (L : Lay) (a b : ByteArray) (lev : Int) (ra : Option Addr) (rn rc : Nat) (w : World) (h : L.In w.heap.size w) :
    Calls Tryz.prog 11 #[.agg #[.int .i64 4, .slice L.na L.n L.nc, .slice L.ea L.m L.ec, .string a, .string b, .int .i64 lev, .slice ra rn rc]] w fun e w' => e = .returned (.bool true) ∧ Below w.heap.size w w' := by
  have HL : Hid (∀ w', Below w.heap.size w w' → L.In w'.heap.size w') := fun w' hb => h.later hb
  clear h
  go_enter Tryz.func11, Tryz.ntmps11
  go_wp2_with (go_at_call 12; refine (asks_key L _ _ _ _ _ _ _ (HL.out _ (below_one _))).mono ?_; rintro e w1 ⟨rfl, hb1⟩)
  go_ret
  exact ⟨rfl, below_then (below_one _) hb1⟩

end Go.Proofs.YtpclldccjpncdaaGreat
