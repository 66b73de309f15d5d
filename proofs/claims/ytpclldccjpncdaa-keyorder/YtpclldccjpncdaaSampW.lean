import Derived.Test.YtpclldccjpncdaaSamp
namespace Go.Proofs.Ytpclldccjpncdaa
open Go.RowKit

def sampN : Array Value := #[.int .i64 0, .int .i64 16, .int .i64 8, .int .i64 8, .int .i64 8, .int .i64 8, .int .i64 8, .int .i64 8, .int .i64 16, .int .i64 16, .int .i64 8, .int .i64 8, .int .i64 24, .int .i64 8, .int .i64 8]
def sampE (g : Nat) : Array Value := #[.string ⟨#[39]⟩, .slice (some ⟨g + 1 + 1, 0, none⟩) 1 1, .string ⟨#[65]⟩, .slice (some ⟨g + 1 + 1 + 1, 0, none⟩) 1 1, .string ⟨#[97]⟩, .slice (some ⟨g + 1 + 1 + 1 + 1, 0, none⟩) 1 1,
  .string ⟨#[98]⟩, .slice (some ⟨g + 1 + 1 + 1 + 1 + 1, 0, none⟩) 1 1, .string ⟨#[99]⟩, .slice (some ⟨g + 1 + 1 + 1 + 1 + 1 + 1, 0, none⟩) 1 1]
def sampT (g : Nat) : Array Value := #[.slice (some ⟨g + 1, 0, none⟩) 5 5, .slice (some ⟨g + 1 + 1 + 1 + 1 + 1 + 1 + 1, 0, none⟩) 5 5]
def sampWorld (w : World) : World := ((((((((w.alloc (.cells (sampT w.heap.size) 26)).alloc (.cells sampN 60)).alloc (.cells #[.int .i64 0] 3)).alloc (.cells #[.int .i64 2] 3)).alloc (.cells #[.int .i64 1] 3)).alloc (.cells #[.int .i64 3] 3)).alloc (.cells #[.int .i64 4] 3)).alloc (.cells (sampE w.heap.size) 64))
def sampLay (g : Nat) : Lay where
  n := 5
  m := 5
  na := some ⟨g + 1, 0, none⟩
  ea := some ⟨g + 1 + 1 + 1 + 1 + 1 + 1 + 1, 0, none⟩
  nc := 5
  ec := 5
  nb := g + 1
  no := 0
  eb := g + 1 + 1 + 1 + 1 + 1 + 1 + 1
  eo := 0
  p := fun i => [0, 8, 8, 16, 24].getD i 0
  s := fun i => [16, 8, 8, 8, 8].getD i 0
  t := fun i => [8, 8, 16, 8, 8].getD i 0
  tx := fun i => ([⟨#[39]⟩, ⟨#[65]⟩, ⟨#[97]⟩, ⟨#[98]⟩, ⟨#[99]⟩] : List ByteArray).getD i ByteArray.empty
  la := fun i => some ⟨g + 2 + i, 0, none⟩
  k := fun _ => 1
  lc := fun _ => 1
  lb := fun i => g + 2 + i
  lo := fun _ => 0
  z := fun i _ => [0, 2, 1, 3, 4].getD i 0
theorem sampLay_is (g : Nat) : Samp (sampLay g) := ⟨rfl, rfl, rfl, rfl, rfl, rfl, rfl, rfl⟩
theorem sampLay_in (w : World) : (sampLay w.heap.size).In (sampWorld w).heap.size (sampWorld w) := by
  have hz : (sampWorld w).heap.size = w.heap.size + 8 := by simp [sampWorld]
  have rN : (sampWorld w).rowIs (w.heap.size + 1) 60 15 (fun i => sampN.getD i undef) := by
    unfold sampWorld
    refine World.rowIs.alloc (World.rowIs.alloc (World.rowIs.alloc (World.rowIs.alloc (World.rowIs.alloc (World.rowIs.alloc (row_at (row_new _ sampN _ 15 rfl) (by simp only [size_one]) fun _ _ => rfl) _) _) _) _) _) _
  have rE : (sampWorld w).rowIs (w.heap.size + 1 + 1 + 1 + 1 + 1 + 1 + 1) 64 10 (fun i => (sampE w.heap.size).getD i undef) := by
    unfold sampWorld
    exact row_at (row_new _ (sampE w.heap.size) _ 10 rfl) (by simp only [size_one]) fun _ _ => rfl
  have r0 : (sampWorld w).rowIs (w.heap.size + 2 + 0) 3 1 (fun i => #[Value.int .i64 0].getD i undef) := by
    unfold sampWorld
    refine World.rowIs.alloc (World.rowIs.alloc (World.rowIs.alloc (World.rowIs.alloc (World.rowIs.alloc (row_at (row_new _ #[.int .i64 0] _ 1 rfl) (by simp only [size_one]) fun _ _ => rfl) _) _) _) _) _
  have r1 : (sampWorld w).rowIs (w.heap.size + 2 + 1) 3 1 (fun i => #[Value.int .i64 2].getD i undef) := by
    unfold sampWorld
    refine World.rowIs.alloc (World.rowIs.alloc (World.rowIs.alloc (World.rowIs.alloc (row_at (row_new _ #[.int .i64 2] _ 1 rfl) (by simp only [size_one]) fun _ _ => rfl) _) _) _) _
  have r2 : (sampWorld w).rowIs (w.heap.size + 2 + 2) 3 1 (fun i => #[Value.int .i64 1].getD i undef) := by
    unfold sampWorld
    refine World.rowIs.alloc (World.rowIs.alloc (World.rowIs.alloc (row_at (row_new _ #[.int .i64 1] _ 1 rfl) (by simp only [size_one]) fun _ _ => rfl) _) _) _
  have r3 : (sampWorld w).rowIs (w.heap.size + 2 + 3) 3 1 (fun i => #[Value.int .i64 3].getD i undef) := by
    unfold sampWorld
    refine World.rowIs.alloc (World.rowIs.alloc (row_at (row_new _ #[.int .i64 3] _ 1 rfl) (by simp only [size_one]) fun _ _ => rfl) _) _
  have r4 : (sampWorld w).rowIs (w.heap.size + 2 + 4) 3 1 (fun i => #[Value.int .i64 4].getD i undef) := by
    unfold sampWorld
    refine World.rowIs.alloc (row_at (row_new _ #[.int .i64 4] _ 1 rfl) (by simp only [size_one]) fun _ _ => rfl) _
  refine ⟨⟨fun _ => rfl, fun _ => rN.lt, fun i hi => ?_, fun i hi => ?_, fun i hi => ?_, by show 5 * 24 ≤ _; omega⟩, ⟨fun _ => rfl, fun _ => rE.lt, fun i hi => ?_, fun i hi => ?_, fun i hi => ?_, by show 5 * 40 ≤ _; omega⟩⟩
  · rcases lt5 hi with rfl | rfl | rfl | rfl | rfl
    · exact rN.cell (i := 0) (by omega)
    · exact rN.cell (i := 3) (by omega)
    · exact rN.cell (i := 6) (by omega)
    · exact rN.cell (i := 9) (by omega)
    · exact rN.cell (i := 12) (by omega)
  · rcases lt5 hi with rfl | rfl | rfl | rfl | rfl
    · exact rN.cell (i := 1) (by omega)
    · exact rN.cell (i := 4) (by omega)
    · exact rN.cell (i := 7) (by omega)
    · exact rN.cell (i := 10) (by omega)
    · exact rN.cell (i := 13) (by omega)
  · rcases lt5 hi with rfl | rfl | rfl | rfl | rfl
    · exact rN.cell (i := 2) (by omega)
    · exact rN.cell (i := 5) (by omega)
    · exact rN.cell (i := 8) (by omega)
    · exact rN.cell (i := 11) (by omega)
    · exact rN.cell (i := 14) (by omega)
  · rcases lt5 hi with rfl | rfl | rfl | rfl | rfl
    · exact rE.cell (i := 0) (by omega)
    · exact rE.cell (i := 2) (by omega)
    · exact rE.cell (i := 4) (by omega)
    · exact rE.cell (i := 6) (by omega)
    · exact rE.cell (i := 8) (by omega)
  · rcases lt5 hi with rfl | rfl | rfl | rfl | rfl
    · exact rE.cell (i := 1) (by omega)
    · exact rE.cell (i := 3) (by omega)
    · exact rE.cell (i := 5) (by omega)
    · exact rE.cell (i := 7) (by omega)
    · exact rE.cell (i := 9) (by omega)
  · have one : ∀ q, q < 1 → q = 0 := by omega
    rcases lt5 hi with rfl | rfl | rfl | rfl | rfl
    · exact ⟨fun _ => rfl, fun _ => r0.lt, fun q hq => by obtain rfl := one q hq; exact r0.cell (i := 0) (by omega), by show 1 * 8 ≤ _; omega⟩
    · exact ⟨fun _ => rfl, fun _ => r1.lt, fun q hq => by obtain rfl := one q hq; exact r1.cell (i := 0) (by omega), by show 1 * 8 ≤ _; omega⟩
    · exact ⟨fun _ => rfl, fun _ => r2.lt, fun q hq => by obtain rfl := one q hq; exact r2.cell (i := 0) (by omega), by show 1 * 8 ≤ _; omega⟩
    · exact ⟨fun _ => rfl, fun _ => r3.lt, fun q hq => by obtain rfl := one q hq; exact r3.cell (i := 0) (by omega), by show 1 * 8 ≤ _; omega⟩
    · exact ⟨fun _ => rfl, fun _ => r4.lt, fun q hq => by obtain rfl := one q hq; exact r4.cell (i := 0) (by omega), by show 1 * 8 ≤ _; omega⟩
theorem sampT_row (w : World) : (sampWorld w).heap[w.heap.size]? = some (.cells (sampT w.heap.size) 26 (0, 0)) := by
  have r : (sampWorld w).rowIs w.heap.size 26 2 (fun i => (sampT w.heap.size).getD i undef) := by
    unfold sampWorld
    refine World.rowIs.alloc (World.rowIs.alloc (World.rowIs.alloc (World.rowIs.alloc (World.rowIs.alloc (World.rowIs.alloc (World.rowIs.alloc (row_new _ (sampT w.heap.size) _ 2 rfl) _) _) _) _) _) _) _
  exact row2_cells r
theorem sampWorld_below (w : World) : Below w.heap.size w (sampWorld w) :=
  below_then (below_then (below_then (below_then (below_then (below_then (below_then (below_one _) (below_one _)) (below_one _)) (below_one _)) (below_one _)) (below_one _)) (below_one _)) (below_one _)

set_option maxRecDepth 100000 in
set_option maxHeartbeats 1000000 in
theorem sample_any (w : World) : Calls Try.prog 31 #[] w fun e w' => (∃ L : Lay, e = .returned (.agg #[.slice L.na L.n L.nc, .slice L.ea L.m L.ec]) ∧ Samp L ∧ L.In w'.heap.size w') ∧ Below w.heap.size w w' := by
  go_enter Try.func31, Try.ntmps31
  go_wp2
  refine bodyPost_ret (v := .agg (sampT w.heap.size)) (w := sampWorld w) (results_cell_row rfl _ _ w.heap.size 26 (sampT w.heap.size) (0, 0) _ (by rfl) (sampT_row w) Try.underlying26 rfl size29) rfl ⟨⟨sampLay w.heap.size, rfl, sampLay_is _, sampLay_in w⟩, sampWorld_below w⟩

set_option maxHeartbeats 1000000 in
theorem orders_any (w : World) : Calls Try.prog 12 #[] w fun e w' => e = .returned (.bool true) ∧ Below w.heap.size w w' := by
  go_enter Try.func12, Try.ntmps12
  go_upto_region 2 with (first
    | (go_at_call 31; refine (sample_any _).mono ?_; rintro e w1 ⟨⟨L, rfl, hL, hin⟩, hb1⟩)
    | (go_at_call 13; refine (compare_any L _ _ 3 _ hin).mono ?_; rintro e w2 ⟨rfl, hb2⟩; rw [hL.orders.1, hL.orders.2.1]))
  have HB2 : Hid (Below w.heap.size w w2) := below_then hb1 hb2
  clear hb1 hb2 hin hL
  go_wp2_with (first
    | (go_at_call 31; refine (sample_any _).mono ?_; rintro e w3 ⟨⟨L3, rfl, hL3, hin3⟩, hb3⟩)
    | (go_at_call 14; refine (key_any L3 _ 3 _ hin3).mono ?_; rintro e w4 ⟨rfl, hb4⟩; rw [hL3.orders.2.2.1, hL3.orders.2.2.2]))
  go_ret
  exact ⟨rfl, below_then HB2.out (below_then hb3 hb4)⟩

end Go.Proofs.Ytpclldccjpncdaa
