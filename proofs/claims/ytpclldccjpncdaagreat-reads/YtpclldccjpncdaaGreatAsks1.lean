import Derived.Test.YtpclldccjpncdaaGreatStillW
namespace Go.Proofs.YtpclldccjpncdaaGreat
open Go.RowKit

/-- the two cells of the table that was lent -/
theorem LentIn.t01 {L : Lay} {w : World} {g gn ge : Nat} {gl : Nat → Nat} {vo : Option Addr} {vc : Nat} {wr : World} (h : LentIn L w g gn ge gl vo vc wr) :
    wr.cell? ⟨g, 0, none⟩ = some (.slice (some ⟨gn, 0, none⟩) L.n (L.n + 8)) ∧ wr.cell? ⟨g, 1, none⟩ = some (.slice (some ⟨ge, 0, none⟩) L.m (L.m + 8)) ∧ g < wr.heap.size := by
  obtain ⟨f, x1, z0, z1, _⟩ := h.x
  exact ⟨by rw [← z0]; exact x1.cell (by omega), by rw [← z1]; exact x1.cell (by omega), x1.lt⟩
theorem valid_lent (L : Lay) (gn ge : Nat) (gl : Nat → Nat) (w : World) (h : (L.lent gn ge gl).In w.heap.size w) :
    Calls Tryz.prog 18 #[.agg #[.slice (some ⟨gn, 0, none⟩) L.n (L.n + 8), .slice (some ⟨ge, 0, none⟩) L.m (L.m + 8)]] w fun e w' => e = .returned (.int .i64 L.err) ∧ Below w.heap.size w w' := valid_any (L.lent gn ge gl) w h

/-- an Op that lies in memory, taken out -/
def opV (kind : Int) (L : Lay) (a b : ByteArray) (lev : Int) (rv : Value) : Value := .agg #[.int .i64 kind, .slice L.na L.n L.nc, .slice L.ea L.m L.ec, .string a, .string b, .int .i64 lev, rv]

set_option maxRecDepth 100000 in
set_option maxHeartbeats 1000000 in
theorem asks_valid (L : Lay) (a b : ByteArray) (lev : Int) (ra : Option Addr) (rn rc : Nat) (w : World) (h : L.In w.heap.size w) :
    Calls Tryz.prog 12 #[.agg #[.int .i64 1, .slice L.na L.n L.nc, .slice L.ea L.m L.ec, .string a, .string b, .int .i64 lev, .slice ra rn rc]] w fun e w' => e = .returned (.bool true) ∧ Below w.heap.size w w' := by
  have HL : Hid (∀ w', Below w.heap.size w w' → L.In w'.heap.size w') := fun w' hb => h.later hb
  have HL0 : Hid (L.In w.heap.size w) := h
  clear h
  go_enter Tryz.func12, Tryz.ntmps12
  go_wp2_with (first
    | (go_at_call 17; refine (lent_any L _ (HL.out _ (below_one _))).mono ?_; rintro e w1 ⟨g, gn, ge, gl, vo, vc, rfl, hlent⟩; obtain ⟨hc, hf⟩ := bcell hlent.below; obtain ⟨x0, x1, xg⟩ := hlent.t01; have hz : w.heap.size < w1.heap.size := by have := hlent.below.size; simp at this; omega)
    | (go_at_call 18; refine (valid_lent L gn ge gl w1 (hlent.lay (HL.out _ (below_one _)))).mono ?_; rintro e w2 ⟨rfl, hb2⟩; obtain ⟨hc2, hf2⟩ := bcell hb2; have hz2 : w.heap.size < w2.heap.size := by have := hb2.size; omega)
    | (go_at_call 19; refine (refValid_any L _ (HL.out _ (below_then (below_then (below_one _) hlent.below) hb2))).mono ?_; rintro e w3 ⟨rfl, hb3⟩; obtain ⟨hc3, hf3⟩ := bcell hb3; have hz3 : w.heap.size < w3.heap.size := by have := hb3.size; omega)
    | (go_at_call 29; refine (still_any L _ (HL.out _ (below_one _)) g gn ge gl vo vc _ ((hlent.later hb2).later hb3)).mono ?_; rintro e w4 ⟨rfl, hb4⟩))
  go_ret
  exact ⟨rfl, below_then (below_one _) hb4⟩

end Go.Proofs.YtpclldccjpncdaaGreat
