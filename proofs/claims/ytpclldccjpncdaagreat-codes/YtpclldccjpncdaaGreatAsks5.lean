import Derived.Test.YtpclldccjpncdaaGreatRefEnc
import Derived.Test.YtpclldccjpncdaaGreatTop1
namespace Go.Proofs.YtpclldccjpncdaaGreat
open Go.RowKit

theorem nds_lent (L : Lay) (gn ge : Nat) (gl : Nat → Nat) : encV (L.lent gn ge gl) = encV L := rfl
theorem encode_lent (L : Lay) (gn ge : Nat) (gl : Nat → Nat) (w : World) (h : (L.lent gn ge gl).In w.heap.size w) :
    Calls Tryz.prog 27 #[.agg #[.slice (some ⟨gn, 0, none⟩) L.n (L.n + 8), .slice (some ⟨ge, 0, none⟩) L.m (L.m + 8)]] w fun e w' => e = .returned (.tuple #[.string (encV L), .int .i64 L.err]) ∧ Below w.heap.size w w' :=
  encode_any (L.lent gn ge gl) w h

set_option maxRecDepth 100000 in
set_option maxHeartbeats 1000000 in
theorem asks_encode (L : Lay) (a b : ByteArray) (lev : Int) (ra : Option Addr) (rn rc : Nat) (w : World) (h : L.In w.heap.size w) :
    Calls Tryz.prog 12 #[.agg #[.int .i64 5, .slice L.na L.n L.nc, .slice L.ea L.m L.ec, .string a, .string b, .int .i64 lev, .slice ra rn rc]] w fun e w' => e = .returned (.bool true) ∧ Below w.heap.size w w' := by
  have HL : Hid (∀ w', Below w.heap.size w w' → L.In w'.heap.size w') := fun w' hb => h.later hb
  clear h
  obtain ⟨ev, hev⟩ : ∃ x, x = encV L := ⟨_, rfl⟩
  obtain ⟨er, her⟩ : ∃ x, x = L.err := ⟨_, rfl⟩
  have HEV : Hid (ev = encV L) := hev
  have HER : Hid (er = L.err) := her
  clear hev her
  go_enter Tryz.func12, Tryz.ntmps12
  go_wp2_with (first
    | (go_at_call 17; refine (lent_any L _ (HL.out _ (below_one _))).mono ?_; rintro e w1 ⟨g, gn, ge, gl, vo, vc, rfl, hlent⟩; obtain ⟨hc, hf⟩ := bcell hlent.below; obtain ⟨x0, x1, xg⟩ := hlent.t01; have hz : w.heap.size < w1.heap.size := by have := hlent.below.size; simp at this; omega)
    | (go_at_call 27; refine (encode_lent L gn ge gl w1 (hlent.lay (HL.out _ (below_one _)))).mono ?_; rintro e w2 ⟨rfl, hb2⟩; rw [← HEV.out, ← HER.out]; obtain ⟨hc2, hf2⟩ := bcell hb2; have hz2 : w.heap.size < w2.heap.size := by have := hb2.size; omega)
    | (go_at_call 28; refine (refEncode_any L _ (HL.out _ (below_then (below_then (below_one _) hlent.below) hb2))).mono ?_; rintro e w3 ⟨rfl, hb3⟩; rw [← HEV.out, ← HER.out]; obtain ⟨hc3, hf3⟩ := bcell hb3; have hz3 : w.heap.size < w3.heap.size := by have := hb3.size; omega)
    | (go_at_call 29; refine (still_any L _ (HL.out _ (below_one _)) g gn ge gl vo vc _ ((hlent.later hb2).later hb3)).mono ?_; rintro e w4 ⟨rfl, hb4⟩))
  go_ret
  exact ⟨rfl, below_then (below_one _) hb4⟩

set_option maxRecDepth 100000 in
set_option maxHeartbeats 1000000 in
theorem plays_encode (L : Lay) (a b : ByteArray) (lev : Int) (ra : Option Addr) (rn rc : Nat) (w : World) (h : L.In w.heap.size w) :
    Calls Tryz.prog 11 #[.agg #[.int .i64 5, .slice L.na L.n L.nc, .slice L.ea L.m L.ec, .string a, .string b, .int .i64 lev, .slice ra rn rc]] w fun e w' => e = .returned (.bool true) ∧ Below w.heap.size w w' := by
  have HL : Hid (∀ w', Below w.heap.size w w' → L.In w'.heap.size w') := fun w' hb => h.later hb
  clear h
  go_enter Tryz.func11, Tryz.ntmps11
  go_wp2_with (go_at_call 12; refine (asks_encode L _ _ _ _ _ _ _ (HL.out _ (below_one _))).mono ?_; rintro e w1 ⟨rfl, hb1⟩)
  go_ret
  exact ⟨rfl, below_then (below_one _) hb1⟩

end Go.Proofs.YtpclldccjpncdaaGreat
