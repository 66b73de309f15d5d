import Derived.Test.YtpclldccjpncdaaGreatRefPiecesW
import Derived.Test.YtpclldccjpncdaaGreatTop1
import Derived.Deep.RegionWith
namespace Go.Proofs.YtpclldccjpncdaaGreat
open Go.RowKit

theorem pieces_lent (L : Lay) (gn ge : Nat) (gl : Nat → Nat) (s : ByteArray) (w : World) (h : (L.lent gn ge gl).In w.heap.size w) :
    Calls Tryz.prog 20 #[.agg #[.slice (some ⟨gn, 0, none⟩) L.n (L.n + 8), .slice (some ⟨ge, 0, none⟩) L.m (L.m + 8)], .string s] w fun e w' => ∃ v er, e = .returned (.tuple #[v, .int .i64 er]) ∧ PiecesAns L s v er w' ∧ Below w.heap.size w w' := pieces_any (L.lent gn ge gl) s w h

set_option maxRecDepth 100000 in
set_option maxHeartbeats 1000000 in
theorem asks_pieces (L : Lay) (a b : ByteArray) (lev : Int) (ra : Option Addr) (rn rc : Nat) (w : World) (h : L.In w.heap.size w) :
    Calls Tryz.prog 12 #[.agg #[.int .i64 2, .slice L.na L.n L.nc, .slice L.ea L.m L.ec, .string a, .string b, .int .i64 lev, .slice ra rn rc]] w fun e w' => e = .returned (.bool true) ∧ Below w.heap.size w w' := by
  have HL : Hid (∀ w', Below w.heap.size w w' → L.In w'.heap.size w') := fun w' hb => h.later hb
  clear h
  go_enter Tryz.func12, Tryz.ntmps12
  go_wp2_with (first
    | (go_at_call 17; refine (lent_any L _ (HL.out _ (below_one _))).mono ?_; rintro e w1 ⟨g, gn, ge, gl, vo, vc, rfl, hlent⟩; obtain ⟨hc, hf⟩ := bcell hlent.below; obtain ⟨x0, x1, xg⟩ := hlent.t01; have hz : w.heap.size < w1.heap.size := by have := hlent.below.size; simp at this; omega))
  have HPC : Hid (∀ wx, Below w1.heap.size w1 wx → Calls Tryz.prog 20 #[.agg #[.slice (some ⟨gn, 0, none⟩) L.n (L.n + 8), .slice (some ⟨ge, 0, none⟩) L.m (L.m + 8)], .string a] wx fun e w' => ∃ v er, e = .returned (.tuple #[v, .int .i64 er]) ∧ PiecesAns L a v er w' ∧ Below w1.heap.size w1 w') := fun wx hb =>
    (pieces_lent L gn ge gl a wx (((hlent.lay (HL.out _ (below_one _))).below hb).mono hb.size)).mono fun e w' ⟨v, er, he, ha, hb'⟩ => ⟨v, er, he, ha, below_then hb hb'⟩
  go_cut [6, 7] from 23 (fun l ev wx => ∃ er, ev = .int .i64 er ∧ PiecesAns L a l er wx ∧ Below w1.heap.size w1 wx)
  case first =>
    go_region_with ((go_at_call 20; refine (HPC.out _ (Below.refl _ _).drew).mono ?_; rintro e w2 ⟨v, er, rfl, hans, hb2⟩))
    all_goals
      go_wp2
      go_meet
      exact ⟨_, rfl, hans, hb2⟩
  case rest =>
    rename World => w2
    obtain ⟨er, rfl, hans, hb2⟩ := hcut
    have HAN : Hid (PiecesAns L a _ er w2) := hans
    clear hans HPC
    have hz2 : w.heap.size < w2.heap.size := by have := hb2.size; omega
    obtain ⟨hc2, hf2⟩ := bcell hb2
    go_wp2_with (first
      | (go_at_call 21; refine (refPieces_any L _ _ (HL.out _ (below_then (below_then (below_one _) hlent.below) hb2))).mono ?_; rintro e w3 ⟨v', er', rfl, hans', hb3⟩; obtain ⟨hc3, hf3⟩ := bcell hb3; have hz3 : w.heap.size < w3.heap.size := by have := hb3.size; omega))
    obtain ⟨rfl, k, u, ao, b0, off, cap, ao', b', off', cap', rfl, rfl, hs1, hs2⟩ := piecesAns_two HAN.out hb3 hans'
    have HS : Hid (StrsIn w3.heap.size w3 ao k b0 off u ∧ StrsIn w3.heap.size w3 ao' k b' off' u) := ⟨hs1, hs2⟩
    clear hs1 hs2 hans' HAN
    go_wp2_with (first
      | (go_at_call 22; refine (sameStrings_any _ _ _ _ _ _ _ _ _ _ _ HS.out.1 HS.out.2).mono ?_; rintro e w4 ⟨rfl, hb4⟩; obtain ⟨hc4, hf4⟩ := bcell hb4; have hz4 : w.heap.size < w4.heap.size := by have := hb4.size; omega)
      | (go_at_call 29; refine (still_any L _ (HL.out _ (below_one _)) g gn ge gl vo vc _ (((hlent.later hb2).later hb3).later hb4)).mono ?_; rintro e w5 ⟨rfl, hb5⟩))
    go_ret
    exact ⟨rfl, below_then (below_one _) hb5⟩


set_option maxRecDepth 100000 in
set_option maxHeartbeats 1000000 in
theorem plays_pieces (L : Lay) (a b : ByteArray) (lev : Int) (ra : Option Addr) (rn rc : Nat) (w : World) (h : L.In w.heap.size w) :
    Calls Tryz.prog 11 #[.agg #[.int .i64 2, .slice L.na L.n L.nc, .slice L.ea L.m L.ec, .string a, .string b, .int .i64 lev, .slice ra rn rc]] w fun e w' => e = .returned (.bool true) ∧ Below w.heap.size w w' := by
  have HL : Hid (∀ w', Below w.heap.size w w' → L.In w'.heap.size w') := fun w' hb => h.later hb
  clear h
  go_enter Tryz.func11, Tryz.ntmps11
  go_wp2_with (go_at_call 12; refine (asks_pieces L _ _ _ _ _ _ _ (HL.out _ (below_one _))).mono ?_; rintro e w1 ⟨rfl, hb1⟩)
  go_ret
  exact ⟨rfl, below_then (below_one _) hb1⟩

end Go.Proofs.YtpclldccjpncdaaGreat
