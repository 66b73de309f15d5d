import Derived.Test.YtpclldccjpncdaaGreatRefRr
import Derived.Test.YtpclldccjpncdaaGreatSameR
import Derived.Test.YtpclldccjpncdaaGreatTop1
namespace Go.Proofs.YtpclldccjpncdaaGreat
open Go.RowKit

set_option maxRecDepth 100000 in
set_option maxHeartbeats 1000000 in
theorem reads_any (kind : Int) (na : Option Addr) (n nc : Nat) (ea : Option Addr) (m ec : Nat) (a b : ByteArray) (lev : Int) (ra : Option Addr) (rn rc : Nat) (w : World) (ha : a.size ≤ 140737488351232) :
    Calls Tryz.prog 14 #[.agg #[.int .i64 kind, .slice na n nc, .slice ea m ec, .string a, .string b, .int .i64 lev, .slice ra rn rc]] w fun e w' => e = .returned (.bool true) ∧ Below w.heap.size w w' := by
  have HA : Hid ((w.alloc (.cells #[.int .i64 kind, .slice na n nc, .slice ea m ec, .string a, .string b, .int .i64 lev, .slice ra rn rc] 31)).cell? ⟨w.heap.size, 3, none⟩ = some (.string a)) := by show _ = _; go_simp
  have HC : Hid (∀ w, Calls Tryz.prog 34 #[.string a] w fun e w' => ∃ (L : List Rl) (v : Value) (p : Nat) (er : Int), e = .returned (.tuple #[v, .int .i64 er, .int .i64 (p : Nat)]) ∧ Hid (rdAll a = (L, er, p) ∧ L.length ≤ 120) ∧ Hid (w'.ownsRow w.heap.size 57 5 v L.length (rulC L)) ∧ Below w.heap.size w w') := fun w => read_any a w ha
  have HD : Hid (∀ w, Calls Tryz.prog 35 #[.string a] w fun e w' => ∃ (L : List Rl) (v : Value) (p : Nat) (er : Int), e = .returned (.tuple #[v, .int .i64 er, .int .i64 (p : Nat)]) ∧ Hid (rdAll a = (L, er, p) ∧ L.length ≤ 120) ∧ Hid (w'.ownsRow w.heap.size 57 5 v L.length (rulC L)) ∧ Below w.heap.size w w') := fun w => refRead_any a w ha
  have HSM : Hid (∀ x ∈ (rdAll a).1, x.small) := rdAll_small a
  go_enter Tryz.func14, Tryz.ntmps14
  go_wp2_with fail
  refine (HC.out _).mono ?_
  rintro e w1 ⟨L, v, p, er, rfl, HE, HO, hb1⟩
  have a1 := cellTo hb1 HA.out (by show w.heap.size < _; simp)
  have HB1 : Hid (Below w.heap.size w w1) := below_then (below_one _) hb1
  have hz1 : w.heap.size < w1.heap.size := by have := hb1.size; simp at this; omega
  clear hb1
  go_wp2_with fail
  refine (HD.out _).mono ?_
  rintro e w2 ⟨L', v', p', er', rfl, HE', HO', hb2⟩
  have heq : (L, er, p) = (L', er', p') := by rw [← HE.out.1, ← HE'.out.1]
  have hL : L = L' := by injection heq
  have her : er = er' := by injection heq with _ h; injection h
  have hp : p = p' := by injection heq with _ h; injection h
  have hsm : ∀ x ∈ L, x.small := by have := HSM.out; rw [HE.out.1] at this; exact this
  subst hL
  subst her
  subst hp
  have hn : L.length ≤ 1000 := by have := HE.out.2; omega
  obtain ⟨ao, bo, co, hv, hin⟩ := rules_in (ownC_below HO.out hb2) hn hsm
  obtain ⟨ao', bo', co', hv', hin'⟩ := rules_in HO'.out hn hsm
  subst hv
  subst hv'
  have HIN : Hid (RulesIn w2.heap.size w2 ao L.length bo 0 (fun i => L.getD i default)) := hin
  have HIN' : Hid (RulesIn w2.heap.size w2 ao' L.length bo' 0 (fun i => L.getD i default)) := hin'
  have HB2 : Hid (Below w.heap.size w w2) := below_then HB1.out hb2
  obtain ⟨ln, hln⟩ : ∃ x, x = L.length := ⟨_, rfl⟩
  have HSR : Hid (Calls Tryz.prog 36 #[.slice ao L.length co, .slice ao' L.length co'] w2 fun e w' => e = .returned (.bool true) ∧ Below w2.heap.size w2 w') := sameRules_any _ _ _ _ _ _ _ _ _ _ w2 HIN.out HIN'.out
  clear heq hsm hn hin hin' hb2 a1
  rw [← hln] at HSR ⊢
  clear hln
  go_wp2_with fail
  refine Calls.mono HSR.out ?_
  rintro e w3 ⟨rfl, hb3⟩
  have he : (er == er) = true := by simp
  have he2 : ((p : Int) == (p : Int)) = true := by simp
  have HB3 : Hid (Below w.heap.size w w3) := below_then HB2.out hb3
  clear hb3
  go_wp2
  go_ret
  exact ⟨rfl, HB3.out⟩

set_option maxHeartbeats 400000 in
theorem plays_read (L : Lay) (a b : ByteArray) (lev : Int) (ra : Option Addr) (rn rc : Nat) (w : World) (ha : a.size ≤ 140737488351232) :
    Calls Tryz.prog 11 #[.agg #[.int .i64 7, .slice L.na L.n L.nc, .slice L.ea L.m L.ec, .string a, .string b, .int .i64 lev, .slice ra rn rc]] w fun e w' => e = .returned (.bool true) ∧ Below w.heap.size w w' := by
  go_enter Tryz.func11, Tryz.ntmps11
  go_wp2_with fail
  refine (reads_any _ _ _ _ _ _ _ _ _ _ _ _ _ _ ha).mono ?_
  rintro e w1 ⟨rfl, hb1⟩
  go_wp2
  go_ret
  exact ⟨rfl, below_then (below_one _) hb1⟩

end Go.Proofs.YtpclldccjpncdaaGreat
