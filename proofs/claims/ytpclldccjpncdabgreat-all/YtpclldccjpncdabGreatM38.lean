import Derived.Test.YtpclldccjpncdabGreatM37
import Derived.ShutString
import Derived.ChangeOld
import Derived.Carry
namespace Go.Proofs.YtpclldccjpncdabGreat
open Go.ChangeShapes Go.WideShapes Go.ChangeAt Go.RowKit
set_option linter.unusedVariables false

theorem all_own : ownKnob Tryz.prog.godebug = none := by kernel_rfl
theorem all_laidOut : laidOutB Tryz.prog = true := by kernel_rfl

set_option maxHeartbeats 400000 in
theorem all_walk (ao : Option Addr) (n cap b off : Nat) (kind : Nat → Int) (T : Nat → Lay) (sa sb : Nat → ByteArray) (lev : Nat → Int) (ra : Nat → Option Addr) (rn rc : Nat → Nat) (w : World)
    (h : OpsIn w.heap.size w ao n b off kind T sa sb lev ra rn rc) :
    Calls Tryz.prog 4 #[.slice ao n cap] w fun e w' => e = .returned (.bool true) ∧ Below w.heap.size w w' := by
  have HU : Hid (Calls Tryz.prog 5 #[.slice ao n cap, .int .i64 1, .int .i64 9] w fun e w' => e = .returned (.int .i64 (-1)) ∧ Below w.heap.size w w') :=
    upTo_any 1 9 ao n cap b off kind T sa sb lev ra rn rc w h fun i hi h1 h2 wr hb => by
      have hk : kind i = 1 ∨ kind i = 2 ∨ kind i = 3 ∨ kind i = 4 ∨ kind i = 5 ∨ kind i = 6 ∨ kind i = 7 ∨ kind i = 8 ∨ kind i = 9 := by omega
      have hlay := ((h.lay i hi).below hb).mono hb.size
      rcases hk with hk | hk | hk | hk | hk | hk | hk | hk | hk
      · rw [hk]; exact plays_valid (T i) _ _ _ _ _ _ wr hlay
      · rw [hk]; exact plays_pieces (T i) _ _ _ _ _ _ wr hlay
      · rw [hk]; exact plays_compare (T i) _ _ _ _ _ _ wr hlay
      · rw [hk]; exact plays_key (T i) _ _ _ _ _ _ wr hlay
      · rw [hk]; exact plays_encode (T i) _ _ _ _ _ _ wr hlay
      · rw [hk]; exact plays_decode (T i) _ _ _ _ _ _ wr (h.fit i hi)
      · rw [hk]; exact plays_read (T i) _ _ _ _ _ _ wr (h.fit i hi)
      · rw [hk]
        obtain ⟨b', off', f, hr⟩ := h.rules i hi
        exact plays_write (T i) _ _ _ _ _ _ wr ⟨b', off', f, hr.later hb⟩
      · rw [hk]; exact plays_compile (T i) _ _ _ _ _ _ wr hlay (h.fit i hi)
  clear h
  go_enter Tryz.func4, Tryz.ntmps4
  go_wp2_with (go_at_call 5; refine HU.out.mono ?_; rintro e w1 ⟨rfl, hb1⟩)
  go_ret
  exact ⟨rfl, hb1⟩

set_option maxRecDepth 100000 in
theorem all_lifted (os : Os) (started : os.Started) (H : Type) (enc : TypeId × Value → H) :
    ReturnsInHanded {} Tryz.checked os 4 .any (Rows.allSpec.pre6 enc Tryz.prog Tryz.f4 Rows.allRow.domain false) (Rows.allSpec.post enc Tryz.prog Tryz.f4 false true false false) := by
  refine returnsInHanded_of_change_sized (C := Tryz.checked) all_own started (by kernel_rfl) Tryz.func4
    (ChangeSpec.witness6 (enc := enc) (C := Tryz.checked) false ⟨#[], #[.slice none 0 0], []⟩ 8 (by kernel_rfl) (by kernel_rfl) (by kernel_rfl) (by kernel_rfl)) ?_
  intro W base args ds gs before hval0 hW hcnd hsz0 _
  have hsz : (DataW.weightsEach Tryz.prog (Tryz.f4.params.toList ++ Rows.allSpec.plain.varTypes Tryz.prog) (ds ++ gs)).all (· ≤ reachBytes) = true := hsz0
  clear hsz0
  have hval : ∀ (j : Nat) t v, Tryz.f4.params[j]? = some t → args[j]? = some v → Value.okWide Tryz.prog W .any base t v := hval0
  have hW' := hW
  obtain ⟨p, q, hA0, hV, rfl, hfz, hnd⟩ := hW
  have hA : DataW.TrodAll enc Tryz.prog W 0 (fun _ => true) true Tryz.f4.params.toList args.toList ds p := hA0
  rw [Tryz.params4] at hA hval hsz
  obtain ⟨v0, vs0, d0, ds0, p0, q0, hargs, rfl, rfl, h0, r0⟩ := trodAll_cons hA
  obtain ⟨rfl, rfl, rfl⟩ := trodAll_nil r0
  obtain rfl : args = #[v0] := by cases args; simp_all
  obtain ⟨rfl, rfl⟩ := trodVars_none hV
  obtain ⟨a0, len0, cap0, rfl⟩ := okWide_slice Tryz.underlying22 (hval 0 22 v0 rfl rfl)
  have k0 := h0
  have lt0 : ∀ x ∈ p0, x.block < W.heap.size := by obtain ⟨m, hm⟩ := k0; exact DataW.trod_lt m _ _ _ hm
  have hfit : Fit 22 d0 := fun m hm => by
    have := List.all_eq_true.1 hsz m (DataW.weights_mem_each (j := 0) (t := 22) rfl rfl m hm)
    exact of_decide_eq_true this
  obtain ⟨fuel, hf⟩ := h0
  obtain ⟨ao, n, cap, b, off, kind, T, sa, sb, lev, ra, rn, rc, hcs, hops⟩ := open_ops hf hfit
  simp [Value.cells] at hcs
  obtain ⟨rfl, rfl, rfl⟩ := hcs
  clear hA0 hval0
  refine (all_walk _ _ _ b off kind T sa sb lev ra rn rc W hops).mono fun e W' ⟨he, bel⟩ => ?_
  subst he
  exact ⟨_, rfl, _, _, _, [], _, [], hW', trodAll_mk1 (shut_bool Tryz.underlying4 _), (trodAll_cons_mk (Below.trod all_laidOut (by kernel_rfl) (of_decide_eq_true (by kernel_rfl)) k0 bel lt0) trodAll_mk0), rfl, bel.frame _, fun h => by cases h⟩

theorem all_over : Rows.allRow.holds Tryz.pinned (OpenSpec.ofChange Rows.allSpec) :=
  OpenClaim.holds_of_wide 4 Tryz.f4 rfl rfl rfl rfl rfl rfl rfl ⟨rfl, rfl, rfl, rfl, rfl⟩ rfl rfl rfl rfl rfl (by kernel_rfl) Tryz.func4 (by kernel_rfl)
    (of_decide_eq_true (by kernel_rfl)) (by unfold Func.isWrapper; first | (rw [if_pos (by decide +kernel)]; kernel_rfl) | (rw [if_neg (by decide +kernel)]; exact ⟨rfl, rfl⟩))
    (fun os started H enc _ => all_lifted os started H enc)

theorem all_proved : Rows.AllSaid := all_over
#print axioms all_proved
end Go.Proofs.YtpclldccjpncdabGreat
