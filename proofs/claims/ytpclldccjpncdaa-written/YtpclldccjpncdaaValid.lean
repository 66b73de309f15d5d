import Derived.Test.YtpclldccjpncdaaNodes
import Derived.Test.YtpclldccjpncdaaEntries
namespace Go.Proofs.Ytpclldccjpncdaa
open Go.RowKit

/-- A table as it lies in memory. -/
structure Lay where
  n : Nat
  m : Nat
  na : Option Addr
  ea : Option Addr
  nc : Nat
  ec : Nat
  nb : Nat
  no : Nat
  eb : Nat
  eo : Nat
  p : Nat → Int
  s : Nat → Int
  t : Nat → Int
  tx : Nat → ByteArray
  la : Nat → Option Addr
  k : Nat → Nat
  lc : Nat → Nat
  lb : Nat → Nat
  lo : Nat → Nat
  z : Nat → Nat → Int

structure Lay.In (L : Lay) (B : Nat) (w : World) : Prop where
  nodes : NodesIn B w L.na L.n L.nb L.no L.p L.s L.t
  entries : EntriesIn B w L.ea L.m L.eb L.eo L.tx L.la L.k L.lc L.lb L.lo L.z
theorem Lay.In.below {L : Lay} {B : Nat} {w w' : World} (h : L.In B w) (hb : Below B w w') : L.In B w' := ⟨h.nodes.below hb, h.entries.below hb⟩
theorem Lay.In.mono {L : Lay} {B B' : Nat} {w : World} (h : L.In B w) (hB : B ≤ B') : L.In B' w := ⟨h.nodes.mono hB, h.entries.mono hB⟩
/-- the same, in a later world and below its own size -/
theorem Lay.In.later {L : Lay} {w w' : World} (h : L.In w.heap.size w) (hb : Below w.heap.size w w') : L.In w'.heap.size w' := (h.below hb).mono hb.size

noncomputable def Lay.err (L : Lay) : Int :=
  if 48 < L.n ∨ 48 < L.m then 1 else if nodesB L.n L.p L.s L.t = false then 2 else if entriesB L.m L.tx L.k L.z L.n = false then 3 else 0
theorem err_size {L : Lay} (h : 48 < L.n ∨ 48 < L.m) : 1 = L.err := by simp [Lay.err, h]
theorem err_node {L : Lay} (h : L.n ≤ 48) (h' : L.m ≤ 48) (h2 : nodesB L.n L.p L.s L.t = false) : 2 = L.err := by
  have : ¬ (48 < L.n ∨ 48 < L.m) := by omega
  simp [Lay.err, this, h2]
theorem err_entry {L : Lay} (h : L.n ≤ 48) (h' : L.m ≤ 48) (h2 : nodesB L.n L.p L.s L.t = true) (h3 : entriesB L.m L.tx L.k L.z L.n = false) : 3 = L.err := by
  have : ¬ (48 < L.n ∨ 48 < L.m) := by omega
  simp [Lay.err, this, h2, h3]
theorem err_ok {L : Lay} (h : L.n ≤ 48) (h' : L.m ≤ 48) (h2 : nodesB L.n L.p L.s L.t = true) (h3 : entriesB L.m L.tx L.k L.z L.n = true) : 0 = L.err := by
  have : ¬ (48 < L.n ∨ 48 < L.m) := by omega
  simp [Lay.err, this, h2, h3]

set_option maxHeartbeats 400000 in
theorem tableValid_any (L : Lay) (w : World) (h : L.In w.heap.size w) :
    Calls Try.prog 40 #[.agg #[.slice L.na L.n L.nc, .slice L.ea L.m L.ec]] w fun e w' => e = .returned (.int .i64 L.err) ∧ Below w.heap.size w w' := by
  by_cases hs : 48 < L.n ∨ 48 < L.m
  · have HS : Hid (1 = L.err) := err_size hs
    clear h
    rcases hs with hs | hs
    · go_enter Try.func40, Try.ntmps40
      go_wp2
      go_ret
      exact ⟨ret_int HS.out, (Below.refl _ _).alloc (Nat.le_refl _) _⟩
    · by_cases hs' : 48 < L.n
      all_goals
        go_enter Try.func40, Try.ntmps40
        go_wp2
        go_ret
        exact ⟨ret_int HS.out, (Below.refl _ _).alloc (Nat.le_refl _) _⟩
  · have h1 : L.n ≤ 48 := by omega
    have h2 : L.m ≤ 48 := by omega
    clear hs
    have HL : Hid (∀ w', Below w.heap.size w w' → L.In w'.heap.size w') := fun w' hb => h.later hb
    clear h
    go_enter Try.func40, Try.ntmps40
    go_wp2_with (first
      | (go_at_call 52; refine (validNodes_any _ _ _ _ _ _ _ _ _ h1 (HL.out _ (below_one _)).nodes).mono ?_; rintro e w1 ⟨rfl, hb1⟩; obtain ⟨hc, hf⟩ := bcell hb1; have hz1 := hb1.size)
      | (go_at_call 53; refine (validEntries_any _ _ _ _ _ _ _ _ _ _ _ _ _ _ h2 (HL.out _ (below_then (below_one _) hb1)).entries).mono ?_; rintro e w2 ⟨rfl, hb2⟩))
    · go_ret
      exact ⟨ret_int (err_node h1 h2 (by simp_all)), below_then (below_one _) hb1⟩
    · go_ret
      exact ⟨ret_int (err_entry h1 h2 (by simp_all) (by simp_all)), below_then (below_then (below_one _) hb1) hb2⟩
    · go_ret
      exact ⟨ret_int (err_ok h1 h2 (by simp_all) (by simp_all)), below_then (below_then (below_one _) hb1) hb2⟩

end Go.Proofs.Ytpclldccjpncdaa
