import Derived.Test.YtpclldccjpncdabB26
namespace Go.Proofs.Ytpclldccjpncdab
open Go.RowKit

/-! the one table that the document fixes: of the rules &a<x<<y -/
def cA : ByteArray := ⟨#[97]⟩
def smpE : List En := [⟨⟨#[39]⟩, [0]⟩, ⟨⟨#[65]⟩, [2]⟩, ⟨⟨#[97]⟩, [1]⟩, ⟨⟨#[98]⟩, [3]⟩, ⟨⟨#[99]⟩, [4]⟩]
def smpL : List Sp := [⟨0, 2, true, 0, 16, 8⟩, ⟨1, 1, true, 8, 8, 8⟩, ⟨2, 3, true, 8, 8, 16⟩, ⟨3, 1, true, 16, 8, 8⟩, ⟨4, 1, true, 24, 8, 8⟩]
def smpK : Wk := ⟨smpL, smpE, [], 0, 5⟩
theorem Samp.beg {L : Lay} (h : Samp L) : begS L = smpK := by
  unfold begS lsB esB
  rw [h.n, h.m]
  have e1 : (List.range 5).map (spB L) = smpL := by
    unfold spB prv
    rw [h.p, h.s, h.t]
    rfl
  have e2 : (List.range 5).map (enB L) = smpE := by
    unfold enB
    rw [h.tx, h.k, h.z]
    rfl
  rw [e1, e2]
  rfl
def smpR (i : Nat) : Rl := if i = 0 then ⟨⟨#[97]⟩, 0, 1, ⟨#[120]⟩, ByteArray.empty⟩ else ⟨ByteArray.empty, 0, 2, ⟨#[121]⟩, ByteArray.empty⟩
def smpS : ByteArray := ⟨#[38, 97, 60, 120, 60, 60, 121]⟩
theorem smp_read : rdAll smpS = ([smpR 0, smpR 1], 0, 0) := by
  have h := back_plain (f := smpR) (n := 2) (fun j hj => by
    have : j = 0 ∨ j = 1 := by omega
    rcases this with rfl | rfl <;> (unfold Rl.first; decide)) (by decide)
  have e : strOfNums (rls smpR 2) = smpS := by decide
  rw [e] at h
  rw [h]
  rfl
theorem nums_empty {es : List En} {s : ByteArray} (h : s.size = 0) : numsE es s = some [] := by
  obtain ⟨q, hq⟩ := cut_ex es.length (txE es) s
  have h0 : q = 0 := by
    have h1 := pos_ge q hq.go
    have h2 := pos_le es.length (txE es) s q
    omega
  subst h0
  rw [numsE_some hq (by rw [h]; rfl)]
  rfl
theorem smp_a : numsE smpE ⟨#[97]⟩ = some [1] := by
  have h1 : ∀ i, i < smpE.length → (txE smpE i).size = 1 := fun i hi => by
    have hi : i < 5 := hi
    rcases lt5 hi with rfl | rfl | rfl | rfl | rfl <;> rfl
  have ht : ∀ p, p < (⟨#[97]⟩ : ByteArray).size → isText smpE.length (txE smpE) (sub ⟨#[97]⟩ p 1) := fun p hp => by
    have hp : p < 1 := hp
    have : p = 0 := by omega
    subst this
    exact ⟨2, by decide, by decide⟩
  have hc := cut_one h1 ht
  rw [numsE_some hc (pos_one h1 ht _ (Nat.le_refl _))]
  show some (numsQ smpE ⟨#[97]⟩ 1) = _
  unfold numsQ
  rw [show List.range 1 = [0] from rfl, List.flatMap_singleton]
  have hp : piece smpE.length (txE smpE) ⟨#[97]⟩ 0 = ⟨#[97]⟩ := by
    unfold piece
    rw [pos_one h1 ht 0 (Nat.zero_le _), lenAt_one h1 (by decide) (ht 0 (by decide))]
    decide
  rw [hp]
  decide
def smpL1 : List Sp := [⟨0, 2, true, 0, 16, 8⟩, ⟨1, 1, true, 8, 8, 8⟩, ⟨2, 3, true, 8, 8, 16⟩, ⟨5, 1, false, 0, 0, 0⟩, ⟨3, 1, true, 16, 8, 8⟩, ⟨4, 1, true, 24, 8, 8⟩]
def smpL2 : List Sp := [⟨0, 2, true, 0, 16, 8⟩, ⟨1, 1, true, 8, 8, 8⟩, ⟨2, 3, true, 8, 8, 16⟩, ⟨5, 1, false, 0, 0, 0⟩, ⟨6, 2, false, 0, 0, 0⟩, ⟨3, 1, true, 16, 8, 8⟩, ⟨4, 1, true, 24, 8, 8⟩]
def smpE1 : List En := smpE ++ [⟨⟨#[120]⟩, [5]⟩]
def smpE2 : List En := smpE ++ [⟨⟨#[120]⟩, [5]⟩, ⟨⟨#[121]⟩, [6]⟩]
theorem smp_b1 : behindS smpL 1 1 = 3 := behindS_eq (i := 1) (by rfl) (by omega) (by decide) (fun k k1 k2 => by
    have : k = 2 := by omega
    subst this
    decide) (fun _ => by decide)
theorem smp_b2 : behindS smpL1 5 2 = 4 := behindS_eq (i := 3) (by rfl) (by omega) (by decide) (fun k k1 k2 => by omega) (fun _ => by decide)
theorem ruleE_calc {K K2 : Wk} {r : Rl} {more stem : List Int} {anchor : Int} (hm : numsE K.es r.more = some more) (hs : (if r.reset.size ≠ 0 then (numsE K.es r.reset).map (fun l => (l.dropLast, l.getLastD 0)) else some (K.stem, K.anchor)) = some (stem, anchor)) (hb : ¬ (r.before ≠ 0 ∧ (r.level ≠ r.before ∨ startS K.ls anchor r.before < 0)))
    (hK : (if 0 < r.level then putS { K with stem := stem, anchor := anchor } (if r.before = 0 then behindS K.ls anchor r.level else (startS K.ls anchor r.before).toNat) r.level else { K with stem := stem, anchor := anchor }) = K2) (h4 : ¬ 4 < (K2.stem ++ [K2.anchor] ++ more).length) (h48 : ¬ (48 < K2.ls.length ∨ 48 < (insE K2.es ⟨r.text, K2.stem ++ [K2.anchor] ++ more⟩).length)) : ruleE insE K r = .ok { K2 with es := insE K2.es ⟨r.text, K2.stem ++ [K2.anchor] ++ more⟩ } := by
  subst hK
  unfold ruleE
  rw [hm]
  simp only
  rw [hs]
  simp only
  rw [if_neg hb, if_neg h4, if_neg h48]
theorem smp_e1 : insE smpE ⟨⟨#[120]⟩, [5]⟩ = smpE1 := by kernel_rfl
theorem smp_e2 : insE smpE1 ⟨⟨#[121]⟩, [6]⟩ = smpE2 := by kernel_rfl
theorem smp_1 : ruleE insE smpK (smpR 0) = .ok ⟨smpL1, smpE1, [], 5, 6⟩ := by
  have h := ruleE_calc (K := smpK) (r := smpR 0) (K2 := ⟨smpL1, smpE, [], 5, 6⟩) (more := []) (stem := []) (anchor := 1) (nums_empty rfl) (by rw [if_pos (by decide), show numsE smpK.es (smpR 0).reset = some [1] from smp_a]; rfl) (by decide) (by
    rw [if_pos (by decide), if_pos (by decide), show behindS smpK.ls 1 (smpR 0).level = 3 from smp_b1]
    rfl) (by decide) (by
    show ¬ (48 < smpL1.length ∨ 48 < (insE smpE ⟨⟨#[120]⟩, [5]⟩).length)
    rw [smp_e1]
    decide)
  rw [h]
  show Except.ok (⟨smpL1, insE smpE ⟨⟨#[120]⟩, [5]⟩, [], 5, 6⟩ : Wk) = _
  rw [smp_e1]
theorem smp_2 : ruleE insE ⟨smpL1, smpE1, [], 5, 6⟩ (smpR 1) = .ok ⟨smpL2, smpE2, [], 6, 7⟩ := by
  have h := ruleE_calc (K := ⟨smpL1, smpE1, [], 5, 6⟩) (r := smpR 1) (K2 := ⟨smpL2, smpE1, [], 6, 7⟩) (more := []) (stem := []) (anchor := 5) (nums_empty rfl) (by rw [if_neg (by decide)]) (by decide) (by
    rw [if_pos (by decide), if_pos (by decide), show behindS smpL1 5 (smpR 1).level = 4 from smp_b2]
    rfl) (by decide) (by
    show ¬ (48 < smpL2.length ∨ 48 < (insE smpE1 ⟨⟨#[121]⟩, [6]⟩).length)
    rw [smp_e2]
    decide)
  rw [h]
  show Except.ok (⟨smpL2, insE smpE1 ⟨⟨#[121]⟩, [6]⟩, [], 6, 7⟩ : Wk) = _
  rw [smp_e2]
def wntL : List Sp := [⟨0, 2, true, 0, 16, 8⟩, ⟨1, 1, true, 8, 8, 8⟩, ⟨2, 3, true, 8, 8, 16⟩, ⟨5, 1, false, 9, 8, 8⟩, ⟨6, 2, false, 9, 9, 8⟩, ⟨3, 1, true, 16, 8, 8⟩, ⟨4, 1, true, 24, 8, 8⟩]
def wntE : List En := [⟨⟨#[39]⟩, [0]⟩, ⟨⟨#[65]⟩, [2]⟩, ⟨⟨#[97]⟩, [1]⟩, ⟨⟨#[98]⟩, [5]⟩, ⟨⟨#[99]⟩, [6]⟩, ⟨⟨#[120]⟩, [3]⟩, ⟨⟨#[121]⟩, [4]⟩]
theorem Samp.comp {L : Lay} (h : Samp L) : compE L smpS = .ok (wntL, wntE) := by
  unfold compE
  rw [if_neg (by simp [h.err]), if_neg (by rw [smp_read]; decide), smp_read, h.beg]
  simp only [rulesE, smp_1, smp_2]
  rfl

end Go.Proofs.Ytpclldccjpncdab

namespace Go.Proofs.Ytpclldccjpncdab
open Go.RowKit

set_option maxHeartbeats 400000 in
theorem keepNode_any (p s t : Int) (w : World) :
    Calls Try.prog 33 #[.agg #[.int .i64 p, .int .i64 s, .int .i64 t], .agg #[.int .i64 p, .int .i64 s, .int .i64 t]] w fun e w' => e = .returned (.bool true) ∧ Below w.heap.size w w' := by
  go_enter Try.func33, Try.ntmps33
  go_wp2
  go_ret
  exact ⟨rfl, below_then (below_one _) (below_one _)⟩

set_option maxRecDepth 100000 in
set_option maxHeartbeats 1000000 in
theorem keepTable_any (L M : Lay) (w : World) (hL : L.In w.heap.size w) (hM : M.In w.heap.size w) (hT : L.Twin M) :
    Calls Try.prog 25 #[.agg #[.slice L.na L.n L.nc, .slice L.ea L.m L.ec], .agg #[.slice M.na M.n M.nc, .slice M.ea M.m M.ec]] w fun e w' => e = .returned (.bool true) ∧ Below w.heap.size w w' := by
  obtain ⟨n, m, na, ea, nc, ec, nb, no, eb, eo, p, s, t, tx, la, k, lc, lb, lo, z⟩ := L
  obtain ⟨n', m', na', ea', nc', ec', nb', no', eb', eo', p', s', t', tx', la', k', lc', lb', lo', z'⟩ := M
  obtain ⟨e1, e2, e3, e4, e5, e6, e7, e8⟩ := hT
  simp only at e1 e2 e3 e4 e5 e6 e7 e8
  subst e1 e2 e3 e4 e5 e6 e7 e8
  obtain ⟨hn, he⟩ := hL
  obtain ⟨hn', he'⟩ := hM
  simp only at hn he hn' he' ⊢
  have HN : Hid (NodesIn w.heap.size w na n' nb no p' s' t') := hn
  have HE : Hid (EntriesIn w.heap.size w ea m' eb eo tx' la k' lc lb lo z') := he
  have HN' : Hid (NodesIn w.heap.size w na' n' nb' no' p' s' t') := hn'
  have HE' : Hid (EntriesIn w.heap.size w ea' m' eb' eo' tx' la' k' lc' lb' lo' z') := he'
  have len := hn.le
  have lem := he.le
  clear hn he hn' he'
  go_enter Try.func25, Try.ntmps25
  go_wp2
  go_loopw [5] (fun i wr => ∃ j : Nat, j ≤ n' ∧ i = .int .i64 j ∧ Below w.heap.size w wr ∧ w.heap.size + 1 < wr.heap.size ∧ (wr.cell? ⟨w.heap.size, 0, none⟩ = some (.slice na n' nc) ∧ wr.cell? ⟨w.heap.size, 1, none⟩ = some (.slice ea m' ec)) ∧ wr.cell? ⟨w.heap.size + 1, 0, none⟩ = some (.slice na' n' nc') ∧ wr.cell? ⟨w.heap.size + 1, 1, none⟩ = some (.slice ea' m' ec')) (fun i _ => n' - (intOf i).toNat)
  case atStart =>
    refine ⟨0, Nat.zero_le _, rfl, below_then (below_one _) (below_one _), by simp, ⟨?_, ?_⟩, ?_, ?_⟩
    all_goals go_simp
  case round =>
    obtain ⟨j, hj, rfl, hbel, hsz, ⟨a0, a1⟩, b0, b1⟩ := hrel
    have HC : Hid ((wr.cell? ⟨w.heap.size, 0, none⟩ = some (.slice na n' nc) ∧ wr.cell? ⟨w.heap.size, 1, none⟩ = some (.slice ea m' ec)) ∧ wr.cell? ⟨w.heap.size + 1, 0, none⟩ = some (.slice na' n' nc') ∧ wr.cell? ⟨w.heap.size + 1, 1, none⟩ = some (.slice ea' m' ec')) := ⟨⟨a0, a1⟩, b0, b1⟩
    by_cases hlt : j < n'
    · have l1 := HN.out.lt (by omega)
      have l2 := HN'.out.lt (by omega)
      rw [HN.out.addr (by omega)] at a0
      rw [HN'.out.addr (by omega)] at b0
      have d0 := Wb.cell (w := wr) (B := wr.heap.size) (by show nb < _; omega) (cellTo hbel (HN.out.p j hlt) l1)
      have d1 := Wb.cell (w := wr) (B := wr.heap.size) (by show nb < _; omega) (cellTo hbel (HN.out.s j hlt) l1)
      have d2 := Wb.cell (w := wr) (B := wr.heap.size) (by show nb < _; omega) (cellTo hbel (HN.out.t j hlt) l1)
      have g0 := Wb.cell (w := wr) (B := wr.heap.size) (by show nb' < _; omega) (cellTo hbel (HN'.out.p j hlt) l2)
      have g1 := Wb.cell (w := wr) (B := wr.heap.size) (by show nb' < _; omega) (cellTo hbel (HN'.out.s j hlt) l2)
      have g2 := Wb.cell (w := wr) (B := wr.heap.size) (by show nb' < _; omega) (cellTo hbel (HN'.out.t j hlt) l2)
      have x0 := Wb.cell (w := wr) (B := wr.heap.size) (by show w.heap.size < _; omega) a0
      have y0 := Wb.cell (w := wr) (B := wr.heap.size) (by show w.heap.size + 1 < _; omega) b0
      go_wp2
      refine wp_region_below wr.heap.size (by kernel_rfl) (by kernel_rfl) ?_
      repeat (go_big_quiet_step ((go_at_call 33; exact Wb.ofCall _ (Nat.le_refl _) (keepNode_any _ _ _ _))))
      refine wpQuiet_nil ?_
      rintro _ ⟨x, rfl⟩
      have hx := x.below
      generalize x.val = w2 at hx
      have hz2 := hx.size
      clear d0 d1 d2 g0 g1 g2 x0 y0
      go_wp2
      go_roundw
      case rel => exact ⟨j + 1, by omega, by go_num, below_then hbel hx, by omega, ⟨cellTo hx HC.out.1.1 (by show w.heap.size < _; omega), cellTo hx HC.out.1.2 (by show w.heap.size < _; omega)⟩, cellTo hx HC.out.2.1 (by show w.heap.size + 1 < _; omega), cellTo hx HC.out.2.2 (by show w.heap.size + 1 < _; omega)⟩
      case measure => simp [intOf]; omega
    · have hjn : j = n' := by omega
      have hbel' := hbel
      have hsz' := hsz
      go_wp2
      go_loopw [7] (fun i wr => ∃ j : Nat, j ≤ m' ∧ i = .int .i64 j ∧ Below w.heap.size w wr ∧ w.heap.size + 1 < wr.heap.size ∧ (wr.cell? ⟨w.heap.size, 0, none⟩ = some (.slice na n' nc) ∧ wr.cell? ⟨w.heap.size, 1, none⟩ = some (.slice ea m' ec)) ∧ wr.cell? ⟨w.heap.size + 1, 0, none⟩ = some (.slice na' n' nc') ∧ wr.cell? ⟨w.heap.size + 1, 1, none⟩ = some (.slice ea' m' ec')) (fun i _ => m' - (intOf i).toNat)
      case atStart => exact ⟨0, Nat.zero_le _, rfl, hbel', hsz', HC.out⟩
      case round =>
        clear hbel' hsz' HC hbel hsz a0 a1 b0 b1 hlt hj hjn
        rename World => wr
        obtain ⟨j, hj, rfl, hbel, hsz, ⟨a0, a1⟩, b0, b1⟩ := hrel
        have HC : Hid ((wr.cell? ⟨w.heap.size, 0, none⟩ = some (.slice na n' nc) ∧ wr.cell? ⟨w.heap.size, 1, none⟩ = some (.slice ea m' ec)) ∧ wr.cell? ⟨w.heap.size + 1, 0, none⟩ = some (.slice na' n' nc') ∧ wr.cell? ⟨w.heap.size + 1, 1, none⟩ = some (.slice ea' m' ec')) := ⟨⟨a0, a1⟩, b0, b1⟩
        by_cases hlt : j < m'
        · have l1 := HE.out.lt (by omega)
          have l2 := HE'.out.lt (by omega)
          rw [HE.out.addr (by omega)] at a1
          rw [HE'.out.addr (by omega)] at b1
          have d0 := cellTo hbel (HE.out.text j hlt) l1
          have d1 := cellTo hbel (HE.out.list j hlt) l1
          have g0 := cellTo hbel (HE'.out.text j hlt) l2
          have g1 := cellTo hbel (HE'.out.list j hlt) l2
          have HI : Hid (IntsIn w.heap.size w (la j) (k' j) (lb j) (lo j) (z' j) ∧ IntsIn w.heap.size w (la' j) (k' j) (lb' j) (lo' j) (z' j)) := ⟨HE.out.ints j hlt, HE'.out.ints j hlt⟩
          obtain ⟨tx, htx⟩ : ∃ x, x = tx' j := ⟨_, rfl⟩
          obtain ⟨K, hK⟩ : ∃ x, x = k' j := ⟨_, rfl⟩
          obtain ⟨A, hA⟩ : ∃ x, x = la j := ⟨_, rfl⟩
          obtain ⟨A2, hA2⟩ : ∃ x, x = la' j := ⟨_, rfl⟩
          obtain ⟨C, hC⟩ : ∃ x, x = lc j := ⟨_, rfl⟩
          obtain ⟨C2, hC2⟩ : ∃ x, x = lc' j := ⟨_, rfl⟩
          rw [← htx] at d0 g0
          rw [← hA, ← hK, ← hC] at d1
          rw [← hA2, ← hK, ← hC2] at g1
          rw [← hA, ← hA2, ← hK] at HI
          have hKl := HI.out.1.le
          have HBR : Hid (Below w.heap.size w wr) := hbel
          have HB2 : Hid (Below wr.heap.size wr ((wr.alloc (.cells #[.string tx, .slice A K C] 41)).alloc (.cells #[.string tx, .slice A2 K C2] 41))) := below_then (below_one _) (below_one _)
          have HX : Hid (∀ wy : World, Below ((wr.alloc (.cells #[.string tx, .slice A K C] 41)).alloc (.cells #[.string tx, .slice A2 K C2] 41)).heap.size ((wr.alloc (.cells #[.string tx, .slice A K C] 41)).alloc (.cells #[.string tx, .slice A2 K C2] 41)) wy →
              wy.cell? ⟨wr.heap.size, 1, none⟩ = some (.slice A K C) ∧ wy.cell? ⟨wr.heap.size + 1, 1, none⟩ = some (.slice A2 K C2) ∧ Below wr.heap.size wr wy ∧ wr.heap.size + 2 ≤ wy.heap.size) := fun wy hy => by
            have r1 := (row_new wr #[.string tx, .slice A K C] 41 2 rfl).alloc (.cells #[.string tx, .slice A2 K C2] 41)
            have r2 := row_at (row_new (wr.alloc (.cells #[.string tx, .slice A K C] 41)) #[.string tx, .slice A2 K C2] 41 2 rfl) (size_one _ _) (fun _ _ => rfl)
            refine ⟨cellTo hy (r1.cell (i := 1) (by omega)) (by simp; omega), cellTo hy (r2.cell (i := 1) (by omega)) (by simp), below_then HB2.out hy, by have := hy.size; simpa using this⟩
          clear htx hK hA hA2 hC hC2 hbel
          have l3 : eb' < wr.heap.size := by omega
          have l4 : eb < wr.heap.size := by omega
          have l5 : w.heap.size + 1 < wr.heap.size := by omega
          have l6 : w.heap.size < wr.heap.size := by omega
          obtain ⟨Y, hY⟩ : ∃ Y, Y = (wr.alloc (.cells #[.string tx, .slice A K C] 41)).alloc (.cells #[.string tx, .slice A2 K C2] 41) := ⟨_, rfl⟩
          rw [← hY] at HX
          have HYE : Hid (Y = (wr.alloc (.cells #[.string tx, .slice A K C] 41)).alloc (.cells #[.string tx, .slice A2 K C2] 41)) := hY
          clear hY
          go_wp2
          clear a0 a1 b0 b1 d0 d1 g0 g1
          go_loopw [10] (fun cv wy => ∃ c : Nat, c ≤ K ∧ cv = .int .i64 (c : Nat) ∧ Below Y.heap.size Y wy) (fun cv _ => K - (intOf cv).toNat)
          case atStart => exact ⟨0, Nat.zero_le _, rfl, by rw [HYE.out]; exact Below.refl _ _⟩
          case round =>
            rename World => wy
            obtain ⟨c, hc, rfl, hbc⟩ := hrel
            have HBC : Hid (Below Y.heap.size Y wy) := hbc
            obtain ⟨x1, y1, hby, hzy⟩ := HX.out wy hbc
            have HBY : Hid (Below wr.heap.size wr wy) := hby
            clear hbc
            by_cases hcl : c < K
            · have hbw := below_then HBR.out hby
              have z1 := cellTo hbw (HI.out.1.cell c hcl) (HI.out.1.lt (by omega))
              have z2 := cellTo hbw (HI.out.2.cell c hcl) (HI.out.2.lt (by omega))
              rw [HI.out.1.addr (by omega)] at x1
              rw [HI.out.2.addr (by omega)] at y1
              obtain ⟨x, hx⟩ : ∃ x, x = z' j c := ⟨_, rfl⟩
              rw [← hx] at z1 z2
              clear hx hbw hby
              go_wp2
              go_quiet (fail)
              go_wp2
              go_roundw
              case rel => exact ⟨c + 1, by omega, by go_num, below_drewN HBC.out _⟩
              case measure => simp [intOf]; omega
            · have hbw := below_then HBR.out hby
              have HBW : Hid (Below w.heap.size w wy) := hbw
              have HC' : Hid ((wy.cell? ⟨w.heap.size, 0, none⟩ = some (.slice na n' nc) ∧ wy.cell? ⟨w.heap.size, 1, none⟩ = some (.slice ea m' ec)) ∧ wy.cell? ⟨w.heap.size + 1, 0, none⟩ = some (.slice na' n' nc') ∧ wy.cell? ⟨w.heap.size + 1, 1, none⟩ = some (.slice ea' m' ec')) :=
                ⟨⟨cellTo hby HC.out.1.1 (by show w.heap.size < _; omega), cellTo hby HC.out.1.2 (by show w.heap.size < _; omega)⟩, cellTo hby HC.out.2.1 (by show w.heap.size + 1 < _; omega), cellTo hby HC.out.2.2 (by show w.heap.size + 1 < _; omega)⟩
              clear hbw hby
              go_wp2
              go_roundw
              case rel => exact ⟨j + 1, by omega, by go_num, HBW.out, by omega, HC'.out⟩
              case measure => simp [intOf]; omega
        · go_wp2
          go_ret
          exact ⟨rfl, hbel⟩

end Go.Proofs.Ytpclldccjpncdab

namespace Go.Proofs.Ytpclldccjpncdab
open Go.RowKit

theorem lt7 {i : Nat} (h : i < 7) : i = 0 ∨ i = 1 ∨ i = 2 ∨ i = 3 ∨ i = 4 ∨ i = 5 ∨ i = 6 := by omega
def wantN : Array Value := #[.int .i64 0, .int .i64 16, .int .i64 8, .int .i64 8, .int .i64 8, .int .i64 8, .int .i64 8, .int .i64 8, .int .i64 16, .int .i64 9, .int .i64 8, .int .i64 8, .int .i64 9, .int .i64 9, .int .i64 8, .int .i64 16, .int .i64 8, .int .i64 8, .int .i64 24, .int .i64 8, .int .i64 8]
def wantE (g : Nat) : Array Value := #[.string ⟨#[39]⟩, .slice (some ⟨g + 1 + 1, 0, none⟩) 1 1, .string ⟨#[65]⟩, .slice (some ⟨g + 1 + 1 + 1, 0, none⟩) 1 1, .string ⟨#[97]⟩, .slice (some ⟨g + 1 + 1 + 1 + 1, 0, none⟩) 1 1, .string ⟨#[98]⟩, .slice (some ⟨g + 1 + 1 + 1 + 1 + 1, 0, none⟩) 1 1, .string ⟨#[99]⟩, .slice (some ⟨g + 1 + 1 + 1 + 1 + 1 + 1, 0, none⟩) 1 1, .string ⟨#[120]⟩, .slice (some ⟨g + 1 + 1 + 1 + 1 + 1 + 1 + 1, 0, none⟩) 1 1, .string ⟨#[121]⟩, .slice (some ⟨g + 1 + 1 + 1 + 1 + 1 + 1 + 1 + 1, 0, none⟩) 1 1]
def wantT (g : Nat) : Array Value := #[.slice (some ⟨g + 1, 0, none⟩) 7 7, .slice (some ⟨g + 1 + 1 + 1 + 1 + 1 + 1 + 1 + 1 + 1, 0, none⟩) 7 7]
def wantWorld (w : World) (tv : Array Value) : World := ((((((((((w.alloc (.cells tv 27)).alloc (.cells wantN 60)).alloc (.cells #[.int .i64 0] 3)).alloc (.cells #[.int .i64 2] 3)).alloc (.cells #[.int .i64 1] 3)).alloc (.cells #[.int .i64 5] 3)).alloc (.cells #[.int .i64 6] 3)).alloc (.cells #[.int .i64 3] 3)).alloc (.cells #[.int .i64 4] 3)).alloc (.cells (wantE w.heap.size) 41)).alloc (.cells (wantT w.heap.size) 27)
def wantLay (g : Nat) : Lay := lysL wntL wntE (some ⟨g + 1, 0, none⟩) 7 (some ⟨g + 1 + 1 + 1 + 1 + 1 + 1 + 1 + 1 + 1, 0, none⟩) 7 (fun i => some ⟨g + 2 + i, 0, none⟩) (fun _ => 1)
theorem wantLay_in (w : World) (tv : Array Value) : (wantLay w.heap.size).In (wantWorld w tv).heap.size (wantWorld w tv) := by
  have hz : (wantWorld w tv).heap.size = w.heap.size + 11 := by simp [wantWorld]
  have rN : (wantWorld w tv).rowIs (w.heap.size + 1) 60 21 (fun i => wantN.getD i undef) := by
    unfold wantWorld
    refine World.rowIs.alloc (World.rowIs.alloc (World.rowIs.alloc (World.rowIs.alloc (World.rowIs.alloc (World.rowIs.alloc (World.rowIs.alloc (World.rowIs.alloc (World.rowIs.alloc (row_at (row_new _ wantN _ 21 rfl) (by simp only [size_one]) fun _ _ => rfl) _) _) _) _) _) _) _) _) _
  have rE : (wantWorld w tv).rowIs (w.heap.size + 1 + 1 + 1 + 1 + 1 + 1 + 1 + 1 + 1) 41 14 (fun i => (wantE w.heap.size).getD i undef) := by
    unfold wantWorld
    refine World.rowIs.alloc (row_at (row_new _ (wantE w.heap.size) _ 14 rfl) (by simp only [size_one]) fun _ _ => rfl) _
  have r0 : (wantWorld w tv).rowIs (w.heap.size + 2 + 0) 3 1 (fun i => #[Value.int .i64 0].getD i undef) := by
    unfold wantWorld
    refine World.rowIs.alloc (World.rowIs.alloc (World.rowIs.alloc (World.rowIs.alloc (World.rowIs.alloc (World.rowIs.alloc (World.rowIs.alloc (World.rowIs.alloc (row_at (row_new _ #[.int .i64 0] _ 1 rfl) (by simp only [size_one]) fun _ _ => rfl) _) _) _) _) _) _) _) _
  have r1 : (wantWorld w tv).rowIs (w.heap.size + 2 + 1) 3 1 (fun i => #[Value.int .i64 2].getD i undef) := by
    unfold wantWorld
    refine World.rowIs.alloc (World.rowIs.alloc (World.rowIs.alloc (World.rowIs.alloc (World.rowIs.alloc (World.rowIs.alloc (World.rowIs.alloc (row_at (row_new _ #[.int .i64 2] _ 1 rfl) (by simp only [size_one]) fun _ _ => rfl) _) _) _) _) _) _) _
  have r2 : (wantWorld w tv).rowIs (w.heap.size + 2 + 2) 3 1 (fun i => #[Value.int .i64 1].getD i undef) := by
    unfold wantWorld
    refine World.rowIs.alloc (World.rowIs.alloc (World.rowIs.alloc (World.rowIs.alloc (World.rowIs.alloc (World.rowIs.alloc (row_at (row_new _ #[.int .i64 1] _ 1 rfl) (by simp only [size_one]) fun _ _ => rfl) _) _) _) _) _) _
  have r3 : (wantWorld w tv).rowIs (w.heap.size + 2 + 3) 3 1 (fun i => #[Value.int .i64 5].getD i undef) := by
    unfold wantWorld
    refine World.rowIs.alloc (World.rowIs.alloc (World.rowIs.alloc (World.rowIs.alloc (World.rowIs.alloc (row_at (row_new _ #[.int .i64 5] _ 1 rfl) (by simp only [size_one]) fun _ _ => rfl) _) _) _) _) _
  have r4 : (wantWorld w tv).rowIs (w.heap.size + 2 + 4) 3 1 (fun i => #[Value.int .i64 6].getD i undef) := by
    unfold wantWorld
    refine World.rowIs.alloc (World.rowIs.alloc (World.rowIs.alloc (World.rowIs.alloc (row_at (row_new _ #[.int .i64 6] _ 1 rfl) (by simp only [size_one]) fun _ _ => rfl) _) _) _) _
  have r5 : (wantWorld w tv).rowIs (w.heap.size + 2 + 5) 3 1 (fun i => #[Value.int .i64 3].getD i undef) := by
    unfold wantWorld
    refine World.rowIs.alloc (World.rowIs.alloc (World.rowIs.alloc (row_at (row_new _ #[.int .i64 3] _ 1 rfl) (by simp only [size_one]) fun _ _ => rfl) _) _) _
  have r6 : (wantWorld w tv).rowIs (w.heap.size + 2 + 6) 3 1 (fun i => #[Value.int .i64 4].getD i undef) := by
    unfold wantWorld
    refine World.rowIs.alloc (World.rowIs.alloc (row_at (row_new _ #[.int .i64 4] _ 1 rfl) (by simp only [size_one]) fun _ _ => rfl) _) _
  refine ⟨⟨fun _ => rfl, fun _ => rN.lt, fun i hi => ?_, fun i hi => ?_, fun i hi => ?_, by show 7 * 24 ≤ _; omega⟩, ⟨fun _ => rfl, fun _ => rE.lt, fun i hi => ?_, fun i hi => ?_, fun i hi => ?_, by show 7 * 40 ≤ _; omega⟩⟩
  · have hi : i < 7 := hi
    rcases lt7 hi with rfl | rfl | rfl | rfl | rfl | rfl | rfl
    · exact rN.cell (i := 0) (by omega)
    · exact rN.cell (i := 3) (by omega)
    · exact rN.cell (i := 6) (by omega)
    · exact rN.cell (i := 9) (by omega)
    · exact rN.cell (i := 12) (by omega)
    · exact rN.cell (i := 15) (by omega)
    · exact rN.cell (i := 18) (by omega)
  · have hi : i < 7 := hi
    rcases lt7 hi with rfl | rfl | rfl | rfl | rfl | rfl | rfl
    · exact rN.cell (i := 1) (by omega)
    · exact rN.cell (i := 4) (by omega)
    · exact rN.cell (i := 7) (by omega)
    · exact rN.cell (i := 10) (by omega)
    · exact rN.cell (i := 13) (by omega)
    · exact rN.cell (i := 16) (by omega)
    · exact rN.cell (i := 19) (by omega)
  · have hi : i < 7 := hi
    rcases lt7 hi with rfl | rfl | rfl | rfl | rfl | rfl | rfl
    · exact rN.cell (i := 2) (by omega)
    · exact rN.cell (i := 5) (by omega)
    · exact rN.cell (i := 8) (by omega)
    · exact rN.cell (i := 11) (by omega)
    · exact rN.cell (i := 14) (by omega)
    · exact rN.cell (i := 17) (by omega)
    · exact rN.cell (i := 20) (by omega)
  · have hi : i < 7 := hi
    rcases lt7 hi with rfl | rfl | rfl | rfl | rfl | rfl | rfl
    · exact rE.cell (i := 0) (by omega)
    · exact rE.cell (i := 2) (by omega)
    · exact rE.cell (i := 4) (by omega)
    · exact rE.cell (i := 6) (by omega)
    · exact rE.cell (i := 8) (by omega)
    · exact rE.cell (i := 10) (by omega)
    · exact rE.cell (i := 12) (by omega)
  · have hi : i < 7 := hi
    rcases lt7 hi with rfl | rfl | rfl | rfl | rfl | rfl | rfl
    · exact rE.cell (i := 1) (by omega)
    · exact rE.cell (i := 3) (by omega)
    · exact rE.cell (i := 5) (by omega)
    · exact rE.cell (i := 7) (by omega)
    · exact rE.cell (i := 9) (by omega)
    · exact rE.cell (i := 11) (by omega)
    · exact rE.cell (i := 13) (by omega)
  · have one : ∀ q, q < 1 → q = 0 := by omega
    have hi : i < 7 := hi
    rcases lt7 hi with rfl | rfl | rfl | rfl | rfl | rfl | rfl
    · exact ⟨fun _ => rfl, fun _ => r0.lt, fun q hq => by obtain rfl := one q hq; exact r0.cell (i := 0) (by omega), by show 1 * 8 ≤ _; omega⟩
    · exact ⟨fun _ => rfl, fun _ => r1.lt, fun q hq => by obtain rfl := one q hq; exact r1.cell (i := 0) (by omega), by show 1 * 8 ≤ _; omega⟩
    · exact ⟨fun _ => rfl, fun _ => r2.lt, fun q hq => by obtain rfl := one q hq; exact r2.cell (i := 0) (by omega), by show 1 * 8 ≤ _; omega⟩
    · exact ⟨fun _ => rfl, fun _ => r3.lt, fun q hq => by obtain rfl := one q hq; exact r3.cell (i := 0) (by omega), by show 1 * 8 ≤ _; omega⟩
    · exact ⟨fun _ => rfl, fun _ => r4.lt, fun q hq => by obtain rfl := one q hq; exact r4.cell (i := 0) (by omega), by show 1 * 8 ≤ _; omega⟩
    · exact ⟨fun _ => rfl, fun _ => r5.lt, fun q hq => by obtain rfl := one q hq; exact r5.cell (i := 0) (by omega), by show 1 * 8 ≤ _; omega⟩
    · exact ⟨fun _ => rfl, fun _ => r6.lt, fun q hq => by obtain rfl := one q hq; exact r6.cell (i := 0) (by omega), by show 1 * 8 ≤ _; omega⟩
theorem wantWorld_below (w : World) (tv : Array Value) : Below w.heap.size w (wantWorld w tv) :=
  below_then (below_then (below_then (below_then (below_then (below_then (below_then (below_then (below_then (below_then (below_one _) (below_one _)) (below_one _)) (below_one _)) (below_one _)) (below_one _)) (below_one _)) (below_one _)) (below_one _)) (below_one _)) (below_one _)

set_option maxRecDepth 100000 in
set_option maxHeartbeats 1000000 in
theorem compiled_any (w : World) : Calls Try.prog 6 #[] w fun e w' => e = .returned (.bool true) ∧ Below w.heap.size w w' := by
  go_enter Try.func6, Try.ntmps6
  go_wp2_with fail
  refine (sample_any _).mono ?_
  rintro e w1 ⟨⟨L, rfl, hL, hin⟩, hb1⟩
  go_wp2_with fail
  refine (compile_any L _ _ hin (by decide)).mono ?_
  rintro e w2 ⟨hb2, hans⟩
  obtain ⟨no, nc, eo, ec, vs, cs, rfl, hin2⟩ : ∃ no nc eo ec vs cs, e = .returned (.tuple #[.agg #[.slice no 7 nc, .slice eo 7 ec], .int .i64 0, .int .i64 0]) ∧ (lysL wntL wntE no nc eo ec vs cs).In w2.heap.size w2 := by
    rcases hans with ⟨x, a, hx, _⟩ | ⟨ls, es, no, nc, eo, ec, vs, cs, hx, rfl, o1, o2, o3⟩
    · have := hL.comp.symm.trans hx
      cases this
    · have := hL.comp.symm.trans hx
      injection this with this
      injection this with e1 e2
      subst e1 e2
      exact ⟨no, nc, eo, ec, vs, cs, rfl, lysL_in (by decide) (by decide) (fun j hj => by
        have hj : j < 7 := hj
        rcases lt7 hj with rfl | rfl | rfl | rfl | rfl | rfl | rfl <;> decide) o1 o2 o3⟩
  have HB : Hid (Below w.heap.size w w2) := below_then hb1 hb2
  have HM : Hid (Calls Try.prog 25 #[.agg #[.slice no 7 nc, .slice eo 7 ec], .agg (wantT w2.heap.size)] (wantWorld w2 #[.slice no 7 nc, .slice eo 7 ec]) fun e w' => e = .returned (.bool true) ∧ Below (wantWorld w2 #[.slice no 7 nc, .slice eo 7 ec]).heap.size (wantWorld w2 #[.slice no 7 nc, .slice eo 7 ec]) w') :=
    keepTable_any (lysL wntL wntE no nc eo ec vs cs) (wantLay w2.heap.size) _ (hin2.later (wantWorld_below _ _)) (wantLay_in _ _) ⟨rfl, rfl, rfl, rfl, rfl, rfl, rfl, rfl⟩
  clear hans hb1 hb2 hin hL hin2
  go_wp2_with fail
  refine Calls.mono HM.out ?_
  rintro e w3 ⟨rfl, hb3⟩
  go_wp2
  go_ret
  exact ⟨rfl, below_then HB.out (below_then (wantWorld_below _ _) hb3)⟩

end Go.Proofs.Ytpclldccjpncdab

namespace Go.Proofs.Ytpclldccjpncdab
open Go.RowKit

theorem valid_lent (L : Lay) (gn ge : Nat) (gl : Nat → Nat) (w : World) (h : (L.lent gn ge gl).In w.heap.size w) :
    Calls Try.prog 12 #[.agg #[.slice (some ⟨gn, 0, none⟩) L.n (L.n + 8), .slice (some ⟨ge, 0, none⟩) L.m (L.m + 8)]] w fun e w' => e = .returned (.int .i64 L.err) ∧ Below w.heap.size w w' := valid_any (L.lent gn ge gl) w h

/-- an Op that lies in memory, taken out -/
def opV (kind : Int) (L : Lay) (a b : ByteArray) (lev : Int) (rv : Value) : Value := .agg #[.int .i64 kind, .slice L.na L.n L.nc, .slice L.ea L.m L.ec, .string a, .string b, .int .i64 lev, rv]

end Go.Proofs.Ytpclldccjpncdab
