import Derived.Test.YtpclldccjpncdabB28
namespace Go.Proofs.Ytpclldccjpncdab
open Go.RowKit

set_option maxHeartbeats 1000000 in
theorem keepStrings_any (k k' b off b' off' cap cap' : Nat) (ao ao' : Option Addr) (u u' : Nat → ByteArray) (w : World) (h : StrsIn w.heap.size w ao k b off u) (h' : StrsIn w.heap.size w ao' k' b' off' u') :
    Calls Try.prog 20 #[.slice ao k cap, .slice ao' k' cap'] w fun e w' => ∃ bo : Bool, e = .returned (.bool bo) ∧ (bo = true → k = k' ∧ ∀ j, j < k → u j = u' j) ∧ Below w.heap.size w w' := by
  have hk := h.le
  have hk' := h'.le
  by_cases hne : k = k'
  · subst hne
    obtain ⟨ha, hb, hc, _⟩ := h
    obtain ⟨ha', hb', hc', _⟩ := h'
    go_enter Try.func20, Try.ntmps20
    go_wp2
    go_loopw [5] (fun i wr => ∃ j : Nat, j ≤ k ∧ i = .int .i64 j ∧ (∀ q, q < j → u q = u' q) ∧ Below w.heap.size w wr) (fun i _ => k - (intOf i).toNat)
    case atStart => exact ⟨0, Nat.zero_le _, rfl, fun q hq => by omega, Below.refl _ _⟩
    case round =>
      obtain ⟨j, hj, rfl, hq, hbel⟩ := hrel
      have HQ : Hid (∀ q, q < j → u q = u' q) := hq
      clear hq
      by_cases hlt : j < k
      · have e1 := ha (by omega)
        have e2 := ha' (by omega)
        subst e1
        subst e2
        have c0 := cellTo hbel (hc j hlt) (hb (by omega))
        have c1 := cellTo hbel (hc' j hlt) (hb' (by omega))
        by_cases he : ((u j).toList == (u' j).toList) = true
        · have HE : Hid (u j = u' j) := bytes_eq.1 (by simpa using he)
          go_wp2
          go_quiet (fail)
          go_wp2
          go_roundw
          case rel => exact ⟨j + 1, by omega, by go_num, fun q hq => by
            by_cases e : q = j
            · rw [e]; exact HE.out
            · exact HQ.out q (by omega), below_drewN hbel _⟩
          case measure => simp [intOf]; omega
        · have he' : ((u j).toList == (u' j).toList) = false := by simpa using he
          clear he
          go_wp2
          go_quiet (fail)
          go_wp2
          go_ret
          exact ⟨false, rfl, (fun h => by cases h), below_drewN hbel _⟩
      · have hjk : j = k := by omega
        go_wp2
        go_ret
        exact ⟨true, rfl, fun _ => ⟨by trivial, by rw [← hjk]; exact HQ.out⟩, hbel⟩
  · have hne1 : ((k : Int) == (k' : Int)) = false := beq_eq_false_iff_ne.2 (by omega)
    clear h h'
    go_enter Try.func20, Try.ntmps20
    go_wp2
    go_ret
    exact ⟨false, rfl, (fun h => by cases h), Below.refl _ _⟩

set_option maxHeartbeats 1000000 in
theorem named_any (k b off cap : Nat) (ao : Option Addr) (u : Nat → ByteArray) (ro : Option Addr) (n rc rb rf : Nat) (f : Nat → Rl) (w : World) (h : StrsIn w.heap.size w ao k b off u) (hr : RulesIn w.heap.size w ro n rb rf f) :
    Calls Try.prog 21 #[.slice ao k cap, .slice ro n rc] w fun e w' => ∃ bo : Bool, e = .returned (.bool bo) ∧ (bo = false → ∀ i, i < k → ∀ j, j < n → u i ≠ (f j).text) ∧ Below w.heap.size w w' := by
  have hk := h.le
  have hn := hr.le
  have HR : Hid (RulesIn w.heap.size w ro n rb rf f) := hr
  have HS : Hid (StrsIn w.heap.size w ao k b off u) := h
  clear h hr
  go_enter Try.func21, Try.ntmps21
  go_wp2
  go_loopw [5] (fun iv wr => ∃ i : Nat, i ≤ k ∧ iv = .int .i64 i ∧ (∀ q, q < i → ∀ j, j < n → u q ≠ (f j).text) ∧ Below w.heap.size w wr) (fun i _ => k - (intOf i).toNat)
  case atStart => exact ⟨0, Nat.zero_le _, rfl, fun q hq => by omega, Below.refl _ _⟩
  case round =>
    obtain ⟨i, hi, rfl, hq, hbel⟩ := hrel
    have HQ : Hid (∀ q, q < i → ∀ j, j < n → u q ≠ (f j).text) := hq
    clear hq
    by_cases hlt : i < k
    · go_wp2
      go_loopw [6] (fun jv wv => ∃ j : Nat, j ≤ n ∧ jv = .int .i64 j ∧ (∀ q, q < j → u i ≠ (f q).text) ∧ Below w.heap.size w wv) (fun i _ => n - (intOf i).toNat)
      case atStart => exact ⟨0, Nat.zero_le _, rfl, fun q hq => by omega, hbel⟩
      case round =>
        clear hbel
        obtain ⟨j, hj, rfl, hp, hbel⟩ := hrel
        have HP : Hid (∀ q, q < j → u i ≠ (f q).text) := hp
        clear hp
        by_cases hlj : j < n
        · have e1 := HS.out.addr (by omega)
          have e2 := HR.out.addr (by omega)
          subst e1
          subst e2
          have c0 := cellTo hbel (HS.out.cell i hlt) (HS.out.lt (by omega))
          have c1 := cellTo hbel (HR.out.c3 j hlj) (HR.out.lt (by omega))
          by_cases he : ((u i).toList == ((f j).text).toList) = true
          · go_wp2
            go_quiet (fail)
            go_wp2
            go_ret
            exact ⟨true, rfl, (fun h => by cases h), below_drewN hbel _⟩
          · have he' : ((u i).toList == ((f j).text).toList) = false := by simpa using he
            have HE : Hid (u i ≠ (f j).text) := fun e => he (by simp [e])
            clear he
            go_wp2
            go_quiet (fail)
            go_wp2
            go_roundw
            case rel => exact ⟨j + 1, by omega, by go_num, fun q hq => by
              by_cases e : q = j
              · rw [e]; exact HE.out
              · exact HP.out q (by omega), below_drewN hbel _⟩
            case measure => simp [intOf]; omega
        · have hjn : j = n := by omega
          go_wp2
          go_roundw
          case rel => exact ⟨i + 1, by omega, by go_num, fun q hq => by
            by_cases e : q = i
            · rw [e, ← hjn]; exact HP.out
            · exact HQ.out q (by omega), hbel⟩
          case measure => simp [intOf]; omega
    · have hik : i = k := by omega
      go_wp2
      go_ret
      exact ⟨false, rfl, fun _ => by rw [← hik]; exact HQ.out, hbel⟩

end Go.Proofs.Ytpclldccjpncdab

namespace Go.Proofs.Ytpclldccjpncdab
open Go.RowKit

theorem pieces_has {L : Lay} {s : ByteArray} {v : Value} {er : Int} {w' : World} (he : L.err = 0) (hs : s.size ≤ 24) (h : hasP L s) (ha : PiecesAns L s v er w') :
    ∃ q ao cap b off, er = 0 ∧ v = .slice ao q cap ∧ Cut L.m L.tx s q ∧ StrsIn w'.heap.size w' ao q b off (piece L.m L.tx s) := by
  rcases ha with ⟨h1, _⟩ | ⟨_, h2, _⟩ | ⟨_, _, q, hq, ⟨h3, _⟩ | ⟨h3, h4, ao, cap, b, off, h5, h6⟩⟩
  · exact absurd he h1
  · omega
  · unfold hasP at h
    rw [cutN_eq hq] at h
    exact absurd h h3
  · exact ⟨q, ao, cap, b, off, h4, h5, hq, h6⟩
/-- what 'stays' wants of a text -/
structure StayP (L U : Lay) (f : Nat → Rl) (n : Nat) (s : ByteArray) : Prop where
  eL : L.err = 0
  eU : U.err = 0
  hL : hasP L s
  hU : hasP U s
  le : s.size ≤ 24
  key : ∀ q, Cut L.m L.tx s q → Cut U.m U.tx s q → (∀ j, j < q → piece L.m L.tx s j = piece U.m U.tx s j) → (∀ i, i < q → ∀ j, j < n → piece L.m L.tx s i ≠ (f j).text) → ∀ k, keyL U s k = keyL L s k
theorem stayP_of {L U : Lay} {f : Nat → Rl} {n c : Nat} {K : Wk} {ls : List Sp} (hL : L.err = 0) (h : TabU L (fun u => ∃ j, j < n ∧ u = (f j).text) c n K ls U) {s : ByteArray} (hs : s.size ≤ 24) (hp : hasP L s) (hp' : hasP U s) : StayP L U f n s :=
  ⟨hL, h.err, hp, hp', hs, fun _ hc hc' he hn => keyL_same fun lv => wl_same hL h hc hc' (fun j hj => (he j hj).symm) (fun j hj ⟨i, hi, e⟩ => hn j hj i hi e) lv⟩
theorem keyV_eq {L U : Lay} {a b : ByteArray} {lv : Int} (h1 : keyE L a lv = 0) (h2 : keyE U b lv = 0) (h : ∀ k, keyL U b k = keyL L a k) : keyV U b lv = keyV L a lv := by
  rw [keyV_ok h1, keyV_ok h2, h]
theorem TabU.has {L : Lay} {T : ByteArray → Prop} {c i : Nat} {K : Wk} {ls : List Sp} {U : Lay} (h : TabU L T c i K ls U) {u : ByteArray} (hu : isText L.m L.tx u) : isText U.m U.tx u := by
  rw [h.is.m, h.is.tx']
  exact h.inv.text u hu

/-! the nodes are kept -/
def ndT (L : Lay) : List (Int × Int × Int) := (List.range L.n).map fun j => (L.p j, L.s j, L.t j)
theorem ndT_len (L : Lay) : (ndT L).length = L.n := by simp [ndT]
theorem ndT_drop (L : Lay) {j : Nat} (h : j < L.n) : (ndT L).drop j = (L.p j, L.s j, L.t j) :: (ndT L).drop (j + 1) := by
  rw [List.drop_eq_getElem_cons (by rw [ndT_len]; exact h)]
  simp [ndT]
def spT (x : Sp) : Int × Int × Int := (x.p, x.s, x.t)
theorem sub_keep {l K : List Sp} (h : l.Sublist K) : ∀ ls : List Sp, ls.length = K.length → (∀ x ∈ l, x.old = true) → (∀ j, j < K.length → (K.getD j default).old = true → ls.getD j default = K.getD j default) → (l.map spT).Sublist (ls.map spT) := by
  induction h with
  | slnil =>
    intro ls h1 _ _
    rw [List.eq_nil_of_length_eq_zero h1]
    exact List.Sublist.slnil
  | cons a h ih =>
    intro ls h1 h2 h3
    match ls, h1 with
    | y :: ls, h1 =>
      refine List.Sublist.cons _ (ih ls (by simpa using h1) h2 fun j hj ho => ?_)
      have := h3 (j + 1) (by simp; omega) (by simpa using ho)
      simpa using this
  | cons_cons a h ih =>
    intro ls h1 h2 h3
    match ls, h1 with
    | y :: ls, h1 =>
      have h0 := h3 0 (by simp) (by simpa using h2 a (by simp))
      have h0 : y = a := by simpa using h0
      subst h0
      refine List.Sublist.cons_cons _ (ih ls (by simpa using h1) (fun x hx => h2 x (by simp [hx])) fun j hj ho => ?_)
      have := h3 (j + 1) (by simp; omega) (by simpa using ho)
      simpa using this
theorem TabU.nodes {L : Lay} {T : ByteArray → Prop} {c i : Nat} {K : Wk} {ls : List Sp} {U : Lay} (h : TabU L T c i K ls U) : (ndT L).Sublist (ndT U) ∧ U.n = L.n + c := by
  obtain ⟨w1, w2⟩ := weigh_all K.ls zeroS ls h.wg
  have e1 : ndT L = (lsB L L.n).map spT := by
    refine List.ext_getElem (by rw [ndT_len, List.length_map, lsB_len]) fun j h1 h2 => ?_
    rw [ndT_len] at h1
    have := lsB_at L h1
    rw [getD_at (by rw [lsB_len]; exact h1)] at this
    simp only [ndT, List.getElem_map, List.getElem_range, this]
    rfl
  have e2 : ndT U = ls.map spT := by
    refine List.ext_getElem (by rw [ndT_len, List.length_map, h.is.n]) fun j h1 h2 => ?_
    rw [ndT_len, h.is.n] at h1
    simp only [ndT, List.getElem_map, List.getElem_range, h.is.p, h.is.s, h.is.t, getD_at h1]
    rfl
  refine ⟨?_, by rw [h.is.n, w1, h.inv.ln]⟩
  rw [e1, e2]
  refine sub_keep h.inv.sub ls w1 (fun x hx => ?_) fun j hj ho => (w2 j hj).2.2.2.1 ho
  obtain ⟨j, hj, rfl⟩ := List.getElem_of_mem hx
  rw [lsB_len] at hj
  have := lsB_at L hj
  rw [getD_at (by rw [lsB_len]; exact hj)] at this
  rw [this]
  rfl
theorem sub_both {a b : Int × Int × Int} {t u : List (Int × Int × Int)} (h : (a :: t).Sublist (b :: u)) : t.Sublist u := h.of_cons_cons
theorem sub_skip {a b : Int × Int × Int} {t u : List (Int × Int × Int)} (hn : a ≠ b) (h : (a :: t).Sublist (b :: u)) : (a :: t).Sublist u := by
  cases h with
  | cons _ h => exact h
  | cons_cons _ h => exact absurd rfl hn
theorem lvs_app (a b : List Rl) : lvs (a ++ b) = lvs a + lvs b := by
  induction a with
  | nil => simp [lvs]
  | cons x a ih =>
    have h1 : ∀ l, lvs (x :: l) = lvC x + lvs l := fun _ => rfl
    rw [List.cons_append, h1, h1, ih]
    omega
def lvN (f : Nat → Rl) (i : Nat) : Nat := lvs ((List.range i).map f)
theorem lvN_zero (f : Nat → Rl) : lvN f 0 = 0 := rfl
theorem lvN_succ (f : Nat → Rl) (i : Nat) : lvN f (i + 1) = lvN f i + lvC (f i) := by
  unfold lvN
  rw [List.range_succ, List.map_append, lvs_app]
  rfl
theorem lvN_le (f : Nat → Rl) : ∀ i, lvN f i ≤ i
  | 0 => Nat.le_refl _
  | i + 1 => by
    have := lvN_le f i
    have h1 : lvC (f i) ≤ 1 := by unfold lvC; split <;> omega
    rw [lvN_succ]
    omega

end Go.Proofs.Ytpclldccjpncdab

namespace Go.Proofs.Ytpclldccjpncdab
open Go.RowKit

/-- the rule of 'Placed' -/
structure PlcR (k : Nat) (r : Rl) : Prop where
  r1 : 1 ≤ r.reset.size
  r3 : r.reset.size ≤ 3
  sp : SpL k r.reset
  t1 : 1 ≤ r.text.size
  t3 : r.text.size ≤ 3
  l0 : 0 ≤ r.level
  l3 : r.level ≤ 3
  be : r.before = 0 ∨ (r.before = r.level ∧ 0 < r.level)
  mo : r.more.size = 0
structure PlcL (L : Lay) (k : Nat) : Prop where
  err : L.err = 0
  ln : L.n ≤ 20
  lm : L.m ≤ 22
  tx : ∀ j, j < k → isText L.m L.tx (ltr j)
theorem PlcR.ok {k : Nat} {r : Rl} (h : PlcR k r) : r.ok := by
  obtain ⟨r1, r3, sp, t1, t3, l0, l3, be, mo⟩ := h
  exact ⟨⟨by omega, by omega⟩, by omega, by omega, ⟨by omega, by omega⟩, ⟨by omega, by omega⟩, by omega⟩
theorem PlcR.rule {L : Lay} {k : Nat} {r : Rl} (h : PlcR k r) (hl : PlcL L k) : RuleL L (fun _ => r) 1 := by
  have r1 := h.r1
  have r3 := h.r3
  have t3 := h.t3
  have mo := h.mo
  have ln := hl.ln
  have lm := hl.lm
  refine ⟨by omega, fun i _ => ⟨h.ok, fun _ => by omega⟩, ?_, hl.err, by omega, by omega, fun i _ p hp => spL_spelt h.sp hl.tx p hp, fun i _ p hp => by omega⟩
  have := rls_lenB (f := fun _ => r) (c := 6) 1 fun i _ => by omega
  omega
theorem PlcR.pure {L : Lay} {k : Nat} {r : Rl} (h : PlcR k r) (hl : PlcL L k) {U : Lay} (hk : TabK L ((List.range 1).map fun _ => r) U) : U.err = 0 ∧ hasP L r.reset ∧ hasP U r.reset ∧ hasP U r.text ∧ ∀ q, Cut L.m L.tx r.reset q → Cut U.m U.tx r.reset q → (∀ j, j < q → piece L.m L.tx r.reset j = piece U.m U.tx r.reset j) → (∀ i, i < q → ∀ j, j < 1 → piece L.m L.tx r.reset i ≠ r.text) →
      (r.level = 0 → keyV U r.reset 3 = keyV U r.text 3) ∧ (0 < r.level → r.before = 0 → StandC U r.reset r.text r.level.toNat) ∧ (0 < r.level → r.before ≠ 0 → StandC U r.text r.reset r.level.toNat) := by
  obtain ⟨K, ls, k1, k2, k3⟩ := hk
  have r1 := h.r1
  have r3 := h.r3
  have t3 := h.t3
  obtain ⟨p1, p2, p3⟩ := placed_pure hl.err h.ok (by omega) h.mo k1 k2 k3
  have he := p1.err
  have hR : hasP U r.reset := hasP_of fun p hp => p1.has (spL_spelt h.sp hl.tx p hp)
  refine ⟨he, hasP_of fun p hp => spL_spelt h.sp hl.tx p hp, hR, p2, fun q hc hc' hp hn => ?_⟩
  obtain ⟨q1, q2, q3⟩ := p3 q hc hc' (fun j hj => (hp j hj).symm) fun i hi => hn i hi 0 (by omega)
  refine ⟨fun h0 => ?_, q2, q3⟩
  refine keyV_eq (keyE_ok he (by omega) (by omega) (by omega) p2) (keyE_ok he (by omega) (by omega) (by omega) hR) ?_
  exact keyL_two (q1 h0)

end Go.Proofs.Ytpclldccjpncdab

namespace Go.Proofs.Ytpclldccjpncdab
open Go.RowKit

set_option maxHeartbeats 400000 in
theorem keepNode_no (p s t p' s' t' : Int) (w : World) (h : (p, s, t) ≠ (p', s', t')) :
    Calls Try.prog 33 #[.agg #[.int .i64 p, .int .i64 s, .int .i64 t], .agg #[.int .i64 p', .int .i64 s', .int .i64 t']] w fun e w' => e = .returned (.bool false) ∧ Below w.heap.size w w' := by
  by_cases h1 : p = p'
  · subst h1
    by_cases h2 : s = s'
    · subst h2
      have h3 : (t == t') = false := beq_eq_false_iff_ne.2 fun e => h (by rw [e])
      clear h
      go_enter Try.func33, Try.ntmps33
      go_wp2
      go_ret
      exact ⟨rfl, below_then (below_one _) (below_one _)⟩
    · have h3 : (s == s') = false := beq_eq_false_iff_ne.2 h2
      clear h h2
      go_enter Try.func33, Try.ntmps33
      go_wp2
      go_ret
      exact ⟨rfl, below_then (below_one _) (below_one _)⟩
  · have h3 : (p == p') = false := beq_eq_false_iff_ne.2 h1
    clear h h1
    go_enter Try.func33, Try.ntmps33
    go_wp2
    go_ret
    exact ⟨rfl, below_then (below_one _) (below_one _)⟩

set_option maxRecDepth 100000 in
set_option maxHeartbeats 1000000 in
theorem stays_any (L U : Lay) (ro : Option Addr) (n rc rb rf : Nat) (f : Nat → Rl) (s : ByteArray) (w : World) (hL : L.In w.heap.size w) (hU : U.In w.heap.size w) (hr : RulesIn w.heap.size w ro n rb rf f) (hp : StayP L U f n s) :
    Calls Try.prog 15 #[.agg #[.slice L.na L.n L.nc, .slice L.ea L.m L.ec], .agg #[.slice U.na U.n U.nc, .slice U.ea U.m U.ec], .slice ro n rc, .string s] w fun e w' => e = .returned (.bool true) ∧ Below w.heap.size w w' := by
  obtain ⟨A, hA⟩ : ∃ A, A = (w.alloc (.cells #[.slice L.na L.n L.nc, .slice L.ea L.m L.ec] 27)).alloc (.cells #[.slice U.na U.n U.nc, .slice U.ea U.m U.ec] 27) := ⟨_, rfl⟩
  have HAB : Hid (Below w.heap.size w A) := by show Below _ _ _; rw [hA]; exact below_then (below_one _) (below_one _)
  have HAS : Hid (A.heap.size = w.heap.size + 2) := by show _ = _; rw [hA]; simp
  have HA0 : Hid (A.rowIs w.heap.size 27 2 (fun j => #[Value.slice L.na L.n L.nc, .slice L.ea L.m L.ec].getD j undef)) := by show World.rowIs _ _ _ _ _; rw [hA]; exact (row_new _ _ _ 2 rfl).alloc _
  have HA1 : Hid (A.rowIs (w.heap.size + 1) 27 2 (fun j => #[Value.slice U.na U.n U.nc, .slice U.ea U.m U.ec].getD j undef)) := by show World.rowIs _ _ _ _ _; rw [hA]; exact row_at (row_new _ _ _ 2 rfl) (by simp) (fun _ _ => rfl)
  have HL : Hid (∀ wz, Below A.heap.size A wz → L.In wz.heap.size wz) := fun wz hb => hL.later (below_then HAB.out hb)
  have HU : Hid (∀ wz, Below A.heap.size A wz → U.In wz.heap.size wz) := fun wz hb => hU.later (below_then HAB.out hb)
  have HR : Hid (∀ wz, Below A.heap.size A wz → RulesIn wz.heap.size wz ro n rb rf f) := fun wz hb => hr.later (below_then HAB.out hb)
  have HC : Hid (∀ wz, Below A.heap.size A wz → (wz.cell? ⟨w.heap.size, 0, none⟩ = some (.slice L.na L.n L.nc) ∧ wz.cell? ⟨w.heap.size, 1, none⟩ = some (.slice L.ea L.m L.ec)) ∧ wz.cell? ⟨w.heap.size + 1, 0, none⟩ = some (.slice U.na U.n U.nc) ∧ wz.cell? ⟨w.heap.size + 1, 1, none⟩ = some (.slice U.ea U.m U.ec)) := fun wz hb => by
    have hs := HAS.out
    exact ⟨⟨cellTo hb (HA0.out.cell (i := 0) (by omega)) (by show w.heap.size < _; omega), cellTo hb (HA0.out.cell (i := 1) (by omega)) (by show w.heap.size < _; omega)⟩, cellTo hb (HA1.out.cell (i := 0) (by omega)) (by show w.heap.size + 1 < _; omega), cellTo hb (HA1.out.cell (i := 1) (by omega)) (by show w.heap.size + 1 < _; omega)⟩
  have HP : Hid (StayP L U f n s) := hp
  clear hL hU hr hp
  go_enter Try.func15, Try.ntmps15
  go_wp2_with fail
  rw [← hA]
  clear hA
  refine (pieces_any L s _ (HL.out _ (Below.refl _ _))).mono ?_
  rintro e w1 ⟨v, er, rfl, hans, hb1⟩
  obtain ⟨q, ao, cap, b, off, rfl, rfl, hq, hst⟩ := pieces_has HP.out.eL HP.out.le HP.out.hL hans
  have HB1 : Hid (Below A.heap.size A w1) := hb1
  have HQ : Hid (Cut L.m L.tx s q) := hq
  have HS1 : Hid (StrsIn w1.heap.size w1 ao q b off (piece L.m L.tx s)) := hst
  clear hb1 hq hst hans
  obtain ⟨⟨a0, a1⟩, a2, a3⟩ := HC.out _ HB1.out
  go_wp2_with fail
  refine (pieces_any U s _ (HU.out _ HB1.out)).mono ?_
  rintro e w2 ⟨v', er', rfl, hans, hb2⟩
  obtain ⟨q', ao', cap', b', off', rfl, rfl, hq', hst'⟩ := pieces_has HP.out.eU HP.out.le HP.out.hU hans
  have HB2 : Hid (Below A.heap.size A w2) := below_then HB1.out hb2
  have HQ' : Hid (Cut U.m U.tx s q') := hq'
  have HS2 : Hid (StrsIn w2.heap.size w2 ao' q' b' off' (piece U.m U.tx s)) := hst'
  have HS1' : Hid (StrsIn w2.heap.size w2 ao q b off (piece L.m L.tx s)) := (HS1.out.below hb2).mono hb2.size
  clear hb2 hq' hst' hans a0 a1 a2 a3
  go_wp2_with fail
  refine (keepStrings_any q q' b off b' off' cap cap' ao ao' _ _ w2 HS1'.out HS2.out).mono ?_
  rintro e w3 ⟨bo, rfl, hsame, hb3⟩
  have HSM : Hid (bo = true → q = q' ∧ ∀ j, j < q → piece L.m L.tx s j = piece U.m U.tx s j) := hsame
  have HB3 : Hid (Below A.heap.size A w3) := below_then HB2.out hb3
  have HS3 : Hid (StrsIn w3.heap.size w3 ao q b off (piece L.m L.tx s)) := (HS1'.out.below hb3).mono hb3.size
  clear hb3 hsame
  go_wp2_with fail
  refine (named_any q b off cap ao _ ro n rc rb rf f w3 HS3.out (HR.out _ HB3.out)).mono ?_
  rintro e w4 ⟨bn, rfl, hnm, hb4⟩
  have HNM : Hid (bn = false → ∀ i, i < q → ∀ j, j < n → piece L.m L.tx s i ≠ (f j).text) := hnm
  have HB4 : Hid (Below A.heap.size A w4) := below_then HB3.out hb4
  clear hb4 hnm
  cases bo with
  | false =>
    go_wp2
    go_ret
    exact ⟨rfl, below_then HAB.out HB4.out⟩
  | true =>
    cases bn with
    | true =>
      go_wp2
      go_ret
      exact ⟨rfl, below_then HAB.out HB4.out⟩
    | false =>
      obtain ⟨hqq, hpp⟩ := HSM.out rfl
      subst hqq
      have HKL : Hid (∀ k, keyL U s k = keyL L s k) := HP.out.key q HQ.out HQ'.out hpp (HNM.out rfl)
      clear hpp
      obtain ⟨KV, hKV⟩ : ∃ KV : Nat → ByteArray, ∀ lv : Nat, keyV L s (lv : Int) = KV lv := ⟨fun lv => keyV L s (lv : Int), fun _ => rfl⟩
      have HK1 : Hid (∀ lv : Nat, 1 ≤ lv → lv ≤ 3 → ∀ wz, L.In wz.heap.size wz → Calls Try.prog 22 #[.agg #[.slice L.na L.n L.nc, .slice L.ea L.m L.ec], .string s, .int .i64 (lv : Nat)] wz fun e w' => e = .returned (.tuple #[.string (KV lv), .int .i64 0]) ∧ Below wz.heap.size wz w') := fun lv h1 h3 wz hz => by
        have := key_any L s (lv : Nat) wz hz
        rw [keyE_ok HP.out.eL HP.out.le (by omega) (by omega) HP.out.hL, hKV] at this
        exact this
      have HK2 : Hid (∀ lv : Nat, 1 ≤ lv → lv ≤ 3 → ∀ wz, U.In wz.heap.size wz → Calls Try.prog 22 #[.agg #[.slice U.na U.n U.nc, .slice U.ea U.m U.ec], .string s, .int .i64 (lv : Nat)] wz fun e w' => e = .returned (.tuple #[.string (KV lv), .int .i64 0]) ∧ Below wz.heap.size wz w') := fun lv h1 h3 wz hz => by
        have := key_any U s (lv : Nat) wz hz
        have e1 := keyE_ok HP.out.eL HP.out.le (lev := (lv : Nat)) (by omega) (by omega) HP.out.hL
        have e2 := keyE_ok HP.out.eU HP.out.le (lev := (lv : Nat)) (by omega) (by omega) HP.out.hU
        rw [keyV_eq e1 e2 HKL.out, e2, hKV] at this
        exact this
      clear hKV
      go_wp2
      go_loopw [15] (fun iv wr => ∃ i : Nat, 1 ≤ i ∧ i ≤ 4 ∧ iv = .int .i64 (i : Nat) ∧ Below A.heap.size A wr) (fun iv _ => 4 - (intOf iv).toNat)
      case atStart => exact ⟨1, by omega, by omega, rfl, HB4.out⟩
      case round =>
        obtain ⟨i, h1, h4, rfl, hbel⟩ := hrel
        by_cases h3 : i ≤ 3
        · obtain ⟨⟨a0, a1⟩, a2, a3⟩ := HC.out _ hbel
          have HBW : Hid (Below A.heap.size A wr) := hbel
          clear hbel
          go_wp2_with fail
          refine (HK1.out i h1 h3 _ (HL.out _ HBW.out)).mono ?_
          rintro e w5 ⟨rfl, hb5⟩
          have HB5 : Hid (Below A.heap.size A w5) := below_then HBW.out hb5
          clear hb5 a0 a1 a2 a3
          obtain ⟨⟨a0, a1⟩, a2, a3⟩ := HC.out _ HB5.out
          go_wp2_with fail
          refine (HK2.out i h1 h3 _ (HU.out _ HB5.out)).mono ?_
          rintro e w6 ⟨rfl, hb6⟩
          have HB6 : Hid (Below A.heap.size A w6) := below_then HB5.out hb6
          clear hb6 a0 a1 a2 a3
          go_wp2
          go_roundw
          case rel => exact ⟨i + 1, by omega, by omega, by go_num, HB6.out⟩
          case measure => simp [intOf]; omega
        · go_wp2
          go_ret
          exact ⟨rfl, below_then HAB.out hbel⟩

set_option maxRecDepth 100000 in
set_option maxHeartbeats 1000000 in
theorem keeps_any (L U : Lay) (ro : Option Addr) (n rc rb rf : Nat) (f : Nat → Rl) (w : World) (hL : L.In w.heap.size w) (hU : U.In w.heap.size w) (hr : RulesIn w.heap.size w ro n rb rf f) (hn : L.n ≤ 48) (hu : U.n ≤ 48) (h4 : n ≤ 48) (hs : (ndT L).Sublist (ndT U)) (hc : U.n = L.n + lvN f n) :
    Calls Try.prog 13 #[.agg #[.slice L.na L.n L.nc, .slice L.ea L.m L.ec], .agg #[.slice U.na U.n U.nc, .slice U.ea U.m U.ec], .slice ro n rc] w fun e w' => e = .returned (.bool true) ∧ Below w.heap.size w w' := by
  obtain ⟨A, hA⟩ : ∃ A, A = (w.alloc (.cells #[.slice L.na L.n L.nc, .slice L.ea L.m L.ec] 27)).alloc (.cells #[.slice U.na U.n U.nc, .slice U.ea U.m U.ec] 27) := ⟨_, rfl⟩
  have HAB : Hid (Below w.heap.size w A) := by show Below _ _ _; rw [hA]; exact below_then (below_one _) (below_one _)
  have HAS : Hid (A.heap.size = w.heap.size + 2) := by show _ = _; rw [hA]; simp
  have HA0 : Hid (A.rowIs w.heap.size 27 2 (fun j => #[Value.slice L.na L.n L.nc, .slice L.ea L.m L.ec].getD j undef)) := by show World.rowIs _ _ _ _ _; rw [hA]; exact (row_new _ _ _ 2 rfl).alloc _
  have HA1 : Hid (A.rowIs (w.heap.size + 1) 27 2 (fun j => #[Value.slice U.na U.n U.nc, .slice U.ea U.m U.ec].getD j undef)) := by show World.rowIs _ _ _ _ _; rw [hA]; exact row_at (row_new _ _ _ 2 rfl) (by simp) (fun _ _ => rfl)
  have HL : Hid (∀ wz, Below A.heap.size A wz → L.In wz.heap.size wz) := fun wz hb => hL.later (below_then HAB.out hb)
  have HU : Hid (∀ wz, Below A.heap.size A wz → U.In wz.heap.size wz) := fun wz hb => hU.later (below_then HAB.out hb)
  have HR : Hid (∀ wz, Below A.heap.size A wz → RulesIn wz.heap.size wz ro n rb rf f) := fun wz hb => hr.later (below_then HAB.out hb)
  have HC : Hid (∀ wz, Below A.heap.size A wz → (wz.cell? ⟨w.heap.size, 0, none⟩ = some (.slice L.na L.n L.nc) ∧ wz.cell? ⟨w.heap.size, 1, none⟩ = some (.slice L.ea L.m L.ec)) ∧ wz.cell? ⟨w.heap.size + 1, 0, none⟩ = some (.slice U.na U.n U.nc) ∧ wz.cell? ⟨w.heap.size + 1, 1, none⟩ = some (.slice U.ea U.m U.ec)) := fun wz hb => by
    have hs := HAS.out
    exact ⟨⟨cellTo hb (HA0.out.cell (i := 0) (by omega)) (by show w.heap.size < _; omega), cellTo hb (HA0.out.cell (i := 1) (by omega)) (by show w.heap.size < _; omega)⟩, cellTo hb (HA1.out.cell (i := 0) (by omega)) (by show w.heap.size + 1 < _; omega), cellTo hb (HA1.out.cell (i := 1) (by omega)) (by show w.heap.size + 1 < _; omega)⟩
  have HS : Hid ((ndT L).Sublist (ndT U)) := hs
  have HCN : Hid (U.n = L.n + lvN f n) := hc
  clear hL hU hr hs hc
  go_enter Try.func13, Try.ntmps13
  go_wp2
  go_loopw [7, 8] (fun nv iv wr => ∃ i c : Nat, i ≤ n ∧ c ≤ L.n + i ∧ iv = .int .i64 (i : Nat) ∧ nv = .int .i64 (c : Nat) ∧ Hid (c = L.n + lvN f i) ∧ Below A.heap.size A wr) (fun _ iv _ => n - (intOf iv).toNat)
  case atStart => exact ⟨0, L.n, Nat.zero_le _, Nat.le_refl _, rfl, rfl, rfl, by rw [hA]; exact Below.refl _ _⟩
  case round =>
    obtain ⟨i, c, hi, hcl, rfl, rfl, HCC, hbel⟩ := hrel
    by_cases hlt : i < n
    · have HRW : Hid (RulesIn wr.heap.size wr ro n rb rf f) := HR.out _ hbel
      have ha := HRW.out.addr (by omega)
      subst ha
      have c0 := HRW.out.c2 i hlt
      by_cases h0 : 0 < (f i).level
      · have HS : Hid (c + 1 = L.n + lvN f (i + 1)) := by show _ = _; rw [lvN_succ, HCC.out, show lvC (f i) = 1 by unfold lvC; rw [if_pos h0]]; omega
        go_wp2
        go_roundw
        case rel => exact ⟨i + 1, c + 1, by omega, by omega, by go_num, by go_num, HS, hbel⟩
        case measure => simp [intOf]; omega
      · have HS : Hid (c = L.n + lvN f (i + 1)) := by show _ = _; rw [lvN_succ, HCC.out, show lvC (f i) = 0 by unfold lvC; rw [if_neg h0]]; omega
        go_wp2
        go_roundw
        case rel => exact ⟨i + 1, c, by omega, by omega, by go_num, rfl, HS, hbel⟩
        case measure => simp [intOf]; omega
    · have hie : i = n := by omega
      have hcu : c = U.n := by rw [HCC.out, HCN.out, hie]
      subst hcu
      have HBF : Hid (Below A.heap.size A wr) := hbel
      clear hbel hA
      go_wp2
      go_loopw [9, 10] (fun kv iv wv => ∃ i k : Nat, i ≤ U.n ∧ k ≤ L.n ∧ iv = .int .i64 (i : Nat) ∧ kv = .int .i64 (k : Nat) ∧ Hid (((ndT L).drop k).Sublist ((ndT U).drop i)) ∧ Below A.heap.size A wv) (fun _ iv _ => U.n - (intOf iv).toNat)
      case atStart => exact ⟨0, 0, Nat.zero_le _, Nat.zero_le _, rfl, rfl, HS.out, HBF.out⟩
      case round =>
        rename World => wv
        clear hi hlt hie
        obtain ⟨i, k, hi, hk, rfl, rfl, HSB, hbel⟩ := hrel
        obtain ⟨⟨a0, a1⟩, a2, a3⟩ := HC.out _ hbel
        by_cases hlt : i < U.n
        · by_cases hkl : k < L.n
          · have HUW : Hid (U.In wv.heap.size wv) := HU.out _ hbel
            have HLW : Hid (L.In wv.heap.size wv) := HL.out _ hbel
            have l1 := HLW.out.nodes.lt (by omega)
            have l2 := HUW.out.nodes.lt (by omega)
            have hz : w.heap.size + 1 < wv.heap.size := by have := hbel.size; have := HAS.out; omega
            rw [HLW.out.nodes.addr (by omega)] at a0
            rw [HUW.out.nodes.addr (by omega)] at a2
            have d0 := Wb.cell (w := wv) (B := wv.heap.size) (by show L.nb < _; omega) (HLW.out.nodes.p k hkl)
            have d1 := Wb.cell (w := wv) (B := wv.heap.size) (by show L.nb < _; omega) (HLW.out.nodes.s k hkl)
            have d2 := Wb.cell (w := wv) (B := wv.heap.size) (by show L.nb < _; omega) (HLW.out.nodes.t k hkl)
            have g0 := Wb.cell (w := wv) (B := wv.heap.size) (by show U.nb < _; omega) (HUW.out.nodes.p i hlt)
            have g1 := Wb.cell (w := wv) (B := wv.heap.size) (by show U.nb < _; omega) (HUW.out.nodes.s i hlt)
            have g2 := Wb.cell (w := wv) (B := wv.heap.size) (by show U.nb < _; omega) (HUW.out.nodes.t i hlt)
            have x0 := Wb.cell (w := wv) (B := wv.heap.size) (by show w.heap.size < _; omega) a0
            have y0 := Wb.cell (w := wv) (B := wv.heap.size) (by show w.heap.size + 1 < _; omega) a2
            have HSC : Hid (((L.p k, L.s k, L.t k) :: (ndT L).drop (k + 1)).Sublist ((U.p i, U.s i, U.t i) :: (ndT U).drop (i + 1))) := by show List.Sublist _ _; rw [← ndT_drop L hkl, ← ndT_drop U hlt]; exact HSB.out
            by_cases he : (U.p i, U.s i, U.t i) = (L.p k, L.s k, L.t k)
            · have HSN : Hid (((ndT L).drop (k + 1)).Sublist ((ndT U).drop (i + 1))) := sub_both HSC.out
              have HKN : Hid (∀ wz, Calls Try.prog 33 #[.agg #[.int .i64 (U.p i), .int .i64 (U.s i), .int .i64 (U.t i)], .agg #[.int .i64 (L.p k), .int .i64 (L.s k), .int .i64 (L.t k)]] wz fun e w' => e = .returned (.bool true) ∧ Below wz.heap.size wz w') := fun wz => by
                injection he with e1 e2
                injection e2 with e2 e3
                rw [e1, e2, e3]
                exact keepNode_any _ _ _ _
              clear he
              go_wp2
              refine wp_region_below wv.heap.size (by kernel_rfl) (by kernel_rfl) ?_
              repeat (go_big_quiet_step ((go_at_call 33; exact Wb.ofCall _ (Nat.le_refl _) (HKN.out _))))
              refine wpQuiet_nil ?_
              rintro _ ⟨x, rfl⟩
              have hx := x.below
              generalize x.val = w2 at hx
              clear d0 d1 d2 g0 g1 g2 x0 y0
              go_wp2
              go_roundw
              case rel => exact ⟨i + 1, k + 1, by omega, by omega, by go_num, by go_num, HSN, below_then hbel hx⟩
              case measure => simp [intOf]; omega
            · have HSN : Hid (((ndT L).drop k).Sublist ((ndT U).drop (i + 1))) := by show List.Sublist _ _; rw [ndT_drop L hkl]; exact sub_skip (fun e => he e.symm) HSC.out
              have HKN : Hid (∀ wz, Calls Try.prog 33 #[.agg #[.int .i64 (U.p i), .int .i64 (U.s i), .int .i64 (U.t i)], .agg #[.int .i64 (L.p k), .int .i64 (L.s k), .int .i64 (L.t k)]] wz fun e w' => e = .returned (.bool false) ∧ Below wz.heap.size wz w') := fun wz => keepNode_no _ _ _ _ _ _ _ he
              clear he
              go_wp2
              refine wp_region_below wv.heap.size (by kernel_rfl) (by kernel_rfl) ?_
              repeat (go_big_quiet_step ((go_at_call 33; exact Wb.ofCall _ (Nat.le_refl _) (HKN.out _))))
              refine wpQuiet_nil ?_
              rintro _ ⟨x, rfl⟩
              have hx := x.below
              generalize x.val = w2 at hx
              clear d0 d1 d2 g0 g1 g2 x0 y0
              go_wp2
              go_roundw
              case rel => exact ⟨i + 1, k, by omega, by omega, by go_num, rfl, HSN, below_then hbel hx⟩
              case measure => simp [intOf]; omega
          · have hke : k = L.n := by omega
            subst hke
            have HSN : Hid (((ndT L).drop L.n).Sublist ((ndT U).drop (i + 1))) := by
              show List.Sublist _ _
              rw [List.drop_of_length_le (by rw [ndT_len]; exact Nat.le_refl _)]
              exact List.nil_sublist _
            go_wp2
            go_roundw
            case rel => exact ⟨i + 1, L.n, by omega, by omega, by go_num, rfl, HSN, hbel⟩
            case measure => simp [intOf]; omega
        · have hie : i = U.n := by omega
          have hke : k = L.n := by
            have h1 := HSB.out
            rw [List.drop_of_length_le (l := ndT U) (by rw [ndT_len]; omega)] at h1
            have h2 := congrArg List.length (List.sublist_nil.1 h1)
            rw [List.length_drop, ndT_len] at h2
            simp at h2
            omega
          subst hke
          clear HSB
          go_wp2
          go_ret
          exact ⟨rfl, below_then HAB.out hbel⟩

end Go.Proofs.Ytpclldccjpncdab
