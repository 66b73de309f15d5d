import Derived.Test.YtpclldccjpncdabB28
import Derived.Deep.Cut
import Derived.Deep.CutRange
import Derived.Deep.DeepCutAuto
namespace Go.Proofs.Ytpclldccjpncdab
open Go.RowKit

set_option maxHeartbeats 1000000 in
theorem keepStrings_any (k k' b off b' off' cap cap' : Nat) (ao ao' : Option Addr) (u u' : Nat → ByteArray) (w : World) (h : StrsIn w.heap.size w ao k b off u) (h' : StrsIn w.heap.size w ao' k' b' off' u') :
    Calls Try.prog 20 #[.slice ao k cap, .slice ao' k' cap'] w fun e w' => ∃ bo : Bool, e = .returned (.bool bo) ∧ (bo = true → k = k' ∧ ∀ j, j < k → u j = u' j) ∧ Below w.heap.size w w' := by
  have hk := h.le
  have hk' := h'.le
  by_cases hne : k = k'
  · subst hne
    obtain ⟨ha, hb, hc, _⟩ := h
    obtain ⟨ha', hb', hc', _⟩ := h'
    go_enter Try.func20, Try.ntmps20
    go_wp2
    go_loopw [5] (fun i wr => ∃ j : Nat, j ≤ k ∧ i = .int .i64 j ∧ (∀ q, q < j → u q = u' q) ∧ Below w.heap.size w wr) (fun i _ => k - (intOf i).toNat)
    case atStart => exact ⟨0, Nat.zero_le _, rfl, fun q hq => by omega, Below.refl _ _⟩
    case round =>
      obtain ⟨j, hj, rfl, hq, hbel⟩ := hrel
      have HQ : Hid (∀ q, q < j → u q = u' q) := hq
      clear hq
      by_cases hlt : j < k
      · have e1 := ha (by omega)
        have e2 := ha' (by omega)
        subst e1
        subst e2
        have c0 := cellTo hbel (hc j hlt) (hb (by omega))
        have c1 := cellTo hbel (hc' j hlt) (hb' (by omega))
        by_cases he : ((u j).toList == (u' j).toList) = true
        · have HE : Hid (u j = u' j) := bytes_eq.1 (by simpa using he)
          go_wp2
          go_quiet (fail)
          go_wp2
          go_roundw
          case rel => exact ⟨j + 1, by omega, by go_num, fun q hq => by
            by_cases e : q = j
            · rw [e]; exact HE.out
            · exact HQ.out q (by omega), below_drewN hbel _⟩
          case measure => simp [intOf]; omega
        · have he' : ((u j).toList == (u' j).toList) = false := by simpa using he
          clear he
          go_wp2
          go_quiet (fail)
          go_wp2
          go_ret
          exact ⟨false, rfl, (fun h => by cases h), below_drewN hbel _⟩
      · have hjk : j = k := by omega
        go_wp2
        go_ret
        exact ⟨true, rfl, fun _ => ⟨by trivial, by rw [← hjk]; exact HQ.out⟩, hbel⟩
  · have hne1 : ((k : Int) == (k' : Int)) = false := beq_eq_false_iff_ne.2 (by omega)
    clear h h'
    go_enter Try.func20, Try.ntmps20
    go_wp2
    go_ret
    exact ⟨false, rfl, (fun h => by cases h), Below.refl _ _⟩

set_option maxHeartbeats 1000000 in
theorem named_any (k b off cap : Nat) (ao : Option Addr) (u : Nat → ByteArray) (ro : Option Addr) (n rc rb rf : Nat) (f : Nat → Rl) (w : World) (h : StrsIn w.heap.size w ao k b off u) (hr : RulesIn w.heap.size w ro n rb rf f) :
    Calls Try.prog 21 #[.slice ao k cap, .slice ro n rc] w fun e w' => ∃ bo : Bool, e = .returned (.bool bo) ∧ (bo = false → ∀ i, i < k → ∀ j, j < n → u i ≠ (f j).text) ∧ Below w.heap.size w w' := by
  have hk := h.le
  have hn := hr.le
  have HR : Hid (RulesIn w.heap.size w ro n rb rf f) := hr
  have HS : Hid (StrsIn w.heap.size w ao k b off u) := h
  clear h hr
  go_enter Try.func21, Try.ntmps21
  go_wp2
  go_loopw [5] (fun iv wr => ∃ i : Nat, i ≤ k ∧ iv = .int .i64 i ∧ (∀ q, q < i → ∀ j, j < n → u q ≠ (f j).text) ∧ Below w.heap.size w wr) (fun i _ => k - (intOf i).toNat)
  case atStart => exact ⟨0, Nat.zero_le _, rfl, fun q hq => by omega, Below.refl _ _⟩
  case round =>
    obtain ⟨i, hi, rfl, hq, hbel⟩ := hrel
    have HQ : Hid (∀ q, q < i → ∀ j, j < n → u q ≠ (f j).text) := hq
    clear hq
    by_cases hlt : i < k
    · go_wp2
      go_loopw [6] (fun jv wv => ∃ j : Nat, j ≤ n ∧ jv = .int .i64 j ∧ (∀ q, q < j → u i ≠ (f q).text) ∧ Below w.heap.size w wv) (fun i _ => n - (intOf i).toNat)
      case atStart => exact ⟨0, Nat.zero_le _, rfl, fun q hq => by omega, hbel⟩
      case round =>
        clear hbel
        obtain ⟨j, hj, rfl, hp, hbel⟩ := hrel
        have HP : Hid (∀ q, q < j → u i ≠ (f q).text) := hp
        clear hp
        by_cases hlj : j < n
        · have e1 := HS.out.addr (by omega)
          have e2 := HR.out.addr (by omega)
          subst e1
          subst e2
          have c0 := cellTo hbel (HS.out.cell i hlt) (HS.out.lt (by omega))
          have c1 := cellTo hbel (HR.out.c3 j hlj) (HR.out.lt (by omega))
          by_cases he : ((u i).toList == ((f j).text).toList) = true
          · go_wp2
            go_quiet (fail)
            go_wp2
            go_ret
            exact ⟨true, rfl, (fun h => by cases h), below_drewN hbel _⟩
          · have he' : ((u i).toList == ((f j).text).toList) = false := by simpa using he
            have HE : Hid (u i ≠ (f j).text) := fun e => he (by simp [e])
            clear he
            go_wp2
            go_quiet (fail)
            go_wp2
            go_roundw
            case rel => exact ⟨j + 1, by omega, by go_num, fun q hq => by
              by_cases e : q = j
              · rw [e]; exact HE.out
              · exact HP.out q (by omega), below_drewN hbel _⟩
            case measure => simp [intOf]; omega
        · have hjn : j = n := by omega
          go_wp2
          go_roundw
          case rel => exact ⟨i + 1, by omega, by go_num, fun q hq => by
            by_cases e : q = i
            · rw [e, ← hjn]; exact HP.out
            · exact HQ.out q (by omega), hbel⟩
          case measure => simp [intOf]; omega
    · have hik : i = k := by omega
      go_wp2
      go_ret
      exact ⟨false, rfl, fun _ => by rw [← hik]; exact HQ.out, hbel⟩

end Go.Proofs.Ytpclldccjpncdab

namespace Go.Proofs.Ytpclldccjpncdab
open Go.RowKit

theorem pieces_has {L : Lay} {s : ByteArray} {v : Value} {er : Int} {w' : World} (he : L.err = 0) (hs : s.size ≤ 24) (h : hasP L s) (ha : PiecesAns L s v er w') :
    ∃ q ao cap b off, er = 0 ∧ v = .slice ao q cap ∧ Cut L.m L.tx s q ∧ StrsIn w'.heap.size w' ao q b off (piece L.m L.tx s) := by
  rcases ha with ⟨h1, _⟩ | ⟨_, h2, _⟩ | ⟨_, _, q, hq, ⟨h3, _⟩ | ⟨h3, h4, ao, cap, b, off, h5, h6⟩⟩
  · exact absurd he h1
  · omega
  · unfold hasP at h
    rw [cutN_eq hq] at h
    exact absurd h h3
  · exact ⟨q, ao, cap, b, off, h4, h5, hq, h6⟩
/-- what 'stays' wants of a text -/
structure StayP (L U : Lay) (f : Nat → Rl) (n : Nat) (s : ByteArray) : Prop where
  eL : L.err = 0
  eU : U.err = 0
  hL : hasP L s
  hU : hasP U s
  le : s.size ≤ 24
  key : ∀ q, Cut L.m L.tx s q → Cut U.m U.tx s q → (∀ j, j < q → piece L.m L.tx s j = piece U.m U.tx s j) → (∀ i, i < q → ∀ j, j < n → piece L.m L.tx s i ≠ (f j).text) → ∀ k, keyL U s k = keyL L s k
theorem stayP_of {L U : Lay} {f : Nat → Rl} {n c : Nat} {K : Wk} {ls : List Sp} (hL : L.err = 0) (h : TabU L (fun u => ∃ j, j < n ∧ u = (f j).text) c n K ls U) {s : ByteArray} (hs : s.size ≤ 24) (hp : hasP L s) (hp' : hasP U s) : StayP L U f n s :=
  ⟨hL, h.err, hp, hp', hs, fun _ hc hc' he hn => keyL_same fun lv => wl_same hL h hc hc' (fun j hj => (he j hj).symm) (fun j hj ⟨i, hi, e⟩ => hn j hj i hi e) lv⟩
theorem keyV_eq {L U : Lay} {a b : ByteArray} {lv : Int} (h1 : keyE L a lv = 0) (h2 : keyE U b lv = 0) (h : ∀ k, keyL U b k = keyL L a k) : keyV U b lv = keyV L a lv := by
  rw [keyV_ok h1, keyV_ok h2, h]
theorem TabU.has {L : Lay} {T : ByteArray → Prop} {c i : Nat} {K : Wk} {ls : List Sp} {U : Lay} (h : TabU L T c i K ls U) {u : ByteArray} (hu : isText L.m L.tx u) : isText U.m U.tx u := by
  rw [h.is.m, h.is.tx']
  exact h.inv.text u hu

/-! the nodes are kept -/
def ndT (L : Lay) : List (Int × Int × Int) := (List.range L.n).map fun j => (L.p j, L.s j, L.t j)
theorem ndT_len (L : Lay) : (ndT L).length = L.n := by simp [ndT]
theorem ndT_drop (L : Lay) {j : Nat} (h : j < L.n) : (ndT L).drop j = (L.p j, L.s j, L.t j) :: (ndT L).drop (j + 1) := by
  rw [List.drop_eq_getElem_cons (by rw [ndT_len]; exact h)]
  simp [ndT]
def spT (x : Sp) : Int × Int × Int := (x.p, x.s, x.t)
theorem sub_keep {l K : List Sp} (h : l.Sublist K) : ∀ ls : List Sp, ls.length = K.length → (∀ x ∈ l, x.old = true) → (∀ j, j < K.length → (K.getD j default).old = true → ls.getD j default = K.getD j default) → (l.map spT).Sublist (ls.map spT) := by
  induction h with
  | slnil =>
    intro ls h1 _ _
    rw [List.eq_nil_of_length_eq_zero h1]
    exact List.Sublist.slnil
  | cons a h ih =>
    intro ls h1 h2 h3
    match ls, h1 with
    | y :: ls, h1 =>
      refine List.Sublist.cons _ (ih ls (by simpa using h1) h2 fun j hj ho => ?_)
      have := h3 (j + 1) (by simp; omega) (by simpa using ho)
      simpa using this
  | cons_cons a h ih =>
    intro ls h1 h2 h3
    match ls, h1 with
    | y :: ls, h1 =>
      have h0 := h3 0 (by simp) (by simpa using h2 a (by simp))
      have h0 : y = a := by simpa using h0
      subst h0
      refine List.Sublist.cons_cons _ (ih ls (by simpa using h1) (fun x hx => h2 x (by simp [hx])) fun j hj ho => ?_)
      have := h3 (j + 1) (by simp; omega) (by simpa using ho)
      simpa using this
theorem TabU.nodes {L : Lay} {T : ByteArray → Prop} {c i : Nat} {K : Wk} {ls : List Sp} {U : Lay} (h : TabU L T c i K ls U) : (ndT L).Sublist (ndT U) ∧ U.n = L.n + c := by
  obtain ⟨w1, w2⟩ := weigh_all K.ls zeroS ls h.wg
  have e1 : ndT L = (lsB L L.n).map spT := by
    refine List.ext_getElem (by rw [ndT_len, List.length_map, lsB_len]) fun j h1 h2 => ?_
    rw [ndT_len] at h1
    have := lsB_at L h1
    rw [getD_at (by rw [lsB_len]; exact h1)] at this
    simp only [ndT, List.getElem_map, List.getElem_range, this]
    rfl
  have e2 : ndT U = ls.map spT := by
    refine List.ext_getElem (by rw [ndT_len, List.length_map, h.is.n]) fun j h1 h2 => ?_
    rw [ndT_len, h.is.n] at h1
    simp only [ndT, List.getElem_map, List.getElem_range, h.is.p, h.is.s, h.is.t, getD_at h1]
    rfl
  refine ⟨?_, by rw [h.is.n, w1, h.inv.ln]⟩
  rw [e1, e2]
  refine sub_keep h.inv.sub ls w1 (fun x hx => ?_) fun j hj ho => (w2 j hj).2.2.2.1 ho
  obtain ⟨j, hj, rfl⟩ := List.getElem_of_mem hx
  rw [lsB_len] at hj
  have := lsB_at L hj
  rw [getD_at (by rw [lsB_len]; exact hj)] at this
  rw [this]
  rfl
theorem sub_both {a b : Int × Int × Int} {t u : List (Int × Int × Int)} (h : (a :: t).Sublist (b :: u)) : t.Sublist u := h.of_cons_cons
theorem sub_skip {a b : Int × Int × Int} {t u : List (Int × Int × Int)} (hn : a ≠ b) (h : (a :: t).Sublist (b :: u)) : (a :: t).Sublist u := by
  cases h with
  | cons _ h => exact h
  | cons_cons _ h => exact absurd rfl hn
theorem lvs_app (a b : List Rl) : lvs (a ++ b) = lvs a + lvs b := by
  induction a with
  | nil => simp [lvs]
  | cons x a ih =>
    have h1 : ∀ l, lvs (x :: l) = lvC x + lvs l := fun _ => rfl
    rw [List.cons_append, h1, h1, ih]
    omega
def lvN (f : Nat → Rl) (i : Nat) : Nat := lvs ((List.range i).map f)
theorem lvN_zero (f : Nat → Rl) : lvN f 0 = 0 := rfl
theorem lvN_succ (f : Nat → Rl) (i : Nat) : lvN f (i + 1) = lvN f i + lvC (f i) := by
  unfold lvN
  rw [List.range_succ, List.map_append, lvs_app]
  rfl
theorem lvN_le (f : Nat → Rl) : ∀ i, lvN f i ≤ i
  | 0 => Nat.le_refl _
  | i + 1 => by
    have := lvN_le f i
    have h1 : lvC (f i) ≤ 1 := by unfold lvC; split <;> omega
    rw [lvN_succ]
    omega

end Go.Proofs.Ytpclldccjpncdab

namespace Go.Proofs.Ytpclldccjpncdab
open Go.RowKit

/-- the rule of 'Placed' -/
structure PlcR (k : Nat) (r : Rl) : Prop where
  r1 : 1 ≤ r.reset.size
  r3 : r.reset.size ≤ 3
  sp : SpL k r.reset
  t1 : 1 ≤ r.text.size
  t3 : r.text.size ≤ 3
  l0 : 0 ≤ r.level
  l3 : r.level ≤ 3
  be : r.before = 0 ∨ (r.before = r.level ∧ 0 < r.level)
  mo : r.more.size = 0
structure PlcL (L : Lay) (k : Nat) : Prop where
  err : L.err = 0
  ln : L.n ≤ 20
  lm : L.m ≤ 22
  tx : ∀ j, j < k → isText L.m L.tx (ltr j)
theorem PlcR.ok {k : Nat} {r : Rl} (h : PlcR k r) : r.ok := by
  obtain ⟨r1, r3, sp, t1, t3, l0, l3, be, mo⟩ := h
  exact ⟨⟨by omega, by omega⟩, by omega, by omega, ⟨by omega, by omega⟩, ⟨by omega, by omega⟩, by omega⟩
theorem PlcR.rule {L : Lay} {k : Nat} {r : Rl} (h : PlcR k r) (hl : PlcL L k) : RuleL L (fun _ => r) 1 := by
  have r1 := h.r1
  have r3 := h.r3
  have t3 := h.t3
  have mo := h.mo
  have ln := hl.ln
  have lm := hl.lm
  refine ⟨by omega, fun i _ => ⟨h.ok, fun _ => by omega⟩, ?_, hl.err, by omega, by omega, fun i _ p hp => spL_spelt h.sp hl.tx p hp, fun i _ p hp => by omega⟩
  have := rls_lenB (f := fun _ => r) (c := 6) 1 fun i _ => by omega
  omega
theorem PlcR.pure {L : Lay} {k : Nat} {r : Rl} (h : PlcR k r) (hl : PlcL L k) {U : Lay} (hk : TabK L ((List.range 1).map fun _ => r) U) : U.err = 0 ∧ hasP L r.reset ∧ hasP U r.reset ∧ hasP U r.text ∧ ∀ q, Cut L.m L.tx r.reset q → Cut U.m U.tx r.reset q → (∀ j, j < q → piece L.m L.tx r.reset j = piece U.m U.tx r.reset j) → (∀ i, i < q → ∀ j, j < 1 → piece L.m L.tx r.reset i ≠ r.text) →
      (r.level = 0 → keyV U r.reset 3 = keyV U r.text 3) ∧ (0 < r.level → r.before = 0 → StandC U r.reset r.text r.level.toNat) ∧ (0 < r.level → r.before ≠ 0 → StandC U r.text r.reset r.level.toNat) := by
  obtain ⟨K, ls, k1, k2, k3⟩ := hk
  have r1 := h.r1
  have r3 := h.r3
  have t3 := h.t3
  obtain ⟨p1, p2, p3⟩ := placed_pure hl.err h.ok (by omega) h.mo k1 k2 k3
  have he := p1.err
  have hR : hasP U r.reset := hasP_of fun p hp => p1.has (spL_spelt h.sp hl.tx p hp)
  refine ⟨he, hasP_of fun p hp => spL_spelt h.sp hl.tx p hp, hR, p2, fun q hc hc' hp hn => ?_⟩
  obtain ⟨q1, q2, q3⟩ := p3 q hc hc' (fun j hj => (hp j hj).symm) fun i hi => hn i hi 0 (by omega)
  refine ⟨fun h0 => ?_, q2, q3⟩
  refine keyV_eq (keyE_ok he (by omega) (by omega) (by omega) p2) (keyE_ok he (by omega) (by omega) (by omega) hR) ?_
  exact keyL_two (q1 h0)

end Go.Proofs.Ytpclldccjpncdab

namespace Go.Proofs.Ytpclldccjpncdab
open Go.RowKit

/-- one rule that was just built -/
theorem rules1_new {r : Rl} (w : World) (h : r.reset.size ≤ 100 ∧ r.text.size ≤ 100 ∧ r.more.size ≤ 100) :
    RulesIn (w.heap.size + 1) (w.alloc (.cells #[.string r.reset, .int .i64 r.before, .int .i64 r.level, .string r.text, .string r.more] 48)) (some ⟨w.heap.size, 0, none⟩) 1 w.heap.size 0 (fun _ => r) := by
  have q := row_new w #[.string r.reset, .int .i64 r.before, .int .i64 r.level, .string r.text, .string r.more] 48 5 rfl
  have lt1 : ∀ i : Nat, i < 1 → i = 0 := by omega
  refine ⟨fun _ => rfl, fun _ => Nat.lt_succ_self _, fun i hi => ?_, fun i hi => ?_, fun i hi => ?_, fun i hi => ?_, fun i hi => ?_, by omega, fun i hi => by omega⟩
  · obtain rfl := lt1 i hi
    exact q.cell (i := 0) (by omega)
  · obtain rfl := lt1 i hi
    exact q.cell (i := 1) (by omega)
  · obtain rfl := lt1 i hi
    exact q.cell (i := 2) (by omega)
  · obtain rfl := lt1 i hi
    exact q.cell (i := 3) (by omega)
  · obtain rfl := lt1 i hi
    exact q.cell (i := 4) (by omega)

set_option maxRecDepth 100000 in
set_option maxHeartbeats 4000000 in
theorem placed_any (nk nc nb no : Nat) (na : Option Addr) (nz : Nat → Int) (ek ec eb eo : Nat) (ea : Option Addr) (ez : Nat → Int) (xk xc xb xo : Nat) (xa : Option Addr) (xz : Nat → Int) (v : Int) (s : ByteArray) (w : World)
    (hn : RawIn w.heap.size w na nk nb no nz) (he : RawIn w.heap.size w ea ek eb eo ez) (hx : RawIn w.heap.size w xa xk xb xo xz) (hv : -9223372036854775808 ≤ v ∧ v ≤ 9223372036854775807) (_hs : s.size ≤ 140737488351232) :
    Calls Try.prog 4 #[.slice na nk nc, .slice ea ek ec, .slice xa xk xc, .int .i64 v, .string s] w fun e w' => e = .returned (.bool true) ∧ Below w.heap.size w w' := by
  have HN : Hid (RawIn w.heap.size w na nk nb no nz) := hn
  have HE : Hid (RawIn w.heap.size w ea ek eb eo ez) := he
  have HX : Hid (RawIn w.heap.size w xa xk xb xo xz) := hx
  have hv4 := quoIn v hv 4 (by omega)
  clear hn he hx
  go_enter Try.func4, Try.ntmps4
  go_wp2_with fail
  refine (compiled_any _).mono ?_
  rintro e w1 ⟨rfl, hb1⟩
  have HB1 : Hid (Below w.heap.size w w1) := hb1
  clear hb1
  go_wp2_with fail
  refine (made_any _ _ _ _ _ _ _ _ _ _ _ _ _ (HN.out.later HB1.out).ints HN.out.range (HE.out.later HB1.out).ints HE.out.range).mono ?_
  rintro e w2 ⟨L, k, rfl, hin, herr, hk1, hk12, hl, ho, hb2, hLn, hLm⟩
  have HIN : Hid (L.In w2.heap.size w2) := hin
  have HPL : Hid (PlcL L k) := ⟨herr, hLn, hLm, hl⟩
  have HO : Hid (ones L L.m = k) := ho
  have HB2 : Hid (Below w.heap.size w w2) := below_then HB1.out hb2
  clear hb2 hin herr hl ho HB1
  obtain ⟨A, hA⟩ : ∃ A, A = w2.alloc (.cells #[.slice L.na L.n L.nc, .slice L.ea L.m L.ec] 27) := ⟨_, rfl⟩
  have HAB : Hid (Below w2.heap.size w2 A) := by show Below _ _ _; rw [hA]; exact below_one _
  have HAS : Hid (A.heap.size = w2.heap.size + 1) := by show _ = _; rw [hA]; simp
  have HAT : Hid (A.rowIs w2.heap.size 27 2 (fun j => #[Value.slice L.na L.n L.nc, .slice L.ea L.m L.ec].getD j undef)) := by show World.rowIs _ _ _ _ _; rw [hA]; exact row_new _ _ _ 2 rfl
  have a0 : A.cell? ⟨w2.heap.size, 0, none⟩ = some (.slice L.na L.n L.nc) := HAT.out.cell (i := 0) (by omega)
  have a1 : A.cell? ⟨w2.heap.size, 1, none⟩ = some (.slice L.ea L.m L.ec) := HAT.out.cell (i := 1) (by omega)
  go_wp2_with fail
  rw [← hA]
  clear hA
  refine (spelledL_any L _ _ _ _ _ _ 3 k _ (HIN.out.later HAB.out) (by omega) ⟨hk1, hk12⟩ HO.out (HX.out.later (below_then HB2.out HAB.out)).ints HX.out.range (by omega)).mono ?_
  rintro e w3 ⟨⟨R, rfl, hR1, hR3, hsp⟩, hb3⟩
  have HSP : Hid (SpL k R) := hsp
  have HB3 : Hid (Below A.heap.size A w3) := hb3
  have hz3 : w2.heap.size < w3.heap.size := by have := HB3.out.size; have := HAS.out; omega
  clear hsp hb3 a0 a1
  go_wp2_with fail
  refine (pick_any v 4 _ hv (by omega)).mono ?_
  rintro e wq ⟨l, rfl, hl4, hwq⟩
  obtain rfl := hwq.symm
  clear hwq
  go_wp2_with fail
  refine (some_any s 3 _ (by omega)).mono ?_
  rintro e wq ⟨u, rfl, hu3, hwq⟩
  obtain rfl := hwq.symm
  clear hwq
  go_upto_if 44 with (fail)
  go_cut [] from 42 to 45 (fun wc => ∃ t : ByteArray, 1 ≤ t.size ∧ t.size ≤ 3 ∧ wc = w3.alloc (.cells #[.string R, .int .i64 0, .int .i64 (l : Nat), .string t, .string { data := #[] }] 48))
  case first =>
    by_cases hz : u.size = 0
    · have hem : u.toList.isEmpty = true := by rw [empty_iff]; simp [hz]
      rw [hem]
      clear hem
      go_wp2
      go_meet
      exact ⟨_, by decide, by decide, rfl⟩
    · have hem : u.toList.isEmpty = false := by rw [empty_iff]; simp [hz]
      rw [hem]
      clear hem
      go_wp2
      go_meet
      exact ⟨u, by omega, by omega, rfl⟩
  case rest =>
    obtain ⟨t, ht1, ht3, hwc⟩ := hcut
    subst hwc
    clear hu3
    go_upto_region 6 with (fail)
    go_cut [54] from 46 to 54 (fun bv wx => ∃ bb : Bool, bv = .bool bb ∧ (bb = true → 0 < l) ∧ wx = w3.alloc (.cells #[.string R, .int .i64 0, .int .i64 (l : Nat), .string t, .string { data := #[] }] 48))
    case first =>
      by_cases h0 : 0 < l
      · go_wp2_with fail
        refine (pick_any _ 3 _ hv4 (by omega)).mono ?_
        rintro e wq ⟨r, rfl, hr, hwq⟩
        obtain rfl := hwq.symm
        clear hwq
        go_wp2
        go_meet
        exact ⟨_, rfl, fun _ => h0, rfl⟩
      · have h00 : l = 0 := by omega
        subst h00
        go_wp2
        go_meet
        exact ⟨false, rfl, (fun h => by cases h), rfl⟩
    case rest =>
      obtain ⟨bb, rfl, hbb, hwc⟩ := hcut
      subst hwc
      have HBB : Hid (bb = true → 0 < l) := hbb
      clear hbb
      go_upto_if 54 with (fail)
      go_cut [] from 55 to 57 (fun wx => ∃ r : Rl, r.reset = R ∧ Hid (PlcR k r) ∧ wx = w3.alloc (.cells #[.string r.reset, .int .i64 r.before, .int .i64 r.level, .string r.text, .string r.more] 48))
      case first =>
        cases bb with
        | true =>
          have h0 := HBB.out rfl
          go_wp2
          go_meet
          exact ⟨⟨R, (l : Nat), (l : Nat), t, { data := #[] }⟩, rfl, ⟨hR1, hR3, HSP.out, ht1, ht3, by show (0 : Int) ≤ (l : Nat); omega, by show ((l : Nat) : Int) ≤ 3; omega, .inr ⟨rfl, by show (0 : Int) < (l : Nat); omega⟩, rfl⟩, rfl⟩
        | false =>
          go_wp2
          go_meet
          exact ⟨⟨R, 0, (l : Nat), t, { data := #[] }⟩, rfl, ⟨hR1, hR3, HSP.out, ht1, ht3, by show (0 : Int) ≤ (l : Nat); omega, by show ((l : Nat) : Int) ≤ 3; omega, .inl rfl, rfl⟩, rfl⟩
      case rest =>
        rename World => wc
        clear HBB ht1 ht3 hl4
        obtain ⟨⟨R', be, le0, tx, mo⟩, hrR, HPR0, hwc⟩ := hcut
        simp only at hrR hwc
        subst hrR
        obtain ⟨le, hle⟩ : ∃ le : Nat, le0 = (le : Nat) := ⟨le0.toNat, by have : 0 ≤ le0 := HPR0.out.l0; omega⟩
        subst hle
        obtain ⟨fr, hfr⟩ : ∃ fr : Rl, fr = ⟨R', be, (le : Nat), tx, mo⟩ := ⟨_, rfl⟩
        have HPR : Hid (PlcR k fr) := by rw [hfr]; exact HPR0
        have HFR : Hid (fr = ⟨R', be, (le : Nat), tx, mo⟩) := hfr
        have hle3 : le ≤ 3 := by have : ((le : Nat) : Int) ≤ 3 := HPR0.out.l3; omega
        have htx : tx.size ≤ 3 := HPR0.out.t3
        have htx1 : 1 ≤ tx.size := HPR0.out.t1
        have hmo : mo.size = 0 := HPR0.out.mo
        clear HPR0 hfr
        have HRC : Hid (wc.rowIs w3.heap.size 48 5 (rlV ⟨R', be, (le : Nat), tx, mo⟩)) := by show World.rowIs _ _ _ _ _; rw [hwc]; exact row_new _ _ _ 5 rfl
        have HBC : Hid (Below w3.heap.size w3 wc) := by show Below _ _ _; rw [hwc]; exact below_one _
        have HCS : Hid (wc.heap.size = w3.heap.size + 1) := by show _ = _; rw [hwc]; simp
        clear hwc
        have HBW : Hid (Below w.heap.size w wc) := below_then (below_then (below_then HB2.out HAB.out) HB3.out) HBC.out
        have HINC : Hid (L.In wc.heap.size wc) := ((HIN.out.later HAB.out).later HB3.out).later HBC.out
        have hzc : w3.heap.size < wc.heap.size := by rw [HCS.out]; omega
        have HTC : Hid (wc.cell? ⟨w2.heap.size, 0, none⟩ = some (.slice L.na L.n L.nc) ∧ wc.cell? ⟨w2.heap.size, 1, none⟩ = some (.slice L.ea L.m L.ec)) := by
          have hb := below_then HB3.out HBC.out
          have hs := HAS.out
          exact ⟨cellTo hb (HAT.out.cell (i := 0) (by omega)) (by show w2.heap.size < _; omega), cellTo hb (HAT.out.cell (i := 1) (by omega)) (by show w2.heap.size < _; omega)⟩
        obtain ⟨⟨c0, c1, c2, c3, c4⟩, _⟩ := rowR HRC.out
        obtain ⟨W, hW⟩ : ∃ W, W = wc.alloc (.cells #[.string R', .int .i64 be, .int .i64 (le : Nat), .string tx, .string mo] 48) := ⟨_, rfl⟩
        have HRI : Hid (RulesIn W.heap.size W (some ⟨wc.heap.size, 0, none⟩) 1 wc.heap.size 0 (fun _ => fr)) := by
          show RulesIn _ _ _ _ _ _ _
          rw [hW, size_one, HFR.out]
          exact rules1_new (r := ⟨R', be, (le : Nat), tx, mo⟩) wc ⟨by show R'.size ≤ _; omega, by show tx.size ≤ _; omega, by show mo.size ≤ _; omega⟩
        have HWB : Hid (Below wc.heap.size wc W) := by show Below _ _ _; rw [hW]; exact below_one _
        obtain ⟨S, hS⟩ : ∃ S, S = rlS (fun _ => fr) 1 := ⟨_, rfl⟩
        have HRL : Hid (RuleL L (fun _ => fr) 1) := HPR.out.rule HPL.out
        have HWR : Hid (Calls Try.prog 9 #[.slice (some ⟨wc.heap.size, 0, none⟩) 1 1] W fun e w' => e = .returned (.tuple #[.string S, .int .i64 0]) ∧ Below W.heap.size W w') := by rw [hS]; exact writeK_any HRL.out _ 1 _ _ W HRI.out
        have HCC : Hid (∀ wz, L.In wz.heap.size wz → Calls Try.prog 10 #[.agg #[.slice L.na L.n L.nc, .slice L.ea L.m L.ec], .string S] wz fun e w' => Below wz.heap.size wz w' ∧
            ((∃ (x : Int) (a : Nat), e = .returned (.tuple #[.agg #[.slice none 0 0, .slice none 0 0], .int .i64 x, .int .i64 (a : Nat)]) ∧ x ≠ 0 ∧ BadK (fun _ => fr) 1 x a) ∨
             (∃ U : Lay, e = .returned (.tuple #[.agg #[.slice U.na U.n U.nc, .slice U.ea U.m U.ec], .int .i64 0, .int .i64 0]) ∧ U.In w'.heap.size w' ∧ TabK L ((List.range 1).map fun _ => fr) U))) := fun wz hz => by
          rw [hS]
          refine (compK_any HRL.out wz hz).mono ?_
          rintro e w' ⟨hb, ⟨x, a, h1, h2, h3, _⟩ | ⟨U, h1, h2, h3, _⟩⟩
          · exact ⟨hb, .inl ⟨x, a, h1, h2, h3⟩⟩
          · exact ⟨hb, .inr ⟨U, h1, h2, h3⟩⟩
        clear hS
        go_wp2_with fail
        rw [← hW]
        clear hW c0 c1 c2 c3 c4
        refine Calls.mono HWR.out ?_
        rintro e w4 ⟨rfl, hb4⟩
        have HB4 : Hid (Below W.heap.size W w4) := hb4
        have HB34 : Hid (Below wc.heap.size wc w4) := below_then HWB.out HB4.out
        have HIN4 : Hid (L.In w4.heap.size w4) := HINC.out.later HB34.out
        have HRI4 : Hid (RulesIn w4.heap.size w4 (some ⟨wc.heap.size, 0, none⟩) 1 wc.heap.size 0 (fun _ => fr)) := HRI.out.later HB4.out
        have c0 : w4.cell? ⟨w2.heap.size, 0, none⟩ = some (.slice L.na L.n L.nc) := cellTo HB34.out HTC.out.1 (by show w2.heap.size < _; omega)
        have c1 : w4.cell? ⟨w2.heap.size, 1, none⟩ = some (.slice L.ea L.m L.ec) := cellTo HB34.out HTC.out.2 (by show w2.heap.size < _; omega)
        clear hb4
        go_wp2_with fail
        refine (HCC.out w4 HIN4.out).mono ?_
        rintro e w5 ⟨hb5, ⟨x, a, rfl, hx0, hbad⟩ | ⟨U, rfl, hinU, htab⟩⟩
        · have HB5 : Hid (Below w4.heap.size w4 w5) := hb5
          have hx0' : (x == (0 : Int)) = false := by simpa using hx0
          have HBK : Hid (BadK (fun _ => fr) 1 x a) := hbad
          clear hb5 hx0 hbad c0 c1
          go_wp2_with fail
          refine (refusal_any _ 1 _ _ 0 _ x a _ (HRI4.out.later (below_then HB5.out (below_one _))) HBK.out.1 HBK.out.2).mono ?_
          rintro e w6 ⟨rfl, hb6⟩
          go_wp2
          go_ret
          exact ⟨rfl, below_then HBW.out (below_then HB34.out (below_then (below_then HB5.out (below_one _)) hb6))⟩
        · have HB5 : Hid (Below w4.heap.size w4 w5) := hb5
          have HUI : Hid (U.In w5.heap.size w5) := hinU
          have HPU : Hid (U.err = 0 ∧ hasP L R' ∧ hasP U R' ∧ hasP U tx ∧ ∀ q, Cut L.m L.tx R' q → Cut U.m U.tx R' q → (∀ j, j < q → piece L.m L.tx R' j = piece U.m U.tx R' j) → (∀ i, i < q → ∀ j, j < 1 → piece L.m L.tx R' i ≠ tx) →
              (((le : Nat) : Int) = 0 → keyV U R' 3 = keyV U tx 3) ∧ (0 < ((le : Nat) : Int) → be = 0 → StandC U R' tx ((le : Nat) : Int).toNat) ∧ (0 < ((le : Nat) : Int) → be ≠ 0 → StandC U tx R' ((le : Nat) : Int).toNat)) := by
            have := HPR.out.pure HPL.out htab
            rw [HFR.out] at this
            exact this
          obtain ⟨V, hV⟩ : ∃ V, V = w5.alloc (.cells #[.slice U.na U.n U.nc, .slice U.ea U.m U.ec] 27) := ⟨_, rfl⟩
          have HVB : Hid (Below w5.heap.size w5 V) := by show Below _ _ _; rw [hV]; exact below_one _
          have HVS : Hid (V.heap.size = w5.heap.size + 1) := by show _ = _; rw [hV]; simp
          have HVT : Hid (V.rowIs w5.heap.size 27 2 (fun j => #[Value.slice U.na U.n U.nc, .slice U.ea U.m U.ec].getD j undef)) := by show World.rowIs _ _ _ _ _; rw [hV]; exact row_new _ _ _ 2 rfl
          have hz45 : w4.heap.size ≤ w5.heap.size := HB5.out.size
          have hz34 : wc.heap.size ≤ w4.heap.size := HB34.out.size
          have HBV : Hid (∀ wz, Below V.heap.size V wz → Below w.heap.size w wz) := fun wz hz => below_then HBW.out (below_then HB34.out (below_then HB5.out (below_then HVB.out hz)))
          have HL : Hid (∀ wz, Below V.heap.size V wz → L.In wz.heap.size wz) := fun wz hz => HIN4.out.later (below_then HB5.out (below_then HVB.out hz))
          have HU : Hid (∀ wz, Below V.heap.size V wz → U.In wz.heap.size wz) := fun wz hz => HUI.out.later (below_then HVB.out hz)
          have HR : Hid (∀ wz, Below V.heap.size V wz → RulesIn wz.heap.size wz (some ⟨wc.heap.size, 0, none⟩) 1 wc.heap.size 0 (fun _ => fr)) := fun wz hz => HRI4.out.later (below_then HB5.out (below_then HVB.out hz))
          have HC : Hid (∀ wz, Below V.heap.size V wz → (wz.cell? ⟨w2.heap.size, 0, none⟩ = some (.slice L.na L.n L.nc) ∧ wz.cell? ⟨w2.heap.size, 1, none⟩ = some (.slice L.ea L.m L.ec)) ∧ (wz.cell? ⟨w5.heap.size, 0, none⟩ = some (.slice U.na U.n U.nc) ∧ wz.cell? ⟨w5.heap.size, 1, none⟩ = some (.slice U.ea U.m U.ec)) ∧ wz.cell? ⟨w3.heap.size, 0, none⟩ = some (.string R') ∧ wz.cell? ⟨w3.heap.size, 1, none⟩ = some (.int .i64 be) ∧ wz.cell? ⟨w3.heap.size, 2, none⟩ = some (.int .i64 (le : Nat)) ∧ wz.cell? ⟨w3.heap.size, 3, none⟩ = some (.string tx)) := fun wz hz => by
            have hvs := HVS.out
            have hb := below_then HB34.out (below_then HB5.out (below_then HVB.out hz))
            obtain ⟨⟨d0, d1, d2, d3, d4⟩, _⟩ := rowR HRC.out
            exact ⟨⟨cellTo hb HTC.out.1 (by show w2.heap.size < _; omega), cellTo hb HTC.out.2 (by show w2.heap.size < _; omega)⟩, ⟨cellTo hz (HVT.out.cell (i := 0) (by omega)) (by show w5.heap.size < _; omega), cellTo hz (HVT.out.cell (i := 1) (by omega)) (by show w5.heap.size < _; omega)⟩, cellTo hb d0 hzc, cellTo hb d1 hzc, cellTo hb d2 hzc, cellTo hb d3 hzc⟩
          clear hb5 htab hinU c0 c1
          obtain ⟨⟨a0, a1⟩, ⟨a2, a3⟩, a4, a5, a6, a7⟩ := HC.out V (Below.refl _ _)
          rw [hV] at a0 a1 a2 a3 a4 a5 a6 a7
          go_wp2_with fail
          rw [← hV]
          clear hV
          refine (pieces_any L R' _ (HL.out _ (Below.refl _ _))).mono ?_
          rintro e w6 ⟨pv, er, rfl, hans, hb6⟩
          obtain ⟨q, ao, cap, b, off, rfl, rfl, hq, hst⟩ := pieces_has HPL.out.err (by omega) HPU.out.2.1 hans
          have HB6 : Hid (Below V.heap.size V w6) := hb6
          have HQ : Hid (Cut L.m L.tx R' q) := hq
          have HS1 : Hid (StrsIn w6.heap.size w6 ao q b off (piece L.m L.tx R')) := hst
          clear hb6 hq hst hans a0 a1 a2 a3 a4 a5 a6 a7
          obtain ⟨⟨a0, a1⟩, ⟨a2, a3⟩, a4, a5, a6, a7⟩ := HC.out _ HB6.out
          go_wp2_with fail
          refine (pieces_any U R' _ (HU.out _ HB6.out)).mono ?_
          rintro e w7 ⟨pv, er, rfl, hans, hb7⟩
          obtain ⟨q', ao', cap', b', off', rfl, rfl, hq', hst'⟩ := pieces_has HPU.out.1 (by omega) HPU.out.2.2.1 hans
          have HB7 : Hid (Below V.heap.size V w7) := below_then HB6.out hb7
          have HQ' : Hid (Cut U.m U.tx R' q') := hq'
          have HS2 : Hid (StrsIn w7.heap.size w7 ao' q' b' off' (piece U.m U.tx R')) := hst'
          have HS1' : Hid (StrsIn w7.heap.size w7 ao q b off (piece L.m L.tx R')) := (HS1.out.below hb7).mono hb7.size
          clear hb7 hq' hst' hans a0 a1 a2 a3 a4 a5 a6 a7
          go_wp2_with fail
          refine (keepStrings_any q q' b off b' off' cap cap' ao ao' _ _ w7 HS1'.out HS2.out).mono ?_
          rintro e w8 ⟨bo, rfl, hsame, hb8⟩
          have HSM : Hid (bo = true → q = q' ∧ ∀ j, j < q → piece L.m L.tx R' j = piece U.m U.tx R' j) := hsame
          have HB8 : Hid (Below V.heap.size V w8) := below_then HB7.out hb8
          have HS3 : Hid (StrsIn w8.heap.size w8 ao q b off (piece L.m L.tx R')) := (HS1'.out.below hb8).mono hb8.size
          clear hb8 hsame
          go_wp2_with fail
          refine (named_any q b off cap ao _ _ 1 _ _ _ (fun _ => fr) w8 HS3.out (HR.out _ HB8.out)).mono ?_
          rintro e w9 ⟨bn, rfl, hnm, hb9⟩
          have HNM : Hid (bn = false → ∀ i, i < q → ∀ j, j < 1 → piece L.m L.tx R' i ≠ tx) := by rw [HFR.out] at hnm; exact hnm
          have HB9 : Hid (Below V.heap.size V w9) := below_then HB8.out hb9
          clear hb9 hnm
          cases bo with
          | false =>
            go_wp2
            go_ret
            exact ⟨rfl, HBV.out _ HB9.out⟩
          | true =>
            cases bn with
            | true =>
              go_wp2
              go_ret
              exact ⟨rfl, HBV.out _ HB9.out⟩
            | false =>
              obtain ⟨hqq, hpp⟩ := HSM.out rfl
              subst hqq
              have HFA : Hid ((((le : Nat) : Int) = 0 → keyV U R' 3 = keyV U tx 3) ∧ (0 < ((le : Nat) : Int) → be = 0 → StandC U R' tx ((le : Nat) : Int).toNat) ∧ (0 < ((le : Nat) : Int) → be ≠ 0 → StandC U tx R' ((le : Nat) : Int).toNat)) := HPU.out.2.2.2.2 q HQ.out HQ'.out hpp (HNM.out rfl)
              clear hpp
              obtain ⟨⟨a0, a1⟩, ⟨a2, a3⟩, a4, a5, a6, a7⟩ := HC.out _ HB9.out
              by_cases h0 : le = 0
              · have hl0 : (((le : Nat) : Int) == 0) = true := by simp [h0]
                obtain ⟨KV, hKV⟩ : ∃ KV, KV = keyV U R' 3 := ⟨_, rfl⟩
                have HK1 : Hid (∀ wz, U.In wz.heap.size wz → Calls Try.prog 22 #[.agg #[.slice U.na U.n U.nc, .slice U.ea U.m U.ec], .string R', .int .i64 3] wz fun e w' => e = .returned (.tuple #[.string KV, .int .i64 0]) ∧ Below wz.heap.size wz w') := fun wz hz => by
                  have := key_any U R' 3 wz hz
                  rw [keyE_ok HPU.out.1 (by omega) (by omega) (by omega) HPU.out.2.2.1, ← hKV] at this
                  exact this
                have HK2 : Hid (∀ wz, U.In wz.heap.size wz → Calls Try.prog 22 #[.agg #[.slice U.na U.n U.nc, .slice U.ea U.m U.ec], .string tx, .int .i64 3] wz fun e w' => e = .returned (.tuple #[.string KV, .int .i64 0]) ∧ Below wz.heap.size wz w') := fun wz hz => by
                  have := key_any U tx 3 wz hz
                  rw [keyE_ok HPU.out.1 (by omega) (by omega) (by omega) HPU.out.2.2.2.1, ← HFA.out.1 (by omega), ← hKV] at this
                  exact this
                clear hKV h0
                go_wp2_with fail
                refine (HK1.out _ (HU.out _ HB9.out)).mono ?_
                rintro e w10 ⟨rfl, hb10⟩
                have HB10 : Hid (Below V.heap.size V w10) := below_then HB9.out hb10
                clear hb10 a0 a1 a2 a3 a4 a5 a6 a7
                obtain ⟨⟨a0, a1⟩, ⟨a2, a3⟩, a4, a5, a6, a7⟩ := HC.out _ HB10.out
                go_wp2_with fail
                refine (HK2.out _ (HU.out _ HB10.out)).mono ?_
                rintro e w11 ⟨rfl, hb11⟩
                have HB11 : Hid (Below V.heap.size V w11) := below_then HB10.out hb11
                clear hb11 a0 a1 a2 a3 a4 a5 a6 a7
                go_wp2
                go_ret
                exact ⟨rfl, HBV.out _ HB11.out⟩
              · have hl0 : (((le : Nat) : Int) == 0) = false := beq_eq_false_iff_ne.2 (by omega)
                by_cases hb0 : be = 0
                · subst hb0
                  have HST : Hid (∀ wz, U.In wz.heap.size wz → Calls Try.prog 23 #[.agg #[.slice U.na U.n U.nc, .slice U.ea U.m U.ec], .string R', .string tx, .int .i64 (le : Nat)] wz fun e w' => e = .returned (.bool true) ∧ Below wz.heap.size wz w') := fun wz hz => stands_any U _ _ le wz hz HPU.out.1 HPU.out.2.2.1 HPU.out.2.2.2.1 (by omega) (by omega) (by omega) hle3 (HFA.out.2.1 (by omega) rfl)
                  go_wp2_with fail
                  refine (HST.out _ (HU.out _ HB9.out)).mono ?_
                  rintro e w10 ⟨rfl, hb10⟩
                  have HB10 : Hid (Below V.heap.size V w10) := below_then HB9.out hb10
                  clear hb10 a0 a1 a2 a3 a4 a5 a6 a7
                  go_wp2
                  go_ret
                  exact ⟨rfl, HBV.out _ HB10.out⟩
                · have hbe : (0 : Int) < be := by
                    have h1 : 0 ≤ fr.before := HPR.out.ok.2.2.2.2.1.1
                    rw [HFR.out] at h1
                    have h1 : 0 ≤ be := h1
                    omega
                  have HST : Hid (∀ wz, U.In wz.heap.size wz → Calls Try.prog 23 #[.agg #[.slice U.na U.n U.nc, .slice U.ea U.m U.ec], .string tx, .string R', .int .i64 (le : Nat)] wz fun e w' => e = .returned (.bool true) ∧ Below wz.heap.size wz w') := fun wz hz => stands_any U _ _ le wz hz HPU.out.1 HPU.out.2.2.2.1 HPU.out.2.2.1 (by omega) (by omega) (by omega) hle3 (HFA.out.2.2 (by omega) hb0)
                  go_wp2_with fail
                  refine (HST.out _ (HU.out _ HB9.out)).mono ?_
                  rintro e w10 ⟨rfl, hb10⟩
                  have HB10 : Hid (Below V.heap.size V w10) := below_then HB9.out hb10
                  clear hb10 a0 a1 a2 a3 a4 a5 a6 a7
                  go_wp2
                  go_ret
                  exact ⟨rfl, HBV.out _ HB10.out⟩

end Go.Proofs.Ytpclldccjpncdab
