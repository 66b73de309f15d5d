import Derived.Test.YtpclldccjpncdabGreatM28
namespace Go.Proofs.YtpclldccjpncdabGreat
open Go.RowKit

/-- the weights of a node of the list, behind one with the weights p, s, t -/
def wgt (p s t : Int) (x : Sp) : Sp :=
  if x.old = true then x
  else if x.str = 1 then { x with p := p + 1, s := 8, t := 8 }
  else if x.str = 2 then { x with p := p, s := s + 1, t := 8 }
  else if x.str = 3 then { x with p := p, s := s, t := t + 1 }
  else x
def okW (p s t : Int) (y : Sp) : Bool := aboveB y.p y.s y.t p s t && decide (stI p s t y.p y.s y.t = y.str) && nodeB y.p y.s y.t
/-- the list with its weights; none: there is no room -/
def weigh : List Sp → Int → Int → Int → Option (List Sp)
  | [], _, _, _ => some []
  | x :: r, p, s, t => if okW p s t (wgt p s t x) = true then (weigh r (wgt p s t x).p (wgt p s t x).s (wgt p s t x).t).map (wgt p s t x :: ·) else none
theorem set_mid {α : Type} (a b : List α) (k : Nat) (v : α) (_hk : k < b.length) : (a ++ b).set (a.length + k) v = a ++ b.set k v := by
  rw [List.set_append_right _ _ (by omega), Nat.add_sub_cancel_left]
theorem spsC_set (d : List Sp) (x : Sp) (r : List Sp) (p s t : Int) : (((spsC (d ++ x :: r)).set (d.length * 6 + 3) (.int .i64 p)).set (d.length * 6 + 4) (.int .i64 s)).set (d.length * 6 + 5) (.int .i64 t) = spsC (d ++ { x with p := p, s := s, t := t } :: r) := by
  have e : ∀ y : Sp, spsC (d ++ y :: r) = spsC d ++ (y.cs ++ spsC r) := fun y => by rw [spsC_app]; rfl
  rw [e, e, ← spsC_len d, set_mid _ _ 3 _ (by rw [List.length_append]; show 3 < 6 + _; omega), set_mid _ _ 4 _ (by rw [List.length_set, List.length_append]; show 4 < 6 + _; omega), set_mid _ _ 5 _ (by rw [List.length_set, List.length_set, List.length_append]; show 5 < 6 + _; omega)]
  rfl
/-- three weights are written into the list -/
theorem WkA.setX {B g : Nat} {K : Wk} {ea sa : Option Addr} {lc ec sc gv : Nat} {vs : Nat → Option Addr} {cs : Nat → Nat} {w : World} {d : List Sp} {x : Sp} {r : List Sp} (h : WkA B g { K with ls := d ++ x :: r } (some ⟨gv, 0, none⟩) ea sa lc ec sc vs cs w) (p s t : Int) :
    WkA B g { K with ls := d ++ { x with p := p, s := s, t := t } :: r } (some ⟨gv, 0, none⟩) ea sa lc ec sc vs cs (((w.setCell ⟨gv, d.length * 6 + 3, none⟩ (.int .i64 p)).setCell ⟨gv, d.length * 6 + 4, none⟩ (.int .i64 s)).setCell ⟨gv, d.length * 6 + 5, none⟩ (.int .i64 t)) := by
  have hO : OnlyRow gv w (((w.setCell ⟨gv, d.length * 6 + 3, none⟩ (.int .i64 p)).setCell ⟨gv, d.length * 6 + 4, none⟩ (.int .i64 s)).setCell ⟨gv, d.length * 6 + 5, none⟩ (.int .i64 t)) := ((OnlyRow.setCell _ _ _ _).trans (OnlyRow.setCell _ _ _ _)).trans (OnlyRow.setCell _ _ _ _)
  have hl := h.list
  have hn : (d ++ { x with p := p, s := s, t := t } :: r).length = (d ++ x :: r).length := by simp
  have hgg : g ≠ gv := fun e => own_far h.row hl (by decide) (by rw [e]; rfl)
  have far : ∀ {e : TypeId} {size : Nat} {v : Value} {m : Nat} {xs : List Value}, w.ownsRow B e size v m xs → e ≠ 129 → v.ownBlock ≠ some gv := fun ho ht hb => ownC_two ho hl ht hb rfl
  refine ⟨?_, h.base, ?_, own_only hO h.ents (far h.ents (by decide)), fun j hj => own_only hO (h.ints j hj) (far (h.ints j hj) (by decide)), own_only hO h.stem (far h.stem (by decide))⟩
  · show World.rowIs _ _ _ _ (wkF _ (d ++ { x with p := p, s := s, t := t } :: r).length _ _ _ _ _ _ _ _ _)
    rw [hn]
    exact hO.row h.row hgg
  · show World.ownsRow _ _ _ _ (.slice _ (d ++ { x with p := p, s := s, t := t } :: r).length _) (d ++ { x with p := p, s := s, t := t } :: r).length _
    rw [hn, ← spsC_set]
    exact own_setN (own_setN (own_setN hl _) _) _
theorem WkA.below {B g : Nat} {K : Wk} {la ea sa : Option Addr} {lc ec sc : Nat} {vs : Nat → Option Addr} {cs : Nat → Nat} {w w' : World} (h : WkA B g K la ea sa lc ec sc vs cs w) (hb : Below w.heap.size w w') : WkA B g K la ea sa lc ec sc vs cs w' :=
  ⟨h.row.of_block (hb.block _ h.row.lt), h.base, ownC_below h.list hb, ownC_below h.ents hb, fun j hj => ownC_below (h.ints j hj) hb, ownC_below h.stem hb⟩
theorem OnlyRow.row6 {g : Nat} {w w' : World} (h : OnlyRow g w w') {b : Nat} {t : TypeId} {n : Nat} {f : Nat → Value} (hr : w.rowIs b t n f) (hb : b ≠ g) : w'.rowIs b t n f := h.row hr hb
theorem WkA.drew {B g : Nat} {K : Wk} {la ea sa : Option Addr} {lc ec sc : Nat} {vs : Nat → Option Addr} {cs : Nat → Nat} {w : World} (h : WkA B g K la ea sa lc ec sc vs cs w) : WkA B g K la ea sa lc ec sc vs cs w.drew :=
  ⟨h.row.drew, h.base, h.list.drew, h.ents.drew, fun j hj => (h.ints j hj).drew, h.stem.drew⟩
theorem WkA.node {B g : Nat} {K : Wk} {la ea sa : Option Addr} {lc ec sc : Nat} {vs : Nat → Option Addr} {cs : Nat → Nat} {w w' : World} (h : WkA B g K la ea sa lc ec sc vs cs w) {b n : Nat} {f : Nat → Value} (hr : w.rowIs b 65 n f) (hO : OnlyRow b w w') : WkA B g K la ea sa lc ec sc vs cs w' :=
  ⟨hO.row h.row (fun e => row_ne h.row hr (by decide) e), h.base, own_only hO h.list (own_far hr h.list (by decide)), own_only hO h.ents (own_far hr h.ents (by decide)), fun j hj => own_only hO (h.ints j hj) (own_far hr (h.ints j hj) (by decide)), own_only hO h.stem (own_far hr h.stem (by decide))⟩
def spF (x : Sp) : Nat → Value := fun j => #[Value.int .i64 x.name, .int .i64 x.str, .bool x.old, .int .i64 x.p, .int .i64 x.s, .int .i64 x.t].getD j undef
def ndF (p s t : Int) : Nat → Value := fun j => #[Value.int .i64 p, .int .i64 s, .int .i64 t].getD j undef

set_option maxRecDepth 100000 in
set_option maxHeartbeats 4000000 in
theorem weighed_any (B g : Nat) (K : Wk) (la ea sa : Option Addr) (lc ec sc : Nat) (vs : Nat → Option Addr) (cs : Nat → Nat) (w : World) (h : WkA B g K la ea sa lc ec sc vs cs w) (hn : K.ls.length ≤ 1000) (hstr : ∀ x ∈ K.ls, x.str = 1 ∨ x.str = 2 ∨ x.str = 3) :
    Calls Tryz.prog 63 #[.pointer (some ⟨g, 0, none⟩)] w fun e w' => ∃ v, e = .returned v ∧ Hid ((weigh K.ls 0 0 0 = none ∧ v = .bool false) ∨ (∃ ls', weigh K.ls 0 0 0 = some ls' ∧ v = .bool true ∧ WkA B g { K with ls := ls' } la ea sa lc ec sc vs cs w')) ∧ Below B w w' := by
  obtain ⟨n, hnn⟩ : ∃ n, n = K.ls.length := ⟨_, rfl⟩
  rw [← hnn] at hn
  have hgl : g < w.heap.size := h.row.lt
  have hBw : B ≤ w.heap.size := by have := h.base; omega
  have HK0 : Hid (WkA B g { K with ls := [] ++ K.ls } la ea sa lc ec sc vs cs (w.alloc (.cells #[.int .i64 0, .int .i64 0, .int .i64 0] 65))) := h.below (below_one _)
  have HL0 : Hid ((w.alloc (.cells #[.int .i64 0, .int .i64 0, .int .i64 0] 65)).rowIs w.heap.size 65 3 (ndF 0 0 0)) := row_new _ _ _ 3 rfl
  have HB0 : Hid (Below B w (w.alloc (.cells #[.int .i64 0, .int .i64 0, .int .i64 0] 65))) := (below_one _).mono hBw
  have HS0 : Hid (∀ x ∈ K.ls, x.str = 1 ∨ x.str = 2 ∨ x.str = 3) := hstr
  have HN0 : Hid (n = K.ls.length) := hnn
  clear h hstr hnn
  go_enter Tryz.func63, Tryz.ntmps63
  go_wp2
  go_loopw [4] (fun iv wr => ∃ (d r : List Sp) (p s t : Int), Hid (weigh K.ls 0 0 0 = (weigh r p s t).map (d ++ ·)) ∧ Hid (WkA B g { K with ls := d ++ r } la ea sa lc ec sc vs cs wr) ∧ Hid (wr.rowIs w.heap.size 65 3 (ndF p s t)) ∧ ((0 ≤ p ∧ p ≤ 250) ∧ (0 ≤ s ∧ s ≤ 250) ∧ (0 ≤ t ∧ t ≤ 250)) ∧ d.length ≤ n ∧ Hid ((d ++ r).length = n) ∧ Hid (∀ x ∈ r, x.str = 1 ∨ x.str = 2 ∨ x.str = 3) ∧ iv = .int .i64 (d.length : Nat) ∧ Below B w wr) (fun iv _ => n - (intOf iv).toNat)
  case atStart => exact ⟨[], K.ls, 0, 0, 0, (by show _ = _; cases weigh K.ls 0 0 0 <;> rfl), HK0, HL0, by omega, Nat.zero_le _, HN0.out.symm, HS0, rfl, HB0.out⟩
  case round =>
    obtain ⟨d, r0, p, s, t, HWE, HWK, HLA, hbd, hdn, HDR, HST, rfl, hbel⟩ := hrel
    obtain ⟨⟨hp0, hp1⟩, ⟨hs0, hs1⟩, ht0, ht1⟩ := hbd
    have HNN : Hid (n = (d ++ r0).length) := HDR.out.symm
    obtain ⟨⟨g0, _⟩, _⟩ := row5K HWK.out.row
    have g0' : wr.cell? ⟨g, 0, none⟩ = some (.slice la n lc) := by rw [HNN.out]; exact g0
    clear g0
    have hgr : g < wr.heap.size := HWK.out.row.lt
    have hwr : w.heap.size < wr.heap.size := HLA.out.lt
    cases r0 with
    | nil =>
      have hdl : d.length = n := by have := HDR.out; simpa using this
      have HE : Hid (weigh K.ls 0 0 0 = some (d ++ []) ∧ WkA B g { K with ls := d ++ [] } la ea sa lc ec sc vs cs wr) := ⟨by rw [HWE.out]; rfl, HWK.out⟩
      have hge : (n : Int) ≤ (d.length : Int) := by omega
      clear hdl
      go_wp2
      go_ret
      exact ⟨_, rfl, .inr ⟨_, HE.out.1, rfl, HE.out.2⟩, hbel⟩
    | cons x r =>
      have hlt : d.length < n := by have := HDR.out; simp at this; omega
      have hlt' : (d.length : Int) < (n : Int) := by omega
      obtain ⟨gv, hli⟩ := list_in HWK.out.list
      have had := hli.addr (by simp; omega)
      subst had
      have hdx : (d ++ x :: r).getD d.length default = x := by rw [List.getD_eq_getElem?_getD, List.getElem?_append_right (Nat.le_refl _), Nat.sub_self]; rfl
      have hin : d.length < (d ++ x :: r).length := by simp
      have c0 := hli.name d.length hin
      have c1 := hli.str d.length hin
      have c2 := hli.old d.length hin
      have c3 := hli.p d.length hin
      have c4 := hli.s d.length hin
      have c5 := hli.t d.length hin
      rw [hdx] at c0 c1 c2 c3 c4 c5
      have hgvl : gv < wr.heap.size := (ownC_lt HWK.out.list (b := gv) rfl).1
      have hgvB : B ≤ gv := (ownC_lt HWK.out.list (b := gv) rfl).2
      have hxs := HST.out x (by simp)
      obtain ⟨nm, st, ol, xp, xs, xt⟩ := x
      simp only at c0 c1 c2 c3 c4 c5 hxs
      clear hli hdx hin
      obtain ⟨i, hi⟩ : ∃ i, i = d.length := ⟨_, rfl⟩
      go_upto_if 28 with (fail)
      go_cut [26] from 26 to 66 (fun _ wc => ∃ p' s' t' : Int, Hid (wgt p s t ⟨nm, st, ol, xp, xs, xt⟩ = ⟨nm, st, ol, p', s', t'⟩) ∧ Hid (WkA B g { K with ls := d ++ (⟨nm, st, ol, p', s', t'⟩ : Sp) :: r } (some ⟨gv, 0, none⟩) ea sa lc ec sc vs cs wc) ∧ Hid (wc.rowIs wr.heap.size 129 6 (spF ⟨nm, st, ol, p', s', t'⟩)) ∧ Hid (wc.rowIs w.heap.size 65 3 (ndF p s t)) ∧ Hid (Below B w wc))
      case first =>
        by_cases hol : ol = true
        · subst hol
          go_wp2
          go_meet
          exact ⟨xp, xs, xt, rfl, HWK.out.below (below_one _), row_new _ _ _ 6 rfl, HLA.out.alloc _, hbel.trans ((below_one _).mono (by omega))⟩
        · have hol' : ol = false := by simpa using hol
          subst hol'
          clear hol
          have l0 := (HLA.out.alloc (.cells #[.int .i64 nm, .int .i64 st, .bool false, .int .i64 xp, .int .i64 xs, .int .i64 xt] 129)).cell (i := 0) (by omega)
          have l1 := (HLA.out.alloc (.cells #[.int .i64 nm, .int .i64 st, .bool false, .int .i64 xp, .int .i64 xs, .int .i64 xt] 129)).cell (i := 1) (by omega)
          have l2 := (HLA.out.alloc (.cells #[.int .i64 nm, .int .i64 st, .bool false, .int .i64 xp, .int .i64 xs, .int .i64 xt] 129)).cell (i := 2) (by omega)
          simp only [ndF] at l0 l1 l2
          rcases hxs with hs1 | hs1 | hs1
          · subst hs1
            have HWG : Hid (wgt p s t ⟨nm, 1, false, xp, xs, xt⟩ = ⟨nm, 1, false, (p + 1), 8, 8⟩) := rfl
            have HX : Hid (WkA B g { K with ls := d ++ (⟨nm, 1, false, xp, xs, xt⟩ : Sp) :: r } (some ⟨gv, 0, none⟩) ea sa lc ec sc vs cs (wr.alloc (.cells #[.int .i64 nm, .int .i64 1, .bool false, .int .i64 (p + 1), .int .i64 8, .int .i64 8] 129))) := HWK.out.below (below_one _)
            have HXS : Hid (WkA B g { K with ls := d ++ (⟨nm, 1, false, (p + 1), 8, 8⟩ : Sp) :: r } (some ⟨gv, 0, none⟩) ea sa lc ec sc vs cs ((((wr.setCell ⟨gv, d.length * 6 + 3, none⟩ (.int .i64 (p + 1))).setCell ⟨gv, d.length * 6 + 3 + 1, none⟩ (.int .i64 8)).setCell ⟨gv, d.length * 6 + 3 + 2, none⟩ (.int .i64 8)).alloc (.cells #[.int .i64 nm, .int .i64 1, .bool false, .int .i64 (p + 1), .int .i64 8, .int .i64 8] 129))) := (HWK.out.setX (p + 1) 8 8).below (below_one _)
            have HON : Hid (OnlyRow gv wr (((wr.setCell ⟨gv, d.length * 6 + 3, none⟩ (.int .i64 (p + 1))).setCell ⟨gv, d.length * 6 + 3 + 1, none⟩ (.int .i64 8)).setCell ⟨gv, d.length * 6 + 3 + 2, none⟩ (.int .i64 8))) := ((OnlyRow.setCell _ _ _ _).trans (OnlyRow.setCell _ _ _ _)).trans (OnlyRow.setCell _ _ _ _)
            have HSZ : Hid ((((wr.setCell ⟨gv, d.length * 6 + 3, none⟩ (.int .i64 (p + 1))).setCell ⟨gv, d.length * 6 + 3 + 1, none⟩ (.int .i64 8)).setCell ⟨gv, d.length * 6 + 3 + 2, none⟩ (.int .i64 8)).heap.size = wr.heap.size) := by show _ = _; simp [World.setCell]
            have HRS : Hid (((((wr.setCell ⟨gv, d.length * 6 + 3, none⟩ (.int .i64 (p + 1))).setCell ⟨gv, d.length * 6 + 3 + 1, none⟩ (.int .i64 8)).setCell ⟨gv, d.length * 6 + 3 + 2, none⟩ (.int .i64 8)).alloc (.cells #[.int .i64 nm, .int .i64 1, .bool false, .int .i64 (p + 1), .int .i64 8, .int .i64 8] 129)).rowIs wr.heap.size 129 6 (spF ⟨nm, 1, false, (p + 1), 8, 8⟩)) := row_at (row_new _ _ _ 6 rfl) HSZ.out (fun _ _ => rfl)
            obtain ⟨⟨k0, _⟩, _⟩ := row5K HX.out.row
            have fz3 := own_frozenN HWK.out.list (d.length * 6 + 3)
            have fz4 : wr.frozen? ⟨gv, d.length * 6 + 3 + 1, none⟩ = false := own_frozenN HWK.out.list _
            have fz5 : wr.frozen? ⟨gv, d.length * 6 + 3 + 2, none⟩ = false := own_frozenN HWK.out.list _
            have v4 : wr.cell? ⟨gv, d.length * 6 + 3 + 1, none⟩ = some (.int .i64 xs) := c4
            have v5 : wr.cell? ⟨gv, d.length * 6 + 3 + 2, none⟩ = some (.int .i64 xt) := c5
            have hgne : gv ≠ wr.heap.size := by omega
            have hk0 : (wr.alloc (.cells #[.int .i64 nm, .int .i64 1, .bool false, .int .i64 (p + 1), .int .i64 8, .int .i64 8] 129)).cell? ⟨g, 0, none⟩ = some (.slice (some ⟨gv, 0, none⟩) n lc) := by rw [HNN.out]; exact k0
            clear k0
            go_wp2
            go_region
            go_wp2
            go_meet
            have hne2 : w.heap.size ≠ gv := fun e => own_far HLA.out HWK.out.list (by decide) (by rw [e]; rfl)
            exact ⟨_, _, _, HWG, HXS.out.drew, HRS.out.drew, ((HON.out.row HLA.out hne2).alloc _).drew, ((HON.out.below hbel hgvB).trans ((below_one _).mono (by rw [HSZ.out]; omega))).drew⟩
          · subst hs1
            have HWG : Hid (wgt p s t ⟨nm, 2, false, xp, xs, xt⟩ = ⟨nm, 2, false, p, (s + 1), 8⟩) := rfl
            have HX : Hid (WkA B g { K with ls := d ++ (⟨nm, 2, false, xp, xs, xt⟩ : Sp) :: r } (some ⟨gv, 0, none⟩) ea sa lc ec sc vs cs (wr.alloc (.cells #[.int .i64 nm, .int .i64 2, .bool false, .int .i64 p, .int .i64 (s + 1), .int .i64 8] 129))) := HWK.out.below (below_one _)
            have HXS : Hid (WkA B g { K with ls := d ++ (⟨nm, 2, false, p, (s + 1), 8⟩ : Sp) :: r } (some ⟨gv, 0, none⟩) ea sa lc ec sc vs cs ((((wr.setCell ⟨gv, d.length * 6 + 3, none⟩ (.int .i64 p)).setCell ⟨gv, d.length * 6 + 3 + 1, none⟩ (.int .i64 (s + 1))).setCell ⟨gv, d.length * 6 + 3 + 2, none⟩ (.int .i64 8)).alloc (.cells #[.int .i64 nm, .int .i64 2, .bool false, .int .i64 p, .int .i64 (s + 1), .int .i64 8] 129))) := (HWK.out.setX p (s + 1) 8).below (below_one _)
            have HON : Hid (OnlyRow gv wr (((wr.setCell ⟨gv, d.length * 6 + 3, none⟩ (.int .i64 p)).setCell ⟨gv, d.length * 6 + 3 + 1, none⟩ (.int .i64 (s + 1))).setCell ⟨gv, d.length * 6 + 3 + 2, none⟩ (.int .i64 8))) := ((OnlyRow.setCell _ _ _ _).trans (OnlyRow.setCell _ _ _ _)).trans (OnlyRow.setCell _ _ _ _)
            have HSZ : Hid ((((wr.setCell ⟨gv, d.length * 6 + 3, none⟩ (.int .i64 p)).setCell ⟨gv, d.length * 6 + 3 + 1, none⟩ (.int .i64 (s + 1))).setCell ⟨gv, d.length * 6 + 3 + 2, none⟩ (.int .i64 8)).heap.size = wr.heap.size) := by show _ = _; simp [World.setCell]
            have HRS : Hid (((((wr.setCell ⟨gv, d.length * 6 + 3, none⟩ (.int .i64 p)).setCell ⟨gv, d.length * 6 + 3 + 1, none⟩ (.int .i64 (s + 1))).setCell ⟨gv, d.length * 6 + 3 + 2, none⟩ (.int .i64 8)).alloc (.cells #[.int .i64 nm, .int .i64 2, .bool false, .int .i64 p, .int .i64 (s + 1), .int .i64 8] 129)).rowIs wr.heap.size 129 6 (spF ⟨nm, 2, false, p, (s + 1), 8⟩)) := row_at (row_new _ _ _ 6 rfl) HSZ.out (fun _ _ => rfl)
            obtain ⟨⟨k0, _⟩, _⟩ := row5K HX.out.row
            have fz3 := own_frozenN HWK.out.list (d.length * 6 + 3)
            have fz4 : wr.frozen? ⟨gv, d.length * 6 + 3 + 1, none⟩ = false := own_frozenN HWK.out.list _
            have fz5 : wr.frozen? ⟨gv, d.length * 6 + 3 + 2, none⟩ = false := own_frozenN HWK.out.list _
            have v4 : wr.cell? ⟨gv, d.length * 6 + 3 + 1, none⟩ = some (.int .i64 xs) := c4
            have v5 : wr.cell? ⟨gv, d.length * 6 + 3 + 2, none⟩ = some (.int .i64 xt) := c5
            have hgne : gv ≠ wr.heap.size := by omega
            have hk0 : (wr.alloc (.cells #[.int .i64 nm, .int .i64 2, .bool false, .int .i64 p, .int .i64 (s + 1), .int .i64 8] 129)).cell? ⟨g, 0, none⟩ = some (.slice (some ⟨gv, 0, none⟩) n lc) := by rw [HNN.out]; exact k0
            clear k0
            go_wp2
            go_region
            go_wp2
            go_meet
            have hne2 : w.heap.size ≠ gv := fun e => own_far HLA.out HWK.out.list (by decide) (by rw [e]; rfl)
            exact ⟨_, _, _, HWG, HXS.out.drew, HRS.out.drew, ((HON.out.row HLA.out hne2).alloc _).drew, ((HON.out.below hbel hgvB).trans ((below_one _).mono (by rw [HSZ.out]; omega))).drew⟩
          · subst hs1
            have HWG : Hid (wgt p s t ⟨nm, 3, false, xp, xs, xt⟩ = ⟨nm, 3, false, p, s, (t + 1)⟩) := rfl
            have HX : Hid (WkA B g { K with ls := d ++ (⟨nm, 3, false, xp, xs, xt⟩ : Sp) :: r } (some ⟨gv, 0, none⟩) ea sa lc ec sc vs cs (wr.alloc (.cells #[.int .i64 nm, .int .i64 3, .bool false, .int .i64 p, .int .i64 s, .int .i64 (t + 1)] 129))) := HWK.out.below (below_one _)
            have HXS : Hid (WkA B g { K with ls := d ++ (⟨nm, 3, false, p, s, (t + 1)⟩ : Sp) :: r } (some ⟨gv, 0, none⟩) ea sa lc ec sc vs cs ((((wr.setCell ⟨gv, d.length * 6 + 3, none⟩ (.int .i64 p)).setCell ⟨gv, d.length * 6 + 3 + 1, none⟩ (.int .i64 s)).setCell ⟨gv, d.length * 6 + 3 + 2, none⟩ (.int .i64 (t + 1))).alloc (.cells #[.int .i64 nm, .int .i64 3, .bool false, .int .i64 p, .int .i64 s, .int .i64 (t + 1)] 129))) := (HWK.out.setX p s (t + 1)).below (below_one _)
            have HON : Hid (OnlyRow gv wr (((wr.setCell ⟨gv, d.length * 6 + 3, none⟩ (.int .i64 p)).setCell ⟨gv, d.length * 6 + 3 + 1, none⟩ (.int .i64 s)).setCell ⟨gv, d.length * 6 + 3 + 2, none⟩ (.int .i64 (t + 1)))) := ((OnlyRow.setCell _ _ _ _).trans (OnlyRow.setCell _ _ _ _)).trans (OnlyRow.setCell _ _ _ _)
            have HSZ : Hid ((((wr.setCell ⟨gv, d.length * 6 + 3, none⟩ (.int .i64 p)).setCell ⟨gv, d.length * 6 + 3 + 1, none⟩ (.int .i64 s)).setCell ⟨gv, d.length * 6 + 3 + 2, none⟩ (.int .i64 (t + 1))).heap.size = wr.heap.size) := by show _ = _; simp [World.setCell]
            have HRS : Hid (((((wr.setCell ⟨gv, d.length * 6 + 3, none⟩ (.int .i64 p)).setCell ⟨gv, d.length * 6 + 3 + 1, none⟩ (.int .i64 s)).setCell ⟨gv, d.length * 6 + 3 + 2, none⟩ (.int .i64 (t + 1))).alloc (.cells #[.int .i64 nm, .int .i64 3, .bool false, .int .i64 p, .int .i64 s, .int .i64 (t + 1)] 129)).rowIs wr.heap.size 129 6 (spF ⟨nm, 3, false, p, s, (t + 1)⟩)) := row_at (row_new _ _ _ 6 rfl) HSZ.out (fun _ _ => rfl)
            obtain ⟨⟨k0, _⟩, _⟩ := row5K HX.out.row
            have fz3 := own_frozenN HWK.out.list (d.length * 6 + 3)
            have fz4 : wr.frozen? ⟨gv, d.length * 6 + 3 + 1, none⟩ = false := own_frozenN HWK.out.list _
            have fz5 : wr.frozen? ⟨gv, d.length * 6 + 3 + 2, none⟩ = false := own_frozenN HWK.out.list _
            have v4 : wr.cell? ⟨gv, d.length * 6 + 3 + 1, none⟩ = some (.int .i64 xs) := c4
            have v5 : wr.cell? ⟨gv, d.length * 6 + 3 + 2, none⟩ = some (.int .i64 xt) := c5
            have hgne : gv ≠ wr.heap.size := by omega
            have hk0 : (wr.alloc (.cells #[.int .i64 nm, .int .i64 3, .bool false, .int .i64 p, .int .i64 s, .int .i64 (t + 1)] 129)).cell? ⟨g, 0, none⟩ = some (.slice (some ⟨gv, 0, none⟩) n lc) := by rw [HNN.out]; exact k0
            clear k0
            go_wp2
            go_region
            go_wp2
            go_meet
            have hne2 : w.heap.size ≠ gv := fun e => own_far HLA.out HWK.out.list (by decide) (by rw [e]; rfl)
            exact ⟨_, _, _, HWG, HXS.out.drew, HRS.out.drew, ((HON.out.row HLA.out hne2).alloc _).drew, ((HON.out.below hbel hgvB).trans ((below_one _).mono (by rw [HSZ.out]; omega))).drew⟩
      case rest =>
        rename World => wc
        obtain ⟨p', s', t', HWG, HWC, HRS, HRL, HBC⟩ := hcut
        clear c0 c1 c2 c3 c4 c5 g0'
        have l0 : wc.cell? ⟨w.heap.size, 0, none⟩ = some (.int .i64 p) := HRL.out.cell (i := 0) (by omega)
        have l1 : wc.cell? ⟨w.heap.size, 1, none⟩ = some (.int .i64 s) := HRL.out.cell (i := 1) (by omega)
        have l2 : wc.cell? ⟨w.heap.size, 2, none⟩ = some (.int .i64 t) := HRL.out.cell (i := 2) (by omega)
        have m3 : wc.cell? ⟨wr.heap.size, 3, none⟩ = some (.int .i64 p') := HRS.out.cell (i := 3) (by omega)
        have m4 : wc.cell? ⟨wr.heap.size, 3 + 1, none⟩ = some (.int .i64 s') := HRS.out.cell (i := 4) (by omega)
        have m5 : wc.cell? ⟨wr.heap.size, 3 + 2, none⟩ = some (.int .i64 t') := HRS.out.cell (i := 5) (by omega)
        obtain ⟨ab, hab⟩ : ∃ x, x = aboveB p' s' t' p s t := ⟨_, rfl⟩
        obtain ⟨sg, hsg⟩ : ∃ x, x = stI p s t p' s' t' := ⟨_, rfl⟩
        obtain ⟨nb, hnb⟩ : ∃ x, x = nodeB p' s' t' := ⟨_, rfl⟩
        have HCA : Hid (∀ wz, Calls Tryz.prog 38 #[.agg #[.int .i64 p, .int .i64 s, .int .i64 t], .agg #[.int .i64 p', .int .i64 s', .int .i64 t']] wz fun e w' => e = .returned (.bool ab) ∧ Below wz.heap.size wz w') := fun wz => by rw [hab]; exact refAbove_any p s t p' s' t' wz
        have HCS : Hid (∀ wz, Calls Tryz.prog 89 #[.agg #[.int .i64 p, .int .i64 s, .int .i64 t], .agg #[.int .i64 p', .int .i64 s', .int .i64 t']] wz fun e w' => e = .returned (.int .i64 sg) ∧ Below wz.heap.size wz w') := fun wz => by rw [hsg]; exact strength_any p s t p' s' t' wz
        have HCN : Hid (∀ wz, Calls Tryz.prog 37 #[.agg #[.int .i64 p', .int .i64 s', .int .i64 t']] wz fun e w' => e = .returned (.bool nb) ∧ Below wz.heap.size wz w') := fun wz => by rw [hnb]; exact refIsNode_any p' s' t' wz
        have HOKW : Hid (okW p s t ⟨nm, st, ol, p', s', t'⟩ = (ab && decide (sg = st) && nb)) := by show _ = _; unfold okW; rw [hab, hsg, hnb]
        have HNB : Hid (nb = true → (0 ≤ p' ∧ p' ≤ 250) ∧ (0 ≤ s' ∧ s' ≤ 250) ∧ (0 ≤ t' ∧ t' ≤ 250)) := fun hh => by
          rw [hnb] at hh
          unfold nodeB at hh
          have := of_decide_eq_true hh
          omega
        have HWS : Hid (weigh (⟨nm, st, ol, xp, xs, xt⟩ :: r) p s t = if okW p s t ⟨nm, st, ol, p', s', t'⟩ = true then (weigh r p' s' t').map ((⟨nm, st, ol, p', s', t'⟩ : Sp) :: ·) else none) := by
          show _ = _
          rw [weigh, HWG.out]
        clear hab hsg hnb hi
        go_wp2_with fail
        refine (HCA.out _).mono ?_
        rintro e w1 ⟨rfl, hb1⟩
        have HB1 : Hid (Below wc.heap.size wc w1) := hb1
        have hz1 := hb1.size
        have hzl := HRL.out.lt
        have hzs := HRS.out.lt
        have l0' := cellTo hb1 l0 hzl
        have l1' := cellTo hb1 l1 hzl
        have l2' := cellTo hb1 l2 hzl
        have m3' := cellTo hb1 m3 hzs
        have m4' := cellTo hb1 m4 hzs
        have m5' := cellTo hb1 m5 hzs
        clear hb1
        go_wp2_with fail
        refine (HCS.out _).mono ?_
        rintro e w2 ⟨rfl, hb2⟩
        have HB2 : Hid (Below wc.heap.size wc w2) := below_then HB1.out hb2
        have m3b := cellTo HB2.out m3 hzs
        have m4b := cellTo HB2.out m4 hzs
        have m5b := cellTo HB2.out m5 hzs
        have hz2 := hb2.size
        clear hb2 l0' l1' l2' m3' m4' m5'
        go_wp2_with fail
        refine (HCN.out _).mono ?_
        rintro e w3 ⟨rfl, hb3⟩
        have HB3 : Hid (Below wc.heap.size wc w3) := below_then HB2.out hb3
        have m1 : w3.cell? ⟨wr.heap.size, 1, none⟩ = some (.int .i64 st) := (HRS.out.of_block (HB3.out.block _ hzs)).cell (i := 1) (by omega)
        have m3c := cellTo HB3.out m3 hzs
        have m4c := cellTo HB3.out m4 hzs
        have m5c := cellTo HB3.out m5 hzs
        have hz3 := hb3.size
        have HBW : Hid (Below B w w3) := HBC.out.trans (HB3.out.mono (by have := HBC.out.size; omega))
        have HW3 : Hid (WkA B g { K with ls := d ++ (⟨nm, st, ol, p', s', t'⟩ : Sp) :: r } (some ⟨gv, 0, none⟩) ea sa lc ec sc vs cs w3) := HWC.out.below HB3.out
        have HL3 : Hid (w3.rowIs w.heap.size 65 3 (ndF p s t)) := HRL.out.of_block (HB3.out.block _ hzl)
        clear hb3 m3b m4b m5b l0 l1 l2 m3 m4 m5
        by_cases hok : (ab && decide (sg = st) && nb) = true
        · rw [Bool.and_eq_true, Bool.and_eq_true] at hok
          obtain ⟨⟨ha1, hs2⟩, hn1⟩ := hok
          have hs3 := of_decide_eq_true hs2
          subst ha1
          subst hn1
          subst hs3
          have HWN : Hid (weigh K.ls 0 0 0 = (weigh r p' s' t').map ((d ++ [(⟨nm, sg, ol, p', s', t'⟩ : Sp)]) ++ ·)) := by
            show _ = _
            rw [HWE.out, HWS.out, if_pos (by rw [HOKW.out]; simp)]
            cases weigh r p' s' t' <;> simp
          have hbd' := HNB.out rfl
          have HRN : Hid ((((w3.setCell ⟨w.heap.size, 0, none⟩ (.int .i64 p')).setCell ⟨w.heap.size, 1, none⟩ (.int .i64 s')).setCell ⟨w.heap.size, 2, none⟩ (.int .i64 t')).rowIs w.heap.size 65 3 (ndF p' s' t')) := (((HL3.out.set 0 _).set 1 _).set 2 _).congr fun j hj => by
            have : j = 0 ∨ j = 1 ∨ j = 2 := by omega
            rcases this with rfl | rfl | rfl <;> rfl
          have HOn : Hid (OnlyRow w.heap.size w3 (((w3.setCell ⟨w.heap.size, 0, none⟩ (.int .i64 p')).setCell ⟨w.heap.size, 1, none⟩ (.int .i64 s')).setCell ⟨w.heap.size, 2, none⟩ (.int .i64 t'))) := ((OnlyRow.setCell _ _ _ _).trans (OnlyRow.setCell _ _ _ _)).trans (OnlyRow.setCell _ _ _ _)
          have HWF : Hid (WkA B g { K with ls := (d ++ [(⟨nm, sg, ol, p', s', t'⟩ : Sp)]) ++ r } (some ⟨gv, 0, none⟩) ea sa lc ec sc vs cs (((w3.setCell ⟨w.heap.size, 0, none⟩ (.int .i64 p')).setCell ⟨w.heap.size, 1, none⟩ (.int .i64 s')).setCell ⟨w.heap.size, 2, none⟩ (.int .i64 t'))) := by
            have := HW3.out.node HL3.out HOn.out
            show WkA _ _ _ _ _ _ _ _ _ _ _ _
            rw [List.append_assoc]
            exact this
          have HBF : Hid (Below B w (((w3.setCell ⟨w.heap.size, 0, none⟩ (.int .i64 p')).setCell ⟨w.heap.size, 1, none⟩ (.int .i64 s')).setCell ⟨w.heap.size, 2, none⟩ (.int .i64 t'))) := HOn.out.below HBW.out hBw
          have q0 := HL3.out.cell (i := 0) (by omega)
          have q1 := HL3.out.cell (i := 1) (by omega)
          have q2 := HL3.out.cell (i := 2) (by omega)
          have z0 := HL3.out.frozen 0
          have z1 := HL3.out.frozen 1
          have z2 := HL3.out.frozen 2
          have HLN : Hid (((d ++ [(⟨nm, sg, ol, p', s', t'⟩ : Sp)]) ++ r).length = n) := by
            have := HDR.out
            show _ = _
            simp at this ⊢
            omega
          have HDL : Hid ((d ++ [(⟨nm, sg, ol, p', s', t'⟩ : Sp)]).length = d.length + 1) := by show _ = _; simp
          have HST' : Hid (∀ x ∈ r, x.str = 1 ∨ x.str = 2 ∨ x.str = 3) := fun x hx => HST.out x (by simp [hx])
          simp only [ndF] at q0 q1 q2
          clear hs2
          go_wp2
          go_roundw
          case rel => exact ⟨d ++ [(⟨nm, sg, ol, p', s', t'⟩ : Sp)], r, p', s', t', HWN, HWF, HRN, hbd', by rw [HDL.out]; omega, HLN, HST', by rw [HDL.out]; rfl, HBF.out⟩
          case measure => simp [intOf]; omega
        · have HWN : Hid (weigh K.ls 0 0 0 = none) := by
            show _ = _
            rw [HWE.out, HWS.out, if_neg (by rw [HOKW.out]; exact hok)]
            rfl
          cases ab with
          | false =>
            clear hok
            go_wp2
            go_ret
            exact ⟨_, rfl, .inl ⟨HWN.out, rfl⟩, HBW.out⟩
          | true =>
            by_cases hsq : sg = st
            · subst hsq
              have hnf : nb = false := by simpa using hok
              subst hnf
              clear hok
              go_wp2
              go_ret
              exact ⟨_, rfl, .inl ⟨HWN.out, rfl⟩, HBW.out⟩
            · have hsq' : (sg == st) = false := beq_eq_false_iff_ne.2 hsq
              have hsq2 : (sg != st) = true := by simp [bne, hsq']
              have hsq3 : ¬ (sg = st) := hsq
              clear hok hsq hxs
              go_wp2
              go_ret
              exact ⟨_, rfl, .inl ⟨HWN.out, rfl⟩, HBW.out⟩

end Go.Proofs.YtpclldccjpncdabGreat

namespace Go.Proofs.YtpclldccjpncdabGreat
open Go.RowKit

theorem less_trans : ∀ a b c : List UInt8, Op.bytesLess a b = true → Op.bytesLess b c = true → Op.bytesLess a c = true
  | a, b, [], _, h => by cases b <;> simp [Op.bytesLess] at h
  | a, [], c :: cs, h, _ => by cases a <;> simp [Op.bytesLess] at h
  | [], b :: bs, c :: cs, _, _ => by simp [Op.bytesLess]
  | a :: l, b :: bs, c :: cs, h, h' => by
    have ih := less_trans l bs cs
    simp only [Op.bytesLess, Bool.or_eq_true, Bool.and_eq_true, decide_eq_true_eq, beq_iff_eq, UInt8.lt_iff_toNat_lt, ← UInt8.toNat_inj] at h h' ⊢
    rcases h with h | ⟨h1, h2⟩ <;> rcases h' with h' | ⟨h3, h4⟩
    · exact .inl (by omega)
    · exact .inl (by omega)
    · exact .inl (by omega)
    · exact .inr ⟨by omega, ih h2 h4⟩
theorem lessB_trans {a b c : ByteArray} (h : lessB a b = true) (h' : lessB b c = true) : lessB a c = true := less_trans _ _ _ h h'

end Go.Proofs.YtpclldccjpncdabGreat

namespace Go.Proofs.YtpclldccjpncdabGreat
open Go.RowKit

/-! compiling, as the entries lie in whatever order -/
theorem lessB_irr (a : ByteArray) : lessB a a = false := less_no _ _ (.inr rfl)
theorem lessB_asym {a b : ByteArray} (h : lessB a b = true) : lessB b a = false := less_no _ _ (.inl h)
theorem lessB_tri {a b : ByteArray} (h : lessB a b = false) (hn : a ≠ b) : lessB b a = true := less_yes _ _ ⟨h, fun e => hn (bytes_eq.1 e)⟩
theorem lessB_ne {a b : ByteArray} (h : lessB a b = true) : a ≠ b := fun e => by rw [e, lessB_irr] at h; cases h

def txE (es : List En) (j : Nat) : ByteArray := (es.getD j default).tx
def kE (es : List En) (j : Nat) : Nat := (es.getD j default).zs.length
def zE (es : List En) (j i : Nat) : Int := (es.getD j default).zs.getD i 0
theorem getD_at {α : Type} [Inhabited α] {l : List α} {i : Nat} (h : i < l.length) : l.getD i default = l[i] := by
  rw [List.getD_eq_getElem?_getD, List.getElem?_eq_getElem h]; rfl
theorem isText_mem {es : List En} {u : ByteArray} : isText es.length (txE es) u ↔ ∃ e ∈ es, e.tx = u := by
  constructor
  · rintro ⟨i, hi, ht⟩
    exact ⟨es[i], List.getElem_mem hi, by rw [← ht, txE, getD_at hi]⟩
  · rintro ⟨e, he, ht⟩
    obtain ⟨i, hi, rfl⟩ := List.getElem_of_mem he
    exact ⟨i, hi, by rw [txE, getD_at hi]; exact ht⟩
/-- the nodes of an entry -/
def look (es : List En) (u : ByteArray) : List Int := match es.find? (fun e => decide (e.tx = u)) with
  | some e => e.zs
  | none => []
def OnceE (es : List En) : Prop := es.Pairwise fun a b => a.tx ≠ b.tx
theorem once_perm {es es' : List En} (h : es.Perm es') : OnceE es ↔ OnceE es' := h.pairwise_iff (fun hab => Ne.symm hab)
theorem look_mem {es : List En} (ho : OnceE es) {e : En} (he : e ∈ es) : look es e.tx = e.zs := by
  unfold look
  cases hf : es.find? (fun x => decide (x.tx = e.tx)) with
  | none =>
    rw [List.find?_eq_none] at hf
    exact absurd (by simp) (hf e he)
  | some x =>
    have hx := List.mem_of_find?_eq_some hf
    have ht : x.tx = e.tx := by simpa using List.find?_some hf
    have : x = e := by
      by_cases hxe : x = e
      · exact hxe
      · exfalso
        obtain ⟨i, hi, rfl⟩ := List.getElem_of_mem hx
        obtain ⟨j, hj, rfl⟩ := List.getElem_of_mem he
        have hp := List.pairwise_iff_getElem.1 ho
        rcases Nat.lt_trichotomy i j with hij | hij | hij
        · exact hp i j hi hj hij ht
        · subst hij
          exact hxe rfl
        · exact hp j i hj hi hij ht.symm
    rw [this]
theorem look_perm {es es' : List En} (h : es.Perm es') (ho : OnceE es) (u : ByteArray) : look es u = look es' u := by
  by_cases hu : ∃ e ∈ es, e.tx = u
  · obtain ⟨e, he, rfl⟩ := hu
    rw [look_mem ho he, look_mem ((once_perm h).1 ho) (h.mem_iff.1 he)]
  · have h1 : es.find? (fun e => decide (e.tx = u)) = none := by
      rw [List.find?_eq_none]
      intro x hx hh
      exact hu ⟨x, hx, by simpa using hh⟩
    have h2 : es'.find? (fun e => decide (e.tx = u)) = none := by
      rw [List.find?_eq_none]
      intro x hx hh
      exact hu ⟨x, h.mem_iff.2 hx, by simpa using hh⟩
    unfold look
    rw [h1, h2]
/-- the numbers of the first q pieces of a text -/
noncomputable def numsQ (es : List En) (s : ByteArray) (q : Nat) : List Int := (List.range q).flatMap fun j => look es (piece es.length (txE es) s j)
open Classical in
/-- the numbers of the nodes of a text; none: it has no pieces -/
noncomputable def numsE (es : List En) (s : ByteArray) : Option (List Int) := if h : ∃ q, Cut es.length (txE es) s q ∧ pos es.length (txE es) s q = s.size then some (numsQ es s h.choose) else none
theorem numsE_some {es : List En} {s : ByteArray} {q : Nat} (hc : Cut es.length (txE es) s q) (hp : pos es.length (txE es) s q = s.size) : numsE es s = some (numsQ es s q) := by
  have h : ∃ q, Cut es.length (txE es) s q ∧ pos es.length (txE es) s q = s.size := ⟨q, hc, hp⟩
  unfold numsE
  rw [dif_pos h, h.choose_spec.1.uniq hc]
theorem numsE_none {es : List En} {s : ByteArray} {q : Nat} (hc : Cut es.length (txE es) s q) (hp : pos es.length (txE es) s q ≠ s.size) : numsE es s = none := by
  unfold numsE
  rw [dif_neg]
  rintro ⟨q', hc', hp'⟩
  rw [hc'.uniq hc] at hp'
  exact hp hp'
theorem lenAt_same {m m' : Nat} {tx tx' : Nat → ByteArray} (h : ∀ u, isText m tx u ↔ isText m' tx' u) (s : ByteArray) (p : Nat) : lenAt m tx s p = lenAt m' tx' s p := by
  unfold lenAt
  rw [(funext fun u => propext (h u) : isText m tx = isText m' tx')]
theorem pos_same {m m' : Nat} {tx tx' : Nat → ByteArray} (h : ∀ u, isText m tx u ↔ isText m' tx' u) (s : ByteArray) : ∀ q, pos m tx s q = pos m' tx' s q
  | 0 => rfl
  | q + 1 => by
    show pos m tx s q + lenAt m tx s (pos m tx s q) = pos m' tx' s q + lenAt m' tx' s (pos m' tx' s q)
    rw [pos_same h s q, lenAt_same h]
theorem piece_same {m m' : Nat} {tx tx' : Nat → ByteArray} (h : ∀ u, isText m tx u ↔ isText m' tx' u) (s : ByteArray) (j : Nat) : piece m tx s j = piece m' tx' s j := by
  unfold piece
  rw [pos_same h, lenAt_same h]
theorem cut_same {m m' : Nat} {tx tx' : Nat → ByteArray} (h : ∀ u, isText m tx u ↔ isText m' tx' u) (s : ByteArray) (q : Nat) : Cut m tx s q ↔ Cut m' tx' s q := by
  constructor
  · rintro ⟨h1, h2⟩
    exact ⟨fun j hj => by rw [← lenAt_same h, ← pos_same h]; exact h1 j hj, by rw [← lenAt_same h, ← pos_same h]; exact h2⟩
  · rintro ⟨h1, h2⟩
    exact ⟨fun j hj => by rw [lenAt_same h, pos_same h]; exact h1 j hj, by rw [lenAt_same h, pos_same h]; exact h2⟩
theorem perm_text {es es' : List En} (h : es.Perm es') (u : ByteArray) : isText es.length (txE es) u ↔ isText es'.length (txE es') u := by
  rw [isText_mem, isText_mem]
  constructor
  · rintro ⟨e, he, ht⟩
    exact ⟨e, h.mem_iff.1 he, ht⟩
  · rintro ⟨e, he, ht⟩
    exact ⟨e, h.mem_iff.2 he, ht⟩
theorem numsQ_perm {es es' : List En} (h : es.Perm es') (ho : OnceE es) (s : ByteArray) (q : Nat) : numsQ es s q = numsQ es' s q := by
  unfold numsQ
  congr 1
  funext j
  rw [piece_same (perm_text h), look_perm h ho]
theorem numsE_perm {es es' : List En} (h : es.Perm es') (ho : OnceE es) (s : ByteArray) : numsE es s = numsE es' s := by
  by_cases hq : ∃ q, Cut es.length (txE es) s q ∧ pos es.length (txE es) s q = s.size
  · obtain ⟨q, hc, hp⟩ := hq
    rw [numsE_some hc hp, numsE_some ((cut_same (perm_text h) s q).1 hc) (by rw [← pos_same (perm_text h)]; exact hp), numsQ_perm h ho]
  · have hq' : ¬ ∃ q, Cut es'.length (txE es') s q ∧ pos es'.length (txE es') s q = s.size := by
      rintro ⟨q, hc, hp⟩
      exact hq ⟨q, (cut_same (perm_text h) s q).2 hc, by rw [pos_same (perm_text h)]; exact hp⟩
    unfold numsE
    rw [dif_neg hq, dif_neg hq']
theorem look_idx {es : List En} {u : ByteArray} (h : isText es.length (txE es) u) : look es u = (es.getD (idx es.length (txE es) u) default).zs := by
  obtain ⟨h1, h2, h3⟩ := idx_spec h
  have : es.find? (fun e => decide (e.tx = u)) = some es[idx es.length (txE es) u] := by
    rw [List.find?_eq_some_iff_getElem]
    refine ⟨?_, _, h1, rfl, fun j hj => ?_⟩
    · rw [txE, getD_at h1] at h2
      simpa using h2
    · have := h3 j hj
      rw [txE, getD_at (by omega)] at this
      simpa using this
  unfold look
  rw [this, getD_at h1]

/-! a new entry -/
/-- in the order of the texts -/
def insE (es : List En) (e : En) : List En := es.takeWhile (fun x => lessB x.tx e.tx) ++ e :: (match es.dropWhile (fun x => lessB x.tx e.tx) with
  | [] => []
  | y :: r => if y.tx = e.tx then r else y :: r)
/-- at the end -/
def repE (es : List En) (e : En) : List En := if (∃ x ∈ es, x.tx = e.tx) then es.map (fun x => if x.tx = e.tx then e else x) else es ++ [e]
def SortE (es : List En) : Prop := es.Pairwise fun a b => lessB a.tx b.tx = true
theorem sort_once {es : List En} (h : SortE es) : OnceE es := h.imp fun h => lessB_ne h
theorem drop_greater {es : List En} (h : SortE es) (e : En) : ∀ x ∈ (match es.dropWhile (fun x => lessB x.tx e.tx) with
  | [] => []
  | y :: r => if y.tx = e.tx then r else y :: r), lessB e.tx x.tx = true := by
  intro x hx
  have hs : (es.dropWhile (fun x => lessB x.tx e.tx)).Pairwise fun a b => lessB a.tx b.tx = true := List.Pairwise.sublist (List.dropWhile_sublist _) h
  cases hd : es.dropWhile (fun x => lessB x.tx e.tx) with
  | nil => rw [hd] at hx; cases hx
  | cons y r =>
    rw [hd] at hx hs
    simp only at hx
    have hy : lessB y.tx e.tx = false := by
      have hne : es.dropWhile (fun x => lessB x.tx e.tx) ≠ [] := by rw [hd]; simp
      have := List.head_dropWhile_not (fun x : En => lessB x.tx e.tx) hne
      simp only [hd, List.head_cons] at this
      exact this
    rw [List.pairwise_cons] at hs
    by_cases hye : y.tx = e.tx
    · rw [if_pos hye] at hx
      have := hs.1 x hx
      rw [hye] at this
      exact this
    · rw [if_neg hye] at hx
      have hey := lessB_tri hy hye
      rcases List.mem_cons.1 hx with rfl | hx
      · exact hey
      · exact lessB_trans hey (hs.1 x hx)
theorem take_less (es : List En) (e : En) : ∀ x ∈ es.takeWhile (fun x => lessB x.tx e.tx), lessB x.tx e.tx = true := fun x hx => by
  induction es with
  | nil => cases hx
  | cons a l ih =>
    rw [List.takeWhile_cons] at hx
    split at hx
    · next ha =>
      rcases List.mem_cons.1 hx with rfl | hx
      · exact ha
      · exact ih hx
    · cases hx
theorem insE_sort {es : List En} (h : SortE es) (e : En) : SortE (insE es e) := by
  have hg := drop_greater h e
  have ht := take_less es e
  unfold insE SortE
  rw [List.pairwise_append]
  refine ⟨List.Pairwise.sublist (List.takeWhile_sublist _) h, ?_, fun a ha b hb => ?_⟩
  · rw [List.pairwise_cons]
    refine ⟨hg, ?_⟩
    have hs : (es.dropWhile (fun x => lessB x.tx e.tx)).Pairwise fun a b => lessB a.tx b.tx = true := List.Pairwise.sublist (List.dropWhile_sublist _) h
    split
    · exact List.Pairwise.nil
    · next y r hd =>
      rw [hd] at hs
      split
      · exact (List.pairwise_cons.1 hs).2
      · exact hs
  · rcases List.mem_cons.1 hb with rfl | hb
    · exact ht a ha
    · exact lessB_trans (ht a ha) (hg b hb)
theorem insE_perm {es : List En} (h : SortE es) (e : En) : (insE es e).Perm (e :: es.filter fun x => decide (x.tx ≠ e.tx)) := by
  have hg := drop_greater h e
  have ht := take_less es e
  have hes := List.takeWhile_append_dropWhile (p := fun x : En => lessB x.tx e.tx) (l := es)
  unfold insE
  refine List.perm_middle.trans (List.Perm.cons _ ?_)
  have hT : (es.takeWhile (fun x => lessB x.tx e.tx)).filter (fun x => decide (x.tx ≠ e.tx)) = es.takeWhile (fun x => lessB x.tx e.tx) := List.filter_eq_self.2 fun x hx => by
    have := lessB_ne (ht x hx)
    simpa using this
  have hD : (es.dropWhile (fun x => lessB x.tx e.tx)).filter (fun x => decide (x.tx ≠ e.tx)) = (match es.dropWhile (fun x => lessB x.tx e.tx) with
  | [] => []
  | y :: r => if y.tx = e.tx then r else y :: r) := by
    cases hd : es.dropWhile (fun x => lessB x.tx e.tx) with
    | nil => rfl
    | cons y r =>
      rw [hd] at hg
      simp only at hg ⊢
      by_cases hye : y.tx = e.tx
      · rw [if_pos hye] at hg ⊢
        rw [List.filter_cons_of_neg (by simpa using hye)]
        exact List.filter_eq_self.2 fun x hx => by
          have := lessB_ne (hg x hx)
          simpa using this.symm
      · rw [if_neg hye] at hg ⊢
        exact List.filter_eq_self.2 fun x hx => by
          have := lessB_ne (hg x hx)
          simpa using this.symm
  conv => rhs; rw [← hes, List.filter_append, hT, hD]
theorem repE_perm {es : List En} (h : OnceE es) (e : En) : (repE es e).Perm (e :: es.filter fun x => decide (x.tx ≠ e.tx)) := by
  unfold repE
  split
  · next hx =>
    induction es with
    | nil => obtain ⟨_, hx, _⟩ := hx; cases hx
    | cons a l ih =>
      unfold OnceE at h
      rw [List.pairwise_cons] at h
      rw [List.map_cons]
      by_cases ha : a.tx = e.tx
      · rw [if_pos ha, List.filter_cons_of_neg (by simpa using ha)]
        have h1 : l.map (fun x => if x.tx = e.tx then e else x) = l := by
          conv => rhs; rw [← List.map_id l]
          refine List.map_congr_left fun x hx => ?_
          rw [if_neg]
          · rfl
          · rw [← ha]; exact (h.1 x hx).symm
        have h2 : l.filter (fun x => decide (x.tx ≠ e.tx)) = l := List.filter_eq_self.2 fun x hx => by
          have := (h.1 x hx).symm
          rw [ha] at this
          simpa using this
        rw [h1, h2]
      · rw [if_neg ha, List.filter_cons_of_pos (by simpa using ha)]
        refine (List.Perm.cons _ (ih h.2 ?_)).trans (List.Perm.swap _ _ _)
        obtain ⟨x, hx, hxe⟩ := hx
        rcases List.mem_cons.1 hx with rfl | hx
        · exact absurd hxe ha
        · exact ⟨x, hx, hxe⟩
  · next hx =>
    have h2 : es.filter (fun x => decide (x.tx ≠ e.tx)) = es := List.filter_eq_self.2 fun x hx' => by
      have : x.tx ≠ e.tx := fun hh => hx ⟨x, hx', hh⟩
      simpa using this
    rw [h2]
    exact List.perm_append_comm
theorem ins_rep {es E : List En} (hp : es.Perm E) (hs : SortE E) (e : En) : (repE es e).Perm (insE E e) := by
  have ho : OnceE es := (once_perm hp).2 (sort_once hs)
  exact (repE_perm ho e).trans ((List.Perm.cons _ (hp.filter _)).trans (insE_perm hs e).symm)

/-! a rule -/
/-- the state behind a rule, or the error -/
noncomputable def ruleE (upd : List En → En → List En) (K : Wk) (r : Rl) : Except Int Wk :=
  match numsE K.es r.more with
  | none => .error 10
  | some more =>
    match (if r.reset.size ≠ 0 then (numsE K.es r.reset).map (fun l => (l.dropLast, l.getLastD 0)) else some (K.stem, K.anchor)) with
    | none => .error 10
    | some (stem, anchor) =>
      if r.before ≠ 0 ∧ (r.level ≠ r.before ∨ startS K.ls anchor r.before < 0) then .error 11
      else
        let K1 : Wk := { K with stem := stem, anchor := anchor }
        let K2 := if 0 < r.level then putS K1 (if r.before = 0 then behindS K.ls anchor r.level else (startS K.ls anchor r.before).toNat) r.level else K1
        if 4 < (K2.stem ++ [K2.anchor] ++ more).length then .error 12
        else if 48 < K2.ls.length ∨ 48 < (upd K2.es ⟨r.text, K2.stem ++ [K2.anchor] ++ more⟩).length then .error 13
        else .ok { K2 with es := upd K2.es ⟨r.text, K2.stem ++ [K2.anchor] ++ more⟩ }
/-- the same but for the order of the entries -/
structure Alike (K K' : Wk) : Prop where
  ls : K.ls = K'.ls
  stem : K.stem = K'.stem
  anchor : K.anchor = K'.anchor
  names : K.names = K'.names
  perm : K.es.Perm K'.es
  sort : SortE K'.es
theorem putS_alike {K K' : Wk} (h : Alike K K') (a : Nat) (lev : Int) : Alike (putS K a lev) (putS K' a lev) := by
  refine ⟨?_, h.stem, h.names, ?_, h.perm, h.sort⟩
  · show K.ls.take a ++ [Sp.mk K.names lev false 0 0 0] ++ K.ls.drop a = K'.ls.take a ++ [Sp.mk K'.names lev false 0 0 0] ++ K'.ls.drop a
    rw [h.ls, h.names]
  · show K.names + 1 = K'.names + 1
    rw [h.names]
def AlikeR (a b : Except Int Wk) : Prop := match a, b with
  | .error e, .error f => e = f
  | .ok K, .ok K' => Alike K K'
  | _, _ => False
theorem ruleE_alike {K K' : Wk} (h : Alike K K') (r : Rl) : AlikeR (ruleE repE K r) (ruleE insE K' r) := by
  have ho : OnceE K.es := (once_perm h.perm).2 (sort_once h.sort)
  unfold ruleE
  rw [numsE_perm h.perm ho, numsE_perm h.perm ho, h.stem, h.anchor, h.ls]
  cases numsE K'.es r.more with
  | none => exact rfl
  | some more =>
    simp only
    split
    · exact rfl
    · next stem anchor _ =>
      by_cases hb : r.before ≠ 0 ∧ (r.level ≠ r.before ∨ startS K'.ls anchor r.before < 0)
      · rw [if_pos hb, if_pos hb]
        exact rfl
      · rw [if_neg hb, if_neg hb]
        have hA : Alike (if 0 < r.level then putS { K with ls := K'.ls, stem := stem, anchor := anchor } (if r.before = 0 then behindS K'.ls anchor r.level else (startS K'.ls anchor r.before).toNat) r.level else { K with ls := K'.ls, stem := stem, anchor := anchor }) (if 0 < r.level then putS { K' with stem := stem, anchor := anchor } (if r.before = 0 then behindS K'.ls anchor r.level else (startS K'.ls anchor r.before).toNat) r.level else { K' with stem := stem, anchor := anchor }) := by
          have h1 : Alike { K with ls := K'.ls, stem := stem, anchor := anchor } { K' with stem := stem, anchor := anchor } := ⟨rfl, rfl, rfl, h.names, h.perm, h.sort⟩
          split
          · exact putS_alike h1 _ _
          · exact h1
        generalize (if 0 < r.level then putS { K with ls := K'.ls, stem := stem, anchor := anchor } (if r.before = 0 then behindS K'.ls anchor r.level else (startS K'.ls anchor r.before).toNat) r.level else { K with ls := K'.ls, stem := stem, anchor := anchor }) = K2 at hA ⊢
        generalize (if 0 < r.level then putS { K' with stem := stem, anchor := anchor } (if r.before = 0 then behindS K'.ls anchor r.level else (startS K'.ls anchor r.before).toNat) r.level else { K' with stem := stem, anchor := anchor }) = K2' at hA ⊢
        have hp := ins_rep hA.perm hA.sort ⟨r.text, K2'.stem ++ [K2'.anchor] ++ more⟩
        rw [hA.stem, hA.anchor, hA.ls, hp.length_eq]
        split
        · exact rfl
        · split
          · exact rfl
          · exact ⟨rfl, rfl, rfl, hA.names, hp, insE_sort hA.sort _⟩
/-- all rules; an error with the number of its rule -/
noncomputable def rulesE (upd : List En → En → List En) : Wk → List Rl → Nat → Except (Int × Nat) Wk
  | K, [], _ => .ok K
  | K, r :: l, i => match ruleE upd K r with
    | .error e => .error (e, i)
    | .ok K' => rulesE upd K' l (i + 1)
def AlikeS (a b : Except (Int × Nat) Wk) : Prop := match a, b with
  | .error e, .error f => e = f
  | .ok K, .ok K' => Alike K K'
  | _, _ => False
theorem rulesE_alike : ∀ (l : List Rl) (K K' : Wk) (i : Nat), Alike K K' → AlikeS (rulesE repE K l i) (rulesE insE K' l i)
  | [], K, K', i, h => h
  | r :: l, K, K', i, h => by
    have hr := ruleE_alike h r
    unfold rulesE
    revert hr
    cases ruleE repE K r with
    | error e =>
      cases ruleE insE K' r with
      | error f => intro hr; have hr : e = f := hr; subst hr; exact rfl
      | ok _ => intro hr; exact hr.elim
    | ok K2 =>
      cases ruleE insE K' r with
      | error f => intro hr; exact hr.elim
      | ok K2' => intro hr; exact rulesE_alike l K2 K2' (i + 1) hr

end Go.Proofs.YtpclldccjpncdabGreat
