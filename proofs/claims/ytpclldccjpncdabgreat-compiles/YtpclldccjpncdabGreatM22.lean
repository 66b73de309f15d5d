import Derived.Test.YtpclldccjpncdabGreatM21
import Derived.BigQuiet
namespace Go.Proofs.YtpclldccjpncdabGreat
open Go.RowKit

def emC (em : List Em) : List Value := em.flatMap fun x => [.string x.1.tx, x.2]
theorem emC_app (a b : List Em) : emC (a ++ b) = emC a ++ emC b := by simp [emC]
theorem emC_len : ∀ l : List Em, (emC l).length = l.length * 2
  | [] => rfl
  | x :: l => by
    have := emC_len l
    show ([Value.string x.1.tx, x.2] ++ emC l).length = _
    rw [List.length_append, this, List.length_cons]
    show 2 + _ = (_ + 1) * 2
    omega
theorem emC_at : ∀ (l : List Em) (i : Nat), i < l.length → (emC l)[i * 2]? = some (.string (l.getD i default).1.tx) ∧ (emC l)[i * 2 + 1]? = some (l.getD i default).2
  | [], i, h => by simp at h
  | x :: l, 0, _ => ⟨rfl, rfl⟩
  | x :: l, i + 1, h => by
    have h' : i < l.length := by simpa using h
    have := emC_at l i h'
    constructor
    · show ([Value.string x.1.tx, x.2] ++ emC l)[(i + 1) * 2]? = _
      rw [List.getElem?_append_right (by show 2 ≤ _; omega), show (i + 1) * 2 - [Value.string x.1.tx, x.2].length = i * 2 by show _ - 2 = _; omega]
      exact this.1
    · show ([Value.string x.1.tx, x.2] ++ emC l)[(i + 1) * 2 + 1]? = _
      rw [List.getElem?_append_right (by show 2 ≤ _; omega), show (i + 1) * 2 + 1 - [Value.string x.1.tx, x.2].length = i * 2 + 1 by show _ - 2 = _; omega]
      exact this.2
/-- a row of entries of one's own, to read -/
theorem em_in {w : World} {base : Nat} {ea : Option Addr} {n ec : Nat} {em : List Em} (hn : n = em.length) (ho : w.ownsRow base 63 2 (.slice ea n ec) n (emC em)) (hi : ∀ x ∈ em, SlIn w.heap.size w x.2 x.1.zs) : ∃ eb, EmIn w.heap.size w ea eb 0 em := by
  subst hn
  obtain ⟨vo, vc, gv, hv, ha, hc⟩ := ownC_cells ho
  injection hv with hv1 _ _
  refine ⟨gv, fun h => by rw [hv1]; exact (ha h).1, fun h => (ha h).2.1, fun i hi => ?_, fun i hi => ?_, hi⟩
  · rw [Nat.zero_add]; exact hc _ _ (by omega) (emC_at em i hi).1
  · rw [Nat.zero_add]; exact hc _ _ (by omega) (emC_at em i hi).2
theorem insE_at {es : List En} {e : En} {i : Nat} (hi : i ≤ es.length) (h1 : ∀ j, j < i → lessB (es.getD j default).tx e.tx = true) (h2 : i < es.length → lessB (es.getD i default).tx e.tx = false) : insE es e = es.take i ++ e :: (if i < es.length ∧ (es.getD i default).tx = e.tx then es.drop (i + 1) else es.drop i) := by
  have ht : ∀ (l : List En) (i : Nat), i ≤ l.length → (∀ j, j < i → lessB (l.getD j default).tx e.tx = true) → (i < l.length → lessB (l.getD i default).tx e.tx = false) → l.takeWhile (fun x => lessB x.tx e.tx) = l.take i ∧ l.dropWhile (fun x => lessB x.tx e.tx) = l.drop i := by
    intro l
    induction l with
    | nil => intro i hi _ _; simp
    | cons a l ih =>
      intro i hi h1 h2
      cases i with
      | zero =>
        have := h2 (by simp)
        have ha : lessB a.tx e.tx = false := this
        simp [List.takeWhile, List.dropWhile, ha]
      | succ i =>
        have ha : lessB a.tx e.tx = true := h1 0 (by omega)
        obtain ⟨k1, k2⟩ := ih i (by simpa using hi) (fun j hj => h1 (j + 1) (by omega)) (fun hl => h2 (by simpa using hl))
        simp [List.takeWhile, List.dropWhile, ha, k1, k2]
  obtain ⟨k1, k2⟩ := ht es i hi h1 h2
  unfold insE
  rw [k1, k2]
  congr 2
  by_cases hlt : i < es.length
  · rw [List.drop_eq_getElem_cons hlt, getD_at hlt]
    simp only
    by_cases he : es[i].tx = e.tx
    · rw [if_pos he, if_pos ⟨hlt, he⟩]
    · rw [if_neg he, if_neg (fun hh => he hh.2)]
  · rw [List.drop_of_length_le (by omega), if_neg (fun hh => hlt hh.1)]
/-- an entry more, each with its slice -/
def insM (em : List Em) (x : Em) (i i' : Nat) : List Em := em.take i ++ [x] ++ em.drop i'
theorem esM_ins {em : List Em} {x : Em} {i i' : Nat} (hi : i ≤ em.length) (h1 : ∀ j, j < i → lessB (em.getD j default).1.tx x.1.tx = true) (h2 : i < em.length → lessB (em.getD i default).1.tx x.1.tx = false) (h3 : i' = if i < em.length ∧ (em.getD i default).1.tx = x.1.tx then i + 1 else i) : esM (insM em x i i') = insE (esM em) x.1 := by
  have hl : (esM em).length = em.length := List.length_map _
  rw [insE_at (i := i) (by rw [hl]; exact hi) (fun j hj => by rw [esM_at (by omega)]; exact h1 j hj) (fun hlt => by rw [hl] at hlt; rw [esM_at hlt]; exact h2 hlt)]
  unfold insM
  rw [h3, hl]
  by_cases hc : i < em.length ∧ (em.getD i default).1.tx = x.1.tx
  · rw [if_pos hc, if_pos ⟨hc.1, by rw [esM_at hc.1]; exact hc.2⟩]
    simp [esM, List.map_take, List.map_drop]
  · rw [if_neg hc, if_neg (fun hh => hc ⟨hh.1, by rw [← esM_at hh.1]; exact hh.2⟩)]
    simp [esM, List.map_take, List.map_drop]
theorem insM_mem {em : List Em} {x y : Em} {i i' : Nat} (h : y ∈ insM em x i i') : y = x ∨ y ∈ em := by
  unfold insM at h
  simp only [List.mem_append, List.mem_singleton] at h
  rcases h with (h | h) | h
  · exact .inr (List.mem_of_mem_take h)
  · exact .inl h
  · exact .inr (List.mem_of_mem_drop h)
theorem take_snocE (l : List Em) (i : Nat) (h : i < l.length) : l.take (i + 1) = l.take i ++ [l.getD i default] := by
  rw [List.take_succ_eq_append_getElem h, getD_at h]
theorem drop_take_snoc (l : List Em) (a i : Nat) (ha : a ≤ i) (h : i < l.length) : (l.drop a).take (i + 1 - a) = (l.drop a).take (i - a) ++ [l.getD i default] := by
  have hd : i - a < (l.drop a).length := by rw [List.length_drop]; omega
  rw [show i + 1 - a = (i - a) + 1 by omega, take_snocE _ _ hd, getD_at hd, getD_at h, List.getElem_drop]
  congr 3
  omega

set_option maxRecDepth 100000 in
set_option maxHeartbeats 4000000 in
theorem withEntry_any (ea : Option Addr) (ec eb eo : Nat) (em : List Em) (x : Em) (xa : Option Addr) (xn xc : Nat) (w : World) (hl : em.length ≤ 1000) (hx : x.2 = .slice xa xn xc) (h : EmIn w.heap.size w ea eb eo em) (hsl : ∀ y ∈ em, ∃ a n c, y.2 = .slice a n c) :
    Calls Tryz.prog 116 #[.slice ea em.length ec, .agg #[.string x.1.tx, .slice xa xn xc]] w fun e w' => ∃ (a : Option Addr) (c n : Nat) (em' : List Em), e = .returned (.slice a n c) ∧ Hid (n = em'.length ∧ esM em' = insE (esM em) x.1 ∧ (∀ y ∈ em', y = x ∨ y ∈ em) ∧ w'.ownsRow w.heap.size 63 2 (.slice a n c) n (emC em')) ∧ Below w.heap.size w w' := by
  obtain ⟨i0, hi0, hq0, hq1, hq2⟩ := info_parts infoEntC
  obtain ⟨xt, hxt⟩ : ∃ t, t = x.1.tx := ⟨_, rfl⟩
  have HXC : Hid (emC [x] = [.string xt, .slice xa xn xc]) := by show _ = _; rw [← hx, hxt]; rfl
  have HXT : Hid (xt = x.1.tx) := hxt
  rw [← hxt]
  clear hxt hx
  have HL : Hid (∀ wr, Below w.heap.size w wr → EmIn w.heap.size wr ea eb eo em) := fun wr hb => h.below hb
  have HSL : Hid (∀ y ∈ em, ∃ a n c, y.2 = .slice a n c) := hsl
  clear h hsl
  obtain ⟨n, hn⟩ : ∃ n, n = em.length := ⟨_, rfl⟩
  have HN : Hid (n = em.length) := hn
  rw [← hn] at hl ⊢
  clear hn
  obtain ⟨W, hW⟩ : ∃ W, W = w.alloc (.cells #[.string xt, .slice xa xn xc] 63) := ⟨_, rfl⟩
  have HWS : Hid (W.heap.size = w.heap.size + 1) := by show _ = _; rw [hW]; simp
  have HM : Hid (∀ wx, Below (w.heap.size + 1) W wx → wx.cell? ⟨w.heap.size, 0, none⟩ = some (.string xt) ∧ wx.cell? ⟨w.heap.size, 1, none⟩ = some (.slice xa xn xc)) := fun wx hb => by
    have c := newC2 w rfl (.string xt) (.slice xa xn xc) 63
    have c0 := c 0 _ rfl
    have c1 := c 1 _ rfl
    rw [Addr.add_mid] at c0 c1
    rw [← hW] at c0 c1
    exact ⟨cellTo hb (by simpa using c0) (by show w.heap.size < _; omega), cellTo hb (by simpa using c1) (by show w.heap.size < _; omega)⟩
  have HB0 : Hid (Below w.heap.size w W) := by show Below _ _ _; rw [hW]; exact below_one _
  go_enter Tryz.func116, Tryz.ntmps116
  go_wp2
  rw [← hW]
  clear hW
  go_loopw [5, 6] (fun v iv wr => ∃ i : Nat, i ≤ n ∧ iv = .int .i64 (i : Nat) ∧ Below (w.heap.size + 1) W wr ∧ Hid (∀ j, j < i → lessB (em.getD j default).1.tx xt = true) ∧ Hid (wr.ownsRow (w.heap.size + 1) 63 2 v i (emC (em.take i)))) (fun _ iv _ => n - (intOf iv).toNat)
  case atStart => exact ⟨0, Nat.zero_le _, rfl, Below.refl _ _, fun j hj => by omega, World.ownsRow_nil _ _ _ _⟩
  case round =>
    obtain ⟨i, hi, rfl, hbel, HLE, HO⟩ := hrel
    have hws := HWS.out
    have hsz : w.heap.size + 1 ≤ wr.heap.size := by have := hbel.size; omega
    obtain ⟨va, vc, hv⟩ := ownC_shape HO.out
    subst hv
    obtain ⟨m0, m1⟩ := HM.out wr hbel
    have HBW : Hid (Below w.heap.size w wr) := HB0.out.trans (hbel.mono (by omega))
    have HTEST : i < n → ∃ (yt : ByteArray) (ya : Option Addr) (yn yc : Nat), (∀ wx, Below w.heap.size w wx → ea = some ⟨eb, eo, none⟩ ∧ eb < w.heap.size ∧ wx.cell? ⟨eb, eo + i * 2, none⟩ = some (.string yt) ∧ wx.cell? ⟨eb, eo + i * 2 + 1, none⟩ = some (.slice ya yn yc)) ∧ emC [em.getD i default] = [.string yt, .slice ya yn yc] ∧ yt = (em.getD i default).1.tx := fun hlt => by
      have hlt' : i < em.length := by rw [← HN.out]; exact hlt
      obtain ⟨a, k, c, hs⟩ := HSL.out (em.getD i default) (by rw [getD_at hlt']; exact List.getElem_mem hlt')
      refine ⟨(em.getD i default).1.tx, a, k, c, fun wx hb => ?_, by rw [← hs]; rfl, rfl⟩
      have hL := HL.out wx hb
      exact ⟨hL.addr (by omega), hL.lt (by omega), hL.text i hlt', by rw [← hs]; exact hL.list i hlt'⟩
    have HTE : Hid (i < n → ∃ (yt : ByteArray) (ya : Option Addr) (yn yc : Nat), (∀ wx, Below w.heap.size w wx → ea = some ⟨eb, eo, none⟩ ∧ eb < w.heap.size ∧ wx.cell? ⟨eb, eo + i * 2, none⟩ = some (.string yt) ∧ wx.cell? ⟨eb, eo + i * 2 + 1, none⟩ = some (.slice ya yn yc)) ∧ emC [em.getD i default] = [.string yt, .slice ya yn yc] ∧ yt = (em.getD i default).1.tx) := HTEST
    clear HTEST
    by_cases hgo : i < n ∧ lessB (em.getD i default).1.tx xt = true
    · obtain ⟨hlt, hless⟩ := hgo
      obtain ⟨yt, ya, yn, yc, hyc, hye, hyt⟩ := HTE.out hlt
      obtain ⟨ha, heb, t0, t1⟩ := hyc wr HBW.out
      subst ha
      rw [← hyt] at hless
      have hless' : Op.bytesLess yt.toList xt.toList = true := hless
      have HLE' : Hid (∀ j, j < i + 1 → lessB (em.getD j default).1.tx xt = true) := fun j hj => by
        by_cases e : j = i
        · rw [e, ← hyt]; exact hless
        · exact HLE.out j (by omega)
      have HYE : Hid (emC [em.getD i default] = [.string yt, .slice ya yn yc]) := hye
      clear hyc hye hyt hless
      go_wp2
      go_quiet (fail)
      have hy : Below wr.heap.size wr (wr.drewN nq) := below_drewN (Below.refl _ _) nq
      generalize wr.drewN nq = w1 at hy ⊢
      have HB1 : Hid (Below (w.heap.size + 1) W w1) := hbel.trans (hy.mono hsz)
      have HO1 : Hid (w1.ownsRow (w.heap.size + 1) 63 2 (.slice va i vc) i (emC (em.take i))) := ownC_below HO.out hy
      have hz1 := hy.size
      have d0 := cellTo hy t0 (by show eb < _; omega)
      have d1 := cellTo hy t1 (by show eb < _; omega)
      have HTK : Hid (emC (em.take (i + 1)) = emC (em.take i) ++ [.string yt, .slice ya yn yc]) := by show _ = _; rw [take_snocE em i (by rw [← HN.out]; exact hlt), emC_app, HYE.out]
      clear t0 t1 m0 m1 hy
      go_wp2_with (first
        | (at_builtin; refine wpList_append_lies _ (by rfl) (.tmp 21) (.tmp 26) 26 (by rfl) (w.heap.size + 1) 63 i0 (.agg #[.string ByteArray.empty, .slice none 0 0]) 2 40 Tryz.underlying26 hi0 hq0 hq1 hq2 rfl (by omega) _ i _ (by rfl) (HO1.out.alloc _) ⟨w1.heap.size, 0, none⟩ 1 1 [.string yt, .slice ya yn yc] (by rfl) (by rfl) ?e1 ?e2 (by omega) ?e3 ?e5 ?e4 (w1.heap.size + 1) (by simp) ?_))
      case e1 => exact newC2 _ rfl _ _ _
      case e2 => intro u hu; simp at hu; rcases hu with rfl | rfl <;> rfl
      case e3 => unfold maxLen; omega
      case e5 => omega
      case e4 => simp; omega
      · intro g3 cap3 w3 hown3 hgrow3 _ _
        have HB3 : Hid (Below (w.heap.size + 1) W w3) := ownC_grown_below (HB1.out.alloc (by omega) _) (by simp; omega) (HO1.out.alloc _) (Nat.le_refl _) hgrow3
        have HO3 : Hid (w3.ownsRow (w.heap.size + 1) 63 2 (.slice (some ⟨g3, 0, none⟩) (i + 1) cap3) (i + 1) (emC (em.take (i + 1)))) := by
          show World.ownsRow _ _ _ _ _ _ _
          rw [HTK.out]
          exact hown3
        clear hown3 hgrow3 d0 d1
        go_wp2
        go_roundw
        case rel => exact ⟨i + 1, by omega, by go_num, HB3.out, HLE', HO3⟩
        case measure => simp [intOf]; omega
    · have HGO : Hid (¬ (i < n ∧ lessB (em.getD i default).1.tx xt = true)) := hgo
      clear hgo
      go_upto_region 3 with (fail)
      go_cut [20] from 7 to 29 (fun b wc => b = .bool false ∧ Hid (Below wr.heap.size wr wc))
      case first =>
        by_cases hlt : i < n
        · obtain ⟨yt, ya, yn, yc, hyc, hye, hyt⟩ := HTE.out hlt
          obtain ⟨ha, heb, t0, t1⟩ := hyc wr HBW.out
          subst ha
          have hless' : Op.bytesLess yt.toList xt.toList = false := by
            have h2 : ¬ (lessB (em.getD i default).1.tx xt = true) := fun h => HGO.out ⟨hlt, h⟩
            rw [← hyt] at h2
            have h3 : lessB yt xt = false := by simpa using h2
            exact h3
          clear hyc hye hyt
          go_wp2
          go_quiet (fail)
          go_wp2
          go_meet
          exact ⟨rfl, below_drewN (Below.refl _ _) _⟩
        · have hd1 : decide ((i : Int) < (n : Int)) = false := by simp; omega
          have hd2 : decide (i < n) = false := by simp; omega
          go_wp2
          go_quiet (fail)
          go_wp2
          go_meet
          exact ⟨rfl, below_drewN (Below.refl _ _) _⟩
      case rest =>
        rename World => w1
        obtain ⟨rfl, HY⟩ := hcut
        have hz1 := HY.out.size
        have HB1 : Hid (Below (w.heap.size + 1) W w1) := hbel.trans (HY.out.mono hsz)
        have HO1 : Hid (w1.ownsRow (w.heap.size + 1) 63 2 (.slice va i vc) i (emC (em.take i))) := ownC_below HO.out HY.out
        have HBW1 : Hid (Below w.heap.size w w1) := HB0.out.trans (HB1.out.mono (by omega))
        obtain ⟨x0, x1⟩ := HM.out w1 HB1.out
        clear m0 m1
        go_upto_region 7 with (first
          | (at_builtin; refine wpList_append_lies _ (by rfl) (.tmp 30) (.tmp 32) 26 (by rfl) (w.heap.size + 1) 63 i0 (.agg #[.string ByteArray.empty, .slice none 0 0]) 2 40 Tryz.underlying26 hi0 hq0 hq1 hq2 rfl (by omega) _ i _ (by rfl) (HO1.out.alloc _) ⟨w1.heap.size, 0, none⟩ 1 1 [.string xt, .slice xa xn xc] (by rfl) (by rfl) ?e1 ?e2 (by omega) ?e3 ?e5 ?e4 (w1.heap.size + 1) (by simp) ?_))
        case e1 => exact newC2 _ rfl _ _ _
        case e2 => intro u hu; simp at hu; rcases hu with rfl | rfl <;> rfl
        case e3 => unfold maxLen; omega
        case e5 => omega
        case e4 => simp; omega
        · intro g3 cap3 w3 hown3 hgrow3 _ _
          have HB3 : Hid (Below (w.heap.size + 1) W w3) := ownC_grown_below (HB1.out.alloc (by omega) _) (by simp; omega) (HO1.out.alloc _) (Nat.le_refl _) hgrow3
          have HO3 : Hid (w3.ownsRow (w.heap.size + 1) 63 2 (.slice (some ⟨g3, 0, none⟩) (i + 1) cap3) (i + 1) (emC (em.take i ++ [x]))) := by
            show World.ownsRow _ _ _ _ _ _ _
            rw [emC_app, HXC.out]
            exact hown3
          have hz3 := HB3.out.size
          obtain ⟨y0, y1⟩ := HM.out w3 HB3.out
          have HBW3 : Hid (Below w.heap.size w w3) := HB0.out.trans (HB3.out.mono (by omega))
          clear hown3 hgrow3 x0 x1
          go_upto_region 7 with (fail)
          go_cut [47] from 34 (fun b wc => ∃ bb : Bool, b = .bool bb ∧ Hid (bb = true ↔ (i < n ∧ (em.getD i default).1.tx = xt)) ∧ Hid (Below w3.heap.size w3 wc))
          case first =>
            by_cases hlt : i < n
            · obtain ⟨yt, ya, yn, yc, hyc, hye, hyt⟩ := HTE.out hlt
              obtain ⟨ha, heb, t0, t1⟩ := hyc w3 HBW3.out
              subst ha
              by_cases hxy : yt = xt
              · have hbq : (yt.toList == xt.toList) = true := by rw [hxy]; simp
                have HYT : Hid ((em.getD i default).1.tx = xt) := by show _ = _; rw [← hyt]; exact hxy
                subst hxy
                clear hyc hye hyt
                go_wp2
                go_quiet (fail)
                go_wp2
                go_meet
                refine ⟨true, by simp, ⟨fun _ => ⟨hlt, HYT.out⟩, fun _ => rfl⟩, below_drewN (Below.refl _ _) _⟩
              · have hbq : (yt.toList == xt.toList) = false := by
                  rw [beq_eq_false_iff_ne]
                  exact fun e => hxy (bytes_eq.1 e)
                have HYT : Hid (¬ (em.getD i default).1.tx = xt) := by show ¬ _; rw [← hyt]; exact hxy
                clear hyc hye hyt
                go_wp2
                go_quiet (fail)
                go_wp2
                go_meet
                refine ⟨false, by first | rfl | simp [hbq], ⟨fun h => (by cases h), fun h => absurd h.2 HYT.out⟩, below_drewN (Below.refl _ _) _⟩
            · have hd1 : decide ((i : Int) < (n : Int)) = false := by simp; omega
              have hd2 : decide (i < n) = false := by simp; omega
              go_wp2
              go_quiet (fail)
              go_wp2
              go_meet
              refine ⟨false, rfl, ⟨fun h => (by cases h), fun h => absurd h.1 hlt⟩, below_drewN (Below.refl _ _) _⟩
          case rest =>
            rename World => w4
            obtain ⟨bb, rfl, HT, HY4⟩ := hcut
            have HB4 : Hid (Below (w.heap.size + 1) W w4) := HB3.out.trans (HY4.out.mono (by omega))
            have HO4 : Hid (w4.ownsRow (w.heap.size + 1) 63 2 (.slice (some ⟨g3, 0, none⟩) (i + 1) cap3) (i + 1) (emC (em.take i ++ [x]))) := ownC_below HO3.out HY4.out
            clear y0 y1
            go_upto_if 47 with (fail)
            go_cut [6] from 34 (fun iv wc => ∃ i' : Nat, iv = .int .i64 (i' : Nat) ∧ i ≤ i' ∧ i' ≤ n ∧ i' ≤ i + 1 ∧ Hid (i' = if i < n ∧ (em.getD i default).1.tx = xt then i + 1 else i) ∧ wc = w4)
            case first =>
              cases bb
              · have HIF : Hid (i = if i < n ∧ (em.getD i default).1.tx = xt then i + 1 else i) := by
                  show _ = _
                  rw [if_neg (fun h => by have := HT.out.2 h; cases this)]
                clear HT
                go_wp2
                go_meet
                exact ⟨i, rfl, Nat.le_refl _, hi, by omega, HIF, rfl⟩
              · have ht := HT.out.1 rfl
                have HIF : Hid (i + 1 = if i < n ∧ (em.getD i default).1.tx = xt then i + 1 else i) := by
                  show _ = _
                  rw [if_pos ht]
                obtain ⟨ht1, _⟩ := ht
                clear HT
                go_wp2
                go_meet
                exact ⟨i + 1, by go_num, by omega, by omega, Nat.le_refl _, HIF, rfl⟩
            case rest =>
              rename World => w5
              obtain ⟨i', rfl, hii, hin, hi1, HI', hw5⟩ := hcut
              subst hw5
              clear HT
              have HEM : Hid (esM (insM em x i i') = insE (esM em) x.1) := by
                refine esM_ins (by rw [← HN.out]; exact hi) (fun j hj => by rw [← HXT.out]; exact HLE.out j hj) (fun hlt => ?_) (by rw [← HN.out, ← HXT.out]; exact HI'.out)
                rw [← HN.out] at hlt
                rw [← HXT.out]
                have h2 : ¬ (lessB (em.getD i default).1.tx xt = true) := fun h => HGO.out ⟨hlt, h⟩
                simpa using h2
              obtain ⟨pre, hpre⟩ : ∃ l, l = em.take i ++ [x] := ⟨_, rfl⟩
              have HPRE : Hid (pre = em.take i ++ [x]) := hpre
              rw [← hpre] at HO4
              clear hpre
              go_wp2
              go_loopw [5, 6] (fun v iv wr => ∃ k : Nat, i' ≤ k ∧ k ≤ n ∧ iv = .int .i64 (k : Nat) ∧ Below (w.heap.size + 1) W wr ∧ Hid (wr.ownsRow (w.heap.size + 1) 63 2 v (i + 1 + (k - i')) (emC (pre ++ (em.drop i').take (k - i'))))) (fun _ iv _ => n - (intOf iv).toNat)
              case atStart => exact ⟨i', Nat.le_refl _, hin, rfl, HB4.out, by
                show World.ownsRow _ _ _ _ _ _ _
                rw [Nat.sub_self, List.take_zero, List.append_nil]
                exact HO4.out⟩
              case round =>
                rename World => ws
                obtain ⟨k, hk1, hk2, rfl, hbs, HOS⟩ := hrel
                have hzs : w.heap.size + 1 ≤ ws.heap.size := by have := hbs.size; omega
                obtain ⟨sa, sc, hv⟩ := ownC_shape HOS.out
                subst hv
                by_cases hlt : k < n
                · have hlt' : k < em.length := by rw [← HN.out]; exact hlt
                  have HBS : Hid (Below w.heap.size w ws) := HB0.out.trans (hbs.mono (by omega))
                  have hL := HL.out ws HBS.out
                  have ha := hL.addr (by omega)
                  subst ha
                  have heb := hL.lt (by omega)
                  have t0 := hL.text k hlt'
                  have t1 := hL.list k hlt'
                  obtain ⟨ya, yn, yc, hs⟩ := HSL.out (em.getD k default) (by rw [getD_at hlt']; exact List.getElem_mem hlt')
                  have HYE : Hid (emC [em.getD k default] = [.string (em.getD k default).1.tx, .slice ya yn yc]) := by show _ = _; rw [← hs]; rfl
                  rw [hs] at t1
                  have HDT : Hid ((em.drop i').take (k + 1 - i') = (em.drop i').take (k - i') ++ [em.getD k default]) := drop_take_snoc em i' k hk1 hlt'
                  generalize (em.getD k default).1.tx = yt at t0 HYE
                  clear hs hlt' hL
                  go_wp2_with (first
                    | (at_builtin; refine wpList_append_lies _ (by rfl) (.tmp 54) (.tmp 59) 26 (by rfl) (w.heap.size + 1) 63 i0 (.agg #[.string ByteArray.empty, .slice none 0 0]) 2 40 Tryz.underlying26 hi0 hq0 hq1 hq2 rfl (by omega) _ (i + 1 + (k - i')) _ (by rfl) (HOS.out.alloc _) ⟨ws.heap.size, 0, none⟩ 1 1 [.string yt, .slice ya yn yc] (by rfl) (by rfl) ?d1 ?d2 (by omega) ?d3 ?d5 ?d4 (ws.heap.size + 1) (by simp) ?_))
                  any_goals first
                    | exact newC2 _ rfl _ _ _
                    | exact ⟨rfl, rfl⟩
                    | (intro u hu; simp at hu; rcases hu with rfl | rfl <;> rfl)
                    | (unfold maxLen; omega)
                    | omega
                    | (simp; omega)
                  · intro g6 cap6 w6 hown6 hgrow6 _ _
                    have HB6 : Hid (Below (w.heap.size + 1) W w6) := ownC_grown_below (hbs.alloc (by omega) _) (by simp; omega) (HOS.out.alloc _) (Nat.le_refl _) hgrow6
                    have hnum : i + 1 + (k - i') + 1 = i + 1 + (k + 1 - i') := by omega
                    have HO6 : Hid (w6.ownsRow (w.heap.size + 1) 63 2 (.slice (some ⟨g6, 0, none⟩) (i + 1 + (k - i') + 1) cap6) (i + 1 + (k + 1 - i')) (emC (pre ++ (em.drop i').take (k + 1 - i')))) := by
                      show World.ownsRow _ _ _ _ _ _ _
                      rw [HDT.out, ← List.append_assoc, emC_app _ [em.getD k default], HYE.out, ← hnum]
                      exact hown6
                    clear hown6 hgrow6 t0 t1 hnum
                    go_wp2
                    go_roundw
                    case rel => exact ⟨k + 1, by omega, by omega, by go_num, HB6.out, HO6⟩
                    case measure => simp [intOf]; omega
                · have hke : k = n := by omega
                  have HFIN : Hid (i + 1 + (k - i') = (insM em x i i').length ∧ esM (insM em x i i') = insE (esM em) x.1 ∧ (∀ y ∈ insM em x i i', y = x ∨ y ∈ em) ∧ ws.ownsRow w.heap.size 63 2 (.slice sa (i + 1 + (k - i')) sc) (i + 1 + (k - i')) (emC (insM em x i i'))) := by
                    have hnl := HN.out
                    refine ⟨?_, HEM.out, fun y hy => insM_mem hy, ?_⟩
                    · unfold insM
                      simp
                      omega
                    · have ho := HOS.out
                      have hall : (em.drop i').take (k - i') = em.drop i' := List.take_of_length_le (by rw [List.length_drop]; omega)
                      have hins : insM em x i i' = pre ++ em.drop i' := by rw [HPRE.out]; rfl
                      rw [hins, ← hall]
                      exact ownC_base ho (by omega)
                  have HBF : Hid (Below w.heap.size w ws) := HB0.out.trans (hbs.mono (by omega))
                  go_wp2
                  go_ret
                  exact ⟨_, _, _, _, rfl, HFIN, HBF.out⟩

end Go.Proofs.YtpclldccjpncdabGreat

namespace Go.Proofs.YtpclldccjpncdabGreat
open Go.RowKit

/-- the nodes of a text, by entries in whatever order -/
noncomputable def numsW (L : Lay) (s : ByteArray) (q : Nat) : List Int := (List.range q).flatMap fun j => (List.range (L.k (pidx L.m L.tx s j))).map fun i => L.z (pidx L.m L.tx s j) i
theorem numsW_succ (L : Lay) (s : ByteArray) (q : Nat) : numsW L s (q + 1) = numsW L s q ++ (List.range (L.k (pidx L.m L.tx s q))).map fun i => L.z (pidx L.m L.tx s q) i := by simp [numsW, List.range_succ]
theorem numsW_len {L : Lay} {s : ByteArray} (hk : ∀ i, i < L.m → 1 ≤ L.k i ∧ L.k i ≤ 4) : ∀ q, (∀ j, j < q → 0 < lenAt L.m L.tx s (pos L.m L.tx s j)) → (numsW L s q).length ≤ 4 * q
  | 0, _ => by simp [numsW]
  | q + 1, h => by
    have h1 := numsW_len hk q fun j hj => h j (by omega)
    have h2 := hk _ (pidx_spec h (Nat.lt_succ_self q)).1
    rw [numsW_succ, List.length_append, List.length_map, List.length_range]
    omega


theorem numsW_nums {L : Lay} (hok : L.Ok) {s : ByteArray} : ∀ q, (∀ j, j < q → 0 < lenAt L.m L.tx s (pos L.m L.tx s j)) → numsW L s q = (nums L s q).map (fun c => ((c : Nat) : Int))
  | 0, _ => by simp [numsW, nums]
  | q + 1, h => by
    have h1 := numsW_nums hok q fun j hj => h j (by omega)
    have h2 := (pidx_spec h (Nat.lt_succ_self q)).1
    rw [numsW_succ, nums_succ, h1, List.map_append]
    congr 1
    unfold entNums
    rw [List.map_map]
    refine List.map_congr_left fun i hi => ?_
    rw [List.mem_range] at hi
    have := hok.z _ h2 i hi
    show _ = (((L.z _ i).toNat : Nat) : Int)
    omega

set_option maxRecDepth 100000 in
set_option maxHeartbeats 2000000 in
theorem numbers_any (L : Lay) (s : ByteArray) (eao : Option Addr) (cap : Nat) (w : World) (h : EntriesIn w.heap.size w eao L.m L.eb L.eo L.tx L.la L.k L.lc L.lb L.lo L.z) (hm : L.m ≤ 48) (htx : ∀ i, i < L.m → 1 ≤ (L.tx i).size ∧ (L.tx i).size ≤ 3) (hok : ∀ i, i < L.m → 1 ≤ L.k i ∧ L.k i ≤ 4) (hs : s.size ≤ 24) :
    Calls Tryz.prog 99 #[.slice eao L.m cap, .string s] w fun e w' => ∃ q, Cut L.m L.tx s q ∧ Below w.heap.size w w' ∧
      ((pos L.m L.tx s q = s.size ∧ ∃ ao c, e = .returned (.tuple #[.slice ao (numsW L s q).length c, .bool true]) ∧ Hid (w'.ownsRow w.heap.size 3 1 (.slice ao (numsW L s q).length c) (numsW L s q).length ((numsW L s q).map (Value.int .i64)))) ∨
       (pos L.m L.tx s q ≠ s.size ∧ e = .returned (.tuple #[.slice none 0 0, .bool false]))) := by
  have HIN : Hid (EntriesIn w.heap.size w eao L.m L.eb L.eo L.tx L.la L.k L.lc L.lb L.lo L.z) := h
  have HOK : Hid (∀ i, i < L.m → 1 ≤ L.k i ∧ L.k i ≤ 4) := hok
  have HTX : Hid (∀ i, i < L.m → 1 ≤ (L.tx i).size ∧ (L.tx i).size ≤ 3) := htx
  clear h hok htx
  obtain ⟨i0, hi0, hq0, hq1, hq2⟩ := info_parts infoInt
  go_enter Tryz.func99, Tryz.ntmps99
  go_wp2_with fail
  refine (cut_in L.m _ _ _ _ L.tx L.la L.k L.lc L.lb L.lo L.z s _ hm (by omega) HTX.out HIN.out).mono ?_
  rintro e w2 ⟨q, hq, hb2, hor⟩
  have hq1' := pos_ge q hq.go
  have hq2' := pos_le L.m L.tx s q
  have HQ : Hid (Cut L.m L.tx s q) := hq
  have hqs : q ≤ 24 := by omega
  clear hq hq1' hq2'
  rcases hor with ⟨hp, vo, vc, gv, rfl, hein⟩ | ⟨hp, rfl⟩
  · have HFI : Hid (EntriesIn w2.heap.size w2 vo q gv 0 (fun j => L.tx (pidx L.m L.tx s j)) (fun j => L.la (pidx L.m L.tx s j)) (fun j => L.k (pidx L.m L.tx s j)) (fun j => L.lc (pidx L.m L.tx s j)) (fun j => L.lb (pidx L.m L.tx s j)) (fun j => L.lo (pidx L.m L.tx s j)) (fun j => L.z (pidx L.m L.tx s j))) := hein
    have HP : Hid (pos L.m L.tx s q = s.size) := hp
    clear hein hp
    go_wp2
    go_loopw [8, 9] (fun v iv wr => ∃ i : Nat, i ≤ q ∧ iv = .int .i64 i ∧ Below w2.heap.size w2 wr ∧ wr.ownsRow w2.heap.size 3 1 v (numsW L s i).length ((numsW L s i).map (Value.int .i64))) (fun _ iv _ => q - (intOf iv).toNat)
    case atStart => exact ⟨0, Nat.zero_le _, rfl, Below.refl _ _, World.ownsRow_nil _ _ _ _⟩
    case round =>
      obtain ⟨i, hi, rfl, hbel, hown⟩ := hrel
      have HOWN : Hid (wr.ownsRow w2.heap.size 3 1 _ (numsW L s i).length ((numsW L s i).map (Value.int .i64))) := hown
      clear hown
      have hsz := hbel.size
      by_cases hlt : i < q
      · have ha := HFI.out.addr (by omega)
        subst ha
        have cl := cellTo hbel (HFI.out.list i hlt) (HFI.out.lt (by omega))
        simp only [Nat.zero_add] at cl
        obtain ⟨e, he⟩ : ∃ e, e = pidx L.m L.tx s i := ⟨_, rfl⟩
        have hem : e < L.m := by rw [he]; exact (pidx_spec HQ.out.go hlt).1
        have HSUC : Hid (numsW L s (i + 1) = numsW L s i ++ (List.range (L.k e)).map fun j => L.z e j) := by
          show _ = _
          rw [he]
          exact numsW_succ L s i
        have hke := HOK.out e hem
        have hnz : (numsW L s i).length ≤ 4 * i := numsW_len HOK.out i (fun j hj => HQ.out.go j (by omega))
        rw [← he] at cl
        clear he
        have hbw := below_then hb2 hbel
        have HI : Hid (IntsIn w.heap.size w (L.la e) (L.k e) (L.lb e) (L.lo e) (L.z e)) := HIN.out.ints e hem
        rw [HI.out.addr (by omega)] at cl
        have HNW : Hid (∀ (j : Nat) (u : Value), ((List.range (L.k e)).map fun j => Value.int .i64 (L.z e j))[j]? = some u → wr.cell? ((⟨L.lb e, L.lo e, none⟩ : Addr).add j) = some u) := fun j u hj => by
          have hjk : j < L.k e := by
            by_cases hx : j < L.k e
            · exact hx
            · rw [List.getElem?_eq_none (by simp; omega)] at hj; cases hj
          rw [List.getElem?_map, List.getElem?_range hjk] at hj
          simp at hj
          subst hj
          rw [Addr.add_mid]
          exact cellTo hbw (HI.out.cell j hjk) (HI.out.lt (by omega))
        go_wp2_with (first
          | (at_builtin; refine wpList_append_lies _ (by rfl) (.tmp 24) (.tmp 29) 61 (by rfl) w2.heap.size 3 i0 (.int .i64 0) 1 8 Tryz.underlying61 hi0 hq0 hq1 hq2 rfl (by omega) _ _ _ (by rfl) HOWN.out ⟨L.lb e, L.lo e, none⟩ (L.k e) (L.lc e) ((List.range (L.k e)).map fun j => Value.int .i64 (L.z e j)) (by rfl) ?c0 HNW.out ?c2 (by omega) ?c3 ?c5 (by omega) wr.heap.size rfl ?_))
        case c0 => simp
        case c2 => intro u hu; simp at hu; obtain ⟨_, _, rfl⟩ := hu; rfl
        case c3 => unfold maxLen; omega
        case c5 => omega
        · intro gv2 cap2 w3 hown2 hgrow _ _
          have HBN : Hid (Below w2.heap.size w2 w3) := grown_below hbel hsz HOWN.out (Nat.le_refl _) hgrow
          have ho : w3.ownsRow w2.heap.size 3 1 (.slice (some ⟨gv2, 0, none⟩) ((numsW L s i).length + L.k e) cap2) (numsW L s (i + 1)).length ((numsW L s (i + 1)).map (Value.int .i64)) := by
            rw [HSUC.out, List.length_append, List.map_append, List.map_map, List.length_map, List.length_range]
            exact hown2
          have HO2 : Hid _ := ho
          clear hown2 hgrow ho
          go_wp2
          go_roundw
          case rel => exact ⟨i + 1, by omega, by go_num, HBN.out, HO2.out⟩
          case measure => simp [intOf]; omega
      · have hie : i = q := by omega
        subst hie
        obtain ⟨ao', cap', _, hv, _⟩ := own_cells HOWN.out
        subst hv
        have HNN : Hid (wr.ownsRow w.heap.size 3 1 (.slice ao' (numsW L s i).length cap') (numsW L s i).length ((numsW L s i).map (Value.int .i64))) := by
          obtain ⟨h1, h2⟩ := HOWN.out
          rcases h2 with h2 | ⟨g, cap, cur, hv, hg, r⟩
          · exact ⟨h1, .inl h2⟩
          · exact ⟨h1, .inr ⟨g, cap, cur, hv, by have := hb2.size; omega, r⟩⟩
        go_wp2
        go_ret2
        exact ⟨i, HQ.out, below_then hb2 hbel, .inl ⟨HP.out, _, _, rfl, HNN⟩⟩
  · go_wp2
    go_ret2
    exact ⟨q, HQ.out, hb2, .inr ⟨hp, rfl⟩⟩

set_option maxRecDepth 100000 in
set_option maxHeartbeats 2000000 in
theorem nodesOf_any (L : Lay) (s : ByteArray) (w : World) (h : L.In w.heap.size w) (hok : L.Ok) (hs : s.size ≤ 24) :
    Calls Tryz.prog 72 #[.agg #[.slice L.na L.n L.nc, .slice L.ea L.m L.ec], .string s] w fun e w' => ∃ q, Cut L.m L.tx s q ∧ Below w.heap.size w w' ∧
      ((pos L.m L.tx s q = s.size ∧ ∃ ao cap b, e = .returned (.tuple #[.slice ao (nums L s q).length cap, .bool true]) ∧ NodesIn w'.heap.size w' ao (nums L s q).length b 0 (fun i => L.p ((nums L s q).getD i 0)) (fun i => L.s ((nums L s q).getD i 0)) (fun i => L.t ((nums L s q).getD i 0))) ∨
       (pos L.m L.tx s q ≠ s.size ∧ e = .returned (.tuple #[.slice none 0 0, .bool false]))) := by
  have HL : Hid (∀ w', Below w.heap.size w w' → L.In w'.heap.size w') := fun w' hb => h.later hb
  have HIN : Hid (L.In w.heap.size w) := h
  have hm := hok.m
  have hn48 := hok.n
  have HOK : Hid (L.Ok) := hok
  clear h hok
  obtain ⟨i0, hi0, hq0, hq1, hq2⟩ := info_parts infoNode
  go_enter Tryz.func72, Tryz.ntmps72
  go_wp2_with fail
  refine (numbers_any L s _ _ _ (HL.out _ (below_one _)).entries hm HOK.out.tx HOK.out.k hs).mono ?_
  rintro e w2 ⟨q, hq, hb2, hor⟩
  have hq1' := pos_ge q hq.go
  have hq2' := pos_le L.m L.tx s q
  have HQ : Hid (Cut L.m L.tx s q) := hq
  have hqs : q ≤ 24 := by omega
  have HBW : Hid (Below w.heap.size w w2) := below_then (below_one _) hb2
  obtain ⟨hc2, hf2⟩ := bcell hb2
  have c0 := hc2 w.heap.size 0 (by simp)
  have c0' : w2.cell? ⟨w.heap.size, 0, none⟩ = some (.slice L.na L.n L.nc) := by rw [c0]; go_simp
  have hz2 : w.heap.size < w2.heap.size := by have := hb2.size; simp at this; omega
  have HNE : Hid (numsW L s q = (nums L s q).map (fun c => ((c : Nat) : Int))) := numsW_nums HOK.out q hq.go
  have HLT : Hid (∀ c ∈ nums L s q, c < L.n) := nums_lt HOK.out q hq.go
  have hnl : (nums L s q).length ≤ 96 := by have := nums_len HOK.out q hq.go; omega
  clear hq hq1' hq2' hc2 hf2 hb2 c0
  rcases hor with ⟨hp, vo, vc, rfl, hown⟩ | ⟨hp, rfl⟩
  · have hwl : (numsW L s q).length = (nums L s q).length := by rw [HNE.out, List.length_map]
    have hown' := hown.out
    rw [hwl] at hown' ⊢
    obtain ⟨N, hN⟩ : ∃ N, N = nums L s q := ⟨_, rfl⟩
    rw [HNE.out, ← hN] at hown'
    rw [← hN] at hnl HLT ⊢
    obtain ⟨_, _, gv, hv, ha0, hc0⟩ := own_cells hown'
    injection hv with hv1 _ hv3
    subst hv1
    subst hv3
    have HNN : Hid (N = nums L s q) := hN
    have HP : Hid (pos L.m L.tx s q = s.size) := hp
    have HC0 : Hid (w2.cell? ⟨w.heap.size, 0, none⟩ = some (.slice L.na L.n L.nc)) := c0'
    have HNA : Hid (0 < N.length → vo = some ⟨gv, 0, none⟩ ∧ gv < w2.heap.size) := fun h0 => ⟨(ha0 h0).1, (ha0 h0).2.1⟩
    have HNC : Hid (∀ i, i < N.length → w2.cell? ⟨gv, i, none⟩ = some (.int .i64 ((N.getD i 0 : Nat) : Int))) := fun i hi => by
      have := hc0 i (.int .i64 ((N.getD i 0 : Nat) : Int)) (by omega) (by simp [List.getD, List.getElem?_eq_getElem hi])
      simpa using this
    clear hp c0' hown hown' ha0 hc0 hwl HNE hN
    obtain ⟨n, hn⟩ : ∃ n, n = N.length := ⟨_, rfl⟩
    have HN : Hid (n = N.length) := hn
    rw [← hn] at hnl HNA HNC ⊢
    clear hn
    go_wp2
    go_loopw [8, 9] (fun v iv wr => ∃ i : Nat, i ≤ n ∧ iv = .int .i64 i ∧ Below w2.heap.size w2 wr ∧ wr.ownsRow w2.heap.size 65 3 v i (nodesC L (N.take i))) (fun _ iv _ => n - (intOf iv).toNat)
    case atStart => exact ⟨0, Nat.zero_le _, rfl, Below.refl _ _, World.ownsRow_nil _ _ _ _⟩
    case round =>
      rename World => wi
      obtain ⟨i, hi, rfl, hbi, hown⟩ := hrel
      have HOWI : Hid (wi.ownsRow w2.heap.size 65 3 _ i (nodesC L (N.take i))) := hown
      clear hown
      have hsi := hbi.size
      by_cases hjk : i < n
      · have hjl : i < N.length := by have := HN.out; omega
        obtain ⟨c, hc⟩ : ∃ c : Nat, c = N.getD i 0 := ⟨_, rfl⟩
        have hcm : c ∈ N := by rw [hc, List.getD_eq_getElem?_getD, List.getElem?_eq_getElem hjl]; exact List.getElem_mem hjl
        have hcn : c < L.n := HLT.out c hcm
        have HTK : Hid (N.take (i + 1) = N.take i ++ [c]) := by
          show _ = _
          rw [take_snoc_n N i hjl, hc]
        have z0 := cellTo hbi (HNC.out i hjk) (HNA.out (by omega)).2
        rw [← hc] at z0
        have hva := (HNA.out (by omega)).1
        subst hva
        have hbw := below_then HBW.out hbi
        have hnb := HIN.out.nodes.lt (by omega)
        have n0 := cellTo hbw (HIN.out.nodes.p c hcn) hnb
        have n1 := cellTo hbw (HIN.out.nodes.s c hcn) hnb
        have n2 := cellTo hbw (HIN.out.nodes.t c hcn) hnb
        have b0 := cellTo hbi HC0.out (by show w.heap.size < _; omega)
        rw [HIN.out.nodes.addr (by omega)] at b0
        have r1 : (c : Int) < (L.n : Int) := by omega
        have r2 : (0 : Int) ≤ (c : Int) := by omega
        clear hc hcm hjl
        go_wp2
        go_region_law ((refine step_append_lies _ (by rfl) (.tmp 25) (.tmp 34) 25 (by rfl) w2.heap.size 65 i0 (.agg #[.int .i64 0, .int .i64 0, .int .i64 0]) 3 24 Tryz.underlying25 hi0 hq0 hq1 hq2 rfl (by omega) _ i _ (by rfl) (HOWI.out.alloc _).drew ⟨wi.heap.size, 0, none⟩ 1 1 [.int .i64 (L.p c), .int .i64 (L.s c), .int .i64 (L.t c)] (by rfl) (by rfl) (new_three _ _ _ _ _) (by intro u hu; simp at hu; rcases hu with rfl | rfl | rfl <;> rfl) (by omega) (by unfold maxLen; omega) (by omega) (by simp; omega) (wi.heap.size + 1) (by simp) ?_; intro gv2 cap2 w3 hown2 hgrow hat2 hgv2))
        all_goals
          have HBN : Hid (Below w2.heap.size w2 w3) := grown_below (hbi.alloc hsi _).drew (by simp; omega) (HOWI.out.alloc _).drew (Nat.le_refl _) hgrow
          have ho := hown2
          rw [← nodesC_snoc, ← HTK.out] at ho
          have HO2 : Hid (w3.ownsRow w2.heap.size 65 3 (.slice (some ⟨gv2, 0, none⟩) (i + 1) cap2) (i + 1) (nodesC L (N.take (i + 1)))) := ho
          clear hown2 hgrow ho hat2 hgv2 z0 n0 n1 n2 b0
          go_wp2
          go_roundw
          case rel => exact ⟨i + 1, by omega, by go_num, HBN.out, HO2.out⟩
          case measure => simp [intOf]; omega
      · have hie : i = n := by omega
        subst hie
        have ho := HOWI.out
        rw [List.take_of_length_le (by have := HN.out; omega), HN.out] at ho
        obtain ⟨ao', cap', b', hv, hnn⟩ := nodes_of_own (by have := HN.out; omega) ho
        have HNN' : Hid (NodesIn wi.heap.size wi ao' N.length b' 0 (fun j => L.p (N.getD j 0)) (fun j => L.s (N.getD j 0)) (fun j => L.t (N.getD j 0))) := hnn
        clear hnn ho
        rw [← HN.out] at hv HNN'
        subst hv
        go_wp2
        go_ret2
        exact ⟨q, HQ.out, below_then HBW.out hbi, .inl ⟨HP.out, _, _, _, by rw [← HNN.out, ← HN.out]; rfl, by rw [← HNN.out, ← HN.out]; exact HNN'.out⟩⟩
  · go_wp2
    go_ret2
    exact ⟨q, HQ.out, HBW.out, .inr ⟨hp, rfl⟩⟩

end Go.Proofs.YtpclldccjpncdabGreat

namespace Go.Proofs.YtpclldccjpncdabGreat
open Go.RowKit

/-- entries as a table's -/
def layM (em : List Em) (ea : Option Addr) (ec eb eo : Nat) : Lay := { n := 0, m := (esM em).length, na := none, ea := ea, nc := 0, ec := ec, nb := 0, no := 0, eb := eb, eo := eo, p := fun _ => 0, s := fun _ => 0, t := fun _ => 0, tx := txE (esM em), la := laM em, k := kE (esM em), lc := lcM em, lb := fun i => aB (laM em i), lo := fun i => aO (laM em i), z := zE (esM em) }
theorem range_getD (l : List Int) : (List.range l.length).map (fun i => l.getD i 0) = l := by
  refine List.ext_getElem (by simp) fun i h1 h2 => ?_
  simp only [List.length_map, List.length_range] at h1
  simp [h1]
theorem numsW_Q (em : List Em) (ea : Option Addr) (ec eb eo : Nat) (s : ByteArray) : ∀ q, (∀ j, j < q → 0 < lenAt (esM em).length (txE (esM em)) s (pos (esM em).length (txE (esM em)) s j)) → numsW (layM em ea ec eb eo) s q = numsQ (esM em) s q
  | 0, _ => rfl
  | q + 1, h => by
    have ih := numsW_Q em ea ec eb eo s q fun j hj => h j (by omega)
    have ht := lenAt_text (h q (by omega))
    have hq : numsQ (esM em) s (q + 1) = numsQ (esM em) s q ++ look (esM em) (piece (esM em).length (txE (esM em)) s q) := by simp [numsQ, List.range_succ]
    rw [numsW_succ, ih, hq]
    congr 1
    rw [piece, look_idx ht]
    show (List.range ((esM em).getD (pidx (esM em).length (txE (esM em)) s q) default).zs.length).map (fun i => ((esM em).getD (pidx (esM em).length (txE (esM em)) s q) default).zs.getD i 0) = _
    rw [range_getD]
    rfl

theorem numbersE_any (em : List Em) (ea : Option Addr) (ec eb eo : Nat) (s : ByteArray) (w : World) (h : EmIn w.heap.size w ea eb eo em) (hm : em.length ≤ 48) (htx : ∀ e ∈ esM em, (1 ≤ e.tx.size ∧ e.tx.size ≤ 3) ∧ 1 ≤ e.zs.length ∧ e.zs.length ≤ 4) (hs : s.size ≤ 24) :
    Calls Tryz.prog 99 #[.slice ea em.length ec, .string s] w fun e w' => Below w.heap.size w w' ∧
      ((∃ l ao c, numsE (esM em) s = some l ∧ e = .returned (.tuple #[.slice ao l.length c, .bool true]) ∧ Hid (w'.ownsRow w.heap.size 3 1 (.slice ao l.length c) l.length (l.map (Value.int .i64)))) ∨
       (numsE (esM em) s = none ∧ e = .returned (.tuple #[.slice none 0 0, .bool false]))) := by
  have hl : (esM em).length = em.length := List.length_map _
  have hE := h.entries (by omega)
  have hin : ∀ i, i < (esM em).length → (esM em).getD i default ∈ esM em := fun i hi => by rw [getD_at hi]; exact List.getElem_mem hi
  have hc := numbers_any (layM em ea ec eb eo) s ea ec w hE (by show (esM em).length ≤ 48; omega) (fun i hi => (htx _ (hin i hi)).1) (fun i hi => (htx _ (hin i hi)).2) hs
  have key : (layM em ea ec eb eo).m = em.length := hl
  have ka : #[Value.slice ea em.length ec, .string s] = #[Value.slice ea (layM em ea ec eb eo).m ec, .string s] := by rw [key]
  rw [ka]
  refine hc.mono ?_
  rintro e w' ⟨q, hq, hb, hor⟩
  refine ⟨hb, ?_⟩
  rcases hor with ⟨hp, ao, c, he, hown⟩ | ⟨hp, he⟩
  · rw [numsW_Q em ea ec eb eo s q hq.go] at he hown
    exact .inl ⟨numsQ (esM em) s q, ao, c, numsE_some hq hp, he, hown⟩
  · exact .inr ⟨numsE_none hq hp, he⟩

/-! the draft in memory -/
/-- all but one block stays -/
structure KeepG (g : Nat) (w w' : World) : Prop where
  size : w.heap.size ≤ w'.heap.size
  cell : ∀ b o, b < w.heap.size → b ≠ g → w'.cell? ⟨b, o, none⟩ = w.cell? ⟨b, o, none⟩
theorem KeepG.below {g : Nat} {w w' : World} (h : Below w.heap.size w w') : KeepG g w w' := ⟨h.size, fun _ _ hb _ => h.cell (by exact hb)⟩
theorem KeepG.only {g : Nat} {w w' : World} (h : OnlyRow g w w') : KeepG g w w' := ⟨Nat.le_of_eq h.size.symm, fun b o _ hn => World.cell?_of_block (w := w) (a := ⟨b, o, none⟩) (h.block b hn)⟩
theorem KeepG.trans {g : Nat} {a b c : World} (h : KeepG g a b) (k : KeepG g b c) : KeepG g a c := ⟨Nat.le_trans h.size k.size, fun x o hx hn => (k.cell x o (Nat.lt_of_lt_of_le hx h.size) hn).trans (h.cell x o hx hn)⟩
/-- all but one block stays, block by block -/
structure KeepH (g : Nat) (w w' : World) : Prop where
  size : w.heap.size ≤ w'.heap.size
  block : ∀ b, b < w.heap.size → b ≠ g → w'.heap[b]? = w.heap[b]?
theorem KeepH.below {g : Nat} {w w' : World} (h : Below w.heap.size w w') : KeepH g w w' := ⟨h.size, fun b hb _ => h.block b hb⟩
theorem KeepH.only {g : Nat} {w w' : World} (h : OnlyRow g w w') : KeepH g w w' := ⟨Nat.le_of_eq h.size.symm, fun b _ hn => h.block b hn⟩
theorem KeepH.trans {g : Nat} {a b c : World} (h : KeepH g a b) (k : KeepH g b c) : KeepH g a c := ⟨Nat.le_trans h.size k.size, fun x hx hn => (k.block x (Nat.lt_of_lt_of_le hx h.size) hn).trans (h.block x hx hn)⟩
theorem KeepH.cells {g : Nat} {w w' : World} (h : KeepH g w w') : KeepG g w w' := ⟨h.size, fun b o hb hn => World.cell?_of_block (w := w) (a := ⟨b, o, none⟩) (h.block b hb hn)⟩
theorem KeepH.row {g : Nat} {w w' : World} (h : KeepH g w w') {b : Nat} {t : TypeId} {n : Nat} {f : Nat → Value} (hr : w.rowIs b t n f) (hn : b ≠ g) : w'.rowIs b t n f := hr.of_block (h.block b hr.lt hn)
theorem IntsIn.keep {g : Nat} {w w' : World} {ao : Option Addr} {k b off : Nat} {z : Nat → Int} (h : IntsIn w.heap.size w ao k b off z) (hk : KeepG g w w') (hn : 0 < k → b ≠ g) : IntsIn w'.heap.size w' ao k b off z :=
  ⟨h.addr, fun h0 => Nat.lt_of_lt_of_le (h.lt h0) hk.size, fun i hi => (hk.cell _ _ (h.lt (by omega)) (hn (by omega))).trans (h.cell i hi), h.le⟩
theorem SlIn.keep {g : Nat} {w w' : World} {v : Value} {zs : List Int} (h : SlIn w.heap.size w v zs) (hk : KeepG g w w') (hn : 0 < zs.length → aB (slA v) ≠ g) : SlIn w'.heap.size w' v zs := ⟨h.shape, h.ints.keep hk hn⟩
theorem MemIn.keep {g : Nat} {w w' : World} {la : Option Addr} {gv : Nat} {l : List Sp} (h : MemIn w.heap.size w la gv l) (hk : KeepG g w w') (hn : 0 < l.length → gv ≠ g) : MemIn w'.heap.size w' la gv l :=
  (h.same fun h0 o => hk.cell _ o (h.lt h0) (hn h0)).mono hk.size
theorem EmIn.keep {g : Nat} {w w' : World} {ea : Option Addr} {eb eo : Nat} {em : List Em} (h : EmIn w.heap.size w ea eb eo em) (hk : KeepG g w w') (hn : 0 < em.length → eb ≠ g) (hi : ∀ x ∈ em, 0 < x.1.zs.length → aB (slA x.2) ≠ g) : EmIn w'.heap.size w' ea eb eo em :=
  ⟨h.addr, fun h0 => Nat.lt_of_lt_of_le (h.lt h0) hk.size, fun i hi => (hk.cell _ _ (h.lt (by omega)) (hn (by omega))).trans (h.text i hi), fun i hi => (hk.cell _ _ (h.lt (by omega)) (hn (by omega))).trans (h.list i hi), fun x hx => (h.ints x hx).keep hk (hi x hx)⟩
def drF (la : Option Addr) (n lc : Nat) (ea : Option Addr) (m ec : Nat) (sv : Value) (an : Int) : Nat → Value := fun j => #[Value.slice la n lc, .slice ea m ec, sv, .int .i64 an].getD j undef
structure DrA (g : Nat) (K : Wk) (em : List Em) (la ea : Option Addr) (lc ec gv eb eo : Nat) (sv : Value) (w : World) : Prop where
  row : w.rowIs g 122 4 (drF la K.ls.length lc ea em.length ec sv K.anchor)
  es : esM em = K.es
  list : MemIn w.heap.size w la gv K.ls
  ents : EmIn w.heap.size w ea eb eo em
  stem : SlIn w.heap.size w sv K.stem
  farL : 0 < K.ls.length → gv ≠ g
  farE : 0 < em.length → eb ≠ g
  farI : ∀ x ∈ em, 0 < x.1.zs.length → aB (slA x.2) ≠ g
  farS : 0 < K.stem.length → aB (slA sv) ≠ g
theorem DrA.below {g : Nat} {K : Wk} {em : List Em} {la ea : Option Addr} {lc ec gv eb eo : Nat} {sv : Value} {w w' : World} (h : DrA g K em la ea lc ec gv eb eo sv w) (hb : Below w.heap.size w w') : DrA g K em la ea lc ec gv eb eo sv w' :=
  ⟨h.row.of_block (hb.block _ h.row.lt), h.es, h.list.keep (.below hb) h.farL, h.ents.keep (.below hb) h.farE h.farI, h.stem.keep (.below hb) h.farS, h.farL, h.farE, h.farI, h.farS⟩
theorem DrA.drew {g : Nat} {K : Wk} {em : List Em} {la ea : Option Addr} {lc ec gv eb eo : Nat} {sv : Value} {w : World} (h : DrA g K em la ea lc ec gv eb eo sv w) : DrA g K em la ea lc ec gv eb eo sv w.drew := h.below (Below.refl _ _).drew
theorem row4F {w : World} {g : Nat} {t : TypeId} {f : Nat → Value} (h : w.rowIs g t 4 f) : (w.cell? ⟨g, 0, none⟩ = some (f 0) ∧ w.cell? ⟨g, 1, none⟩ = some (f 1) ∧ w.cell? ⟨g, 2, none⟩ = some (f 2) ∧ w.cell? ⟨g, 3, none⟩ = some (f 3)) ∧ (w.frozen? ⟨g, 0, none⟩ = false ∧ w.frozen? ⟨g, 1, none⟩ = false ∧ w.frozen? ⟨g, 2, none⟩ = false ∧ w.frozen? ⟨g, 3, none⟩ = false) :=
  ⟨⟨h.cell (i := 0) (by omega), h.cell (i := 1) (by omega), h.cell (i := 2) (by omega), h.cell (i := 3) (by omega)⟩, h.frozen 0, h.frozen 1, h.frozen 2, h.frozen 3⟩
/-- the draft, wherever its lists lie -/
def Dr (g : Nat) (K : Wk) (w : World) : Prop := ∃ (em : List Em) (la ea : Option Addr) (lc ec gv eb eo : Nat) (sv : Value), DrA g K em la ea lc ec gv eb eo sv w

end Go.Proofs.YtpclldccjpncdabGreat
