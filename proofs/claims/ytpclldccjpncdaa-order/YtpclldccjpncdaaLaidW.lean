import Derived.Test.YtpclldccjpncdaaEnts
import Derived.Test.YtpclldccjpncdaaCutX
namespace Go.Proofs.Ytpclldccjpncdaa
open Go.RowKit

/-- what lies in a row of entries of one's own -/
theorem ents_cells {w : World} {base : Nat} {v : Value} {es : List Ent} {n : Nat} (hn : es.length = n) (ho : w.ownsRow base 64 2 v n (flat es)) :
    ∃ vo vc gv, v = .slice vo n vc ∧ (0 < n → vo = some ⟨gv, 0, none⟩ ∧ gv < w.heap.size ∧ base ≤ gv) ∧ ∀ i e, es[i]? = some e → w.cell? ⟨gv, i * 2, none⟩ = some (.string e.tx) ∧ w.cell? ⟨gv, i * 2 + 1, none⟩ = some e.list := by
  obtain ⟨vo, vc, gv, h1, h2, h3⟩ := own_cells ho
  refine ⟨vo, vc, gv, h1, h2, fun i e he => ?_⟩
  obtain ⟨hi, _⟩ := List.getElem?_eq_some_iff.1 he
  obtain ⟨f1, f2⟩ := flat_at es i e he
  exact ⟨h3 _ _ (by omega) f1, h3 _ _ (by omega) f2⟩

theorem own_base {w : World} {base base' : Nat} {e : TypeId} {size : Nat} {v : Value} {k : Nat} {xs : List Value} (h : w.ownsRow base e size v k xs) (hb : base' ≤ base) : w.ownsRow base' e size v k xs := by
  obtain ⟨h1, h2⟩ := h
  refine ⟨h1, ?_⟩
  rcases h2 with h2 | ⟨g, cap, cur, hv, hg, r⟩
  · exact .inl h2
  · exact .inr ⟨g, cap, cur, hv, Nat.le_trans hb hg, r⟩
theorem own_add {w : World} {base q : Nat} {v : Value} {out : List Ent} {et : ByteArray} {el : Value} {e : Ent} (h : w.ownsRow base 64 2 v (q + 1) (flat out ++ [.string et, el])) (ht : et = e.tx) (hl : el = e.list) : w.ownsRow base 64 2 v (q + 1) (flat (out ++ [e])) := by
  rw [flat_app, flat_one, ← ht, ← hl]; exact h

set_option maxRecDepth 100000 in
set_option maxHeartbeats 1000000 in
theorem laid_any (x : Ent) (es : List Ent) (n : Nat) (v : Value) (base : Nat) (w : World) (hn : es.length = n) (hm : n ≤ 40) (ho : w.ownsRow base 64 2 v n (flat es)) :
    Calls Try.prog 28 #[v, .agg #[.string x.tx, x.list]] w fun e w' => (∃ v', e = .returned v' ∧ w'.ownsRow w.heap.size 64 2 v' (layL x es).length (flat (layL x es))) ∧ Below w.heap.size w w' := by
  obtain ⟨vo, vc, gv, rfl, hadr, hcs⟩ := ents_cells hn ho
  have HCS : Hid (∀ i e, es[i]? = some e → w.cell? ⟨gv, i * 2, none⟩ = some (.string e.tx) ∧ w.cell? ⟨gv, i * 2 + 1, none⟩ = some e.list) := hcs
  have HAD : Hid (0 < n → vo = some ⟨gv, 0, none⟩ ∧ gv < w.heap.size ∧ base ≤ gv) := hadr
  have HN : Hid (es.length = n) := hn
  clear hcs hadr ho hn
  obtain ⟨xl, hxl⟩ : ∃ xl, xl = x.list := ⟨_, rfl⟩
  obtain ⟨xt, hxt⟩ : ∃ xt, xt = x.tx := ⟨_, rfl⟩
  have HXL : Hid (xl = x.list) := hxl
  have HXT : Hid (xt = x.tx) := hxt
  rw [← hxl, ← hxt]
  have hone : xl.oneCell' = true := by rw [hxl]; rfl
  have HONE : Hid (xl.oneCell' = true) := hone
  clear hxl hxt hone
  obtain ⟨i0, hi0, hq0, hq1, hq2⟩ := info_parts info57
  go_enter Try.func28, Try.ntmps28
  go_wp2
  go_loopw [5, 6, 7] (fun v d iv wr => ∃ (i : Nat) (out : List Ent) (q : Nat) (b : Bool), i ≤ n ∧ out.length = q ∧ d = .bool b ∧ iv = .int .i64 i ∧ LaidTo x es i b out ∧ Below (w.heap.size + 1) (w.alloc (.cells #[.string xt, xl] 64)) wr ∧ wr.ownsRow (w.heap.size + 1) 64 2 v q (flat out)) (fun _ _ iv _ => n - (intOf iv).toNat)
  case atStart => exact ⟨0, [], 0, false, Nat.zero_le _, rfl, rfl, rfl, laidTo_start x es, Below.refl _ _, World.ownsRow_nil _ _ _ _⟩
  case round =>
    obtain ⟨i, out, q, b, hi, hql, rfl, rfl, hto, hbel, hown⟩ := hrel
    have HTO : Hid (LaidTo x es i b out) := hto
    have HOWN : Hid (wr.ownsRow (w.heap.size + 1) 64 2 _ q (flat out)) := hown
    have HQL : Hid (out.length = q) := hql
    have hqn : q ≤ 41 := by have := laidTo_len hto; have := HN.out; omega
    have hsz : w.heap.size + 1 ≤ wr.heap.size := by have := hbel.size; simpa using this
    have x0 : wr.cell? ⟨w.heap.size, 0, none⟩ = some (.string xt) := cellTo hbel ((row_new w #[.string xt, xl] 64 2 rfl).cell (i := 0) (by omega)) (Nat.lt_succ_self _)
    have x1 : wr.cell? ⟨w.heap.size, 1, none⟩ = some xl := cellTo hbel ((row_new w #[.string xt, xl] 64 2 rfl).cell (i := 1) (by omega)) (Nat.lt_succ_self _)
    clear hto hown hql
    by_cases hlt : i < n
    · obtain ⟨e, he⟩ : ∃ e, es[i]? = some e := ⟨_, List.getElem?_eq_getElem (by have := HN.out; omega)⟩
      have HE : Hid (es[i]? = some e) := he
      obtain ⟨ha, hgv, _⟩ := HAD.out (by omega)
      subst ha
      have c0 := cellTo hbel (((below_one (w := w) (.cells #[.string xt, xl] 64)).cell (by exact hgv)).trans (HCS.out i e he).1) (by show gv < _; omega)
      have c1 := cellTo hbel (((below_one (w := w) (.cells #[.string xt, xl] 64)).cell (by exact hgv)).trans (HCS.out i e he).2) (by show gv < _; omega)
      clear he
      obtain ⟨el, hel⟩ : ∃ el, el = e.list := ⟨_, rfl⟩
      obtain ⟨et, het⟩ : ∃ et, et = e.tx := ⟨_, rfl⟩
      rw [← hel] at c1
      rw [← het] at c0
      have HEL : Hid (el = e.list) := hel
      have HET : Hid (et = e.tx) := het
      have HON2 : Hid (el.oneCell' = true) := by show _ = _; rw [hel]; rfl
      clear hel het
      cases b
      · have d0 := Wb.cell (w := wr) (B := wr.heap.size) (by show gv < _; omega) c0
        have d1 := Wb.cell (w := wr) (B := wr.heap.size) (by exact hsz) x0
        by_cases hA : Op.bytesLess et.toList xt.toList = true
        · have HA : Hid (lessB e.tx x.tx = true) := by show _ = _; rw [← HET.out, ← HXT.out]; exact hA
          go_wp2
          refine wp_region_below wr.heap.size (by kernel_rfl) (by kernel_rfl) ?_
          repeat (go_big_quiet_step (fail))
          refine wpQuiet_nil ?_
          rintro _ ⟨y, rfl⟩
          have hy := y.below
          generalize y.val = w2 at hy
          clear d0 d1
          have hbel2 := hbel.trans (hy.mono hsz)
          have hsz2 : w.heap.size + 1 ≤ w2.heap.size := by have := hy.size; omega
          have HOWN2 : Hid (w2.ownsRow (w.heap.size + 1) 64 2 _ q (flat out)) := own_of_block HOWN.out fun b hb => hy.block b (HOWN.out.lt b hb).2
          have x02 := cellTo hy x0 (by exact hsz)
          have x12 := cellTo hy x1 (by exact hsz)
          have c02 := cellTo hy c0 (by show gv < _; omega)
          have c12 := cellTo hy c1 (by show gv < _; omega)
          clear hy x0 x1 c0 c1
          go_wp2_with (at_builtin; refine wpList_append_lies _ (by rfl) (.tmp 38) (.tmp 43) 24 (by rfl) (w.heap.size + 1) 64 i0 (.agg #[.string ByteArray.empty, .slice none 0 0]) 2 40 Try.underlying24 hi0 hq0 hq1 hq2 rfl (by omega) _ q _ (by rfl) (HOWN2.out.alloc _) ⟨w2.heap.size, 0, none⟩ 1 1 [.string et, el] (by rfl) (by rfl) ?c1 ?c2 (by omega) ?c3 ?c5 ?c4 (w2.heap.size + 1) (by simp) ?_)
          case c1 => exact new_two _ _ _ _
          case c2 => intro u hu; simp at hu; rcases hu with rfl | rfl; exact rfl; exact HON2.out
          case c3 => unfold maxLen; omega
          case c5 => omega
          case c4 => simp; omega
          intro g3 cap3 w3 hown2 hgrow _ _
          have HB3 : Hid (Below (w.heap.size + 1) (w.alloc (.cells #[.string xt, xl] 64)) w3) := (hbel2.alloc hsz2 _).grown hgrow (by simp; omega) (fun r hr => (HOWN2.out.lt r hr).1)
          have HO3 : Hid (w3.ownsRow (w.heap.size + 1) 64 2 (.slice (some ⟨g3, 0, none⟩) (q + 1) cap3) (q + 1) (flat (out ++ [e]))) := own_add hown2 HET.out HEL.out
          clear hown2 hgrow
          go_wp2
          go_roundw
          case rel => exact ⟨i + 1, out ++ [e], q + 1, false, by omega, by simp [HQL.out], rfl, by go_num, laidTo_less HTO.out HE.out HA.out, HB3.out, HO3.out⟩
          case measure => simp [intOf]; omega
        · have hA' : Op.bytesLess et.toList xt.toList = false := by simpa using hA
          have HA : Hid (lessB e.tx x.tx = false) := by show _ = _; rw [← HET.out, ← HXT.out]; exact hA'
          clear hA
          go_wp2
          refine wp_region_below wr.heap.size (by kernel_rfl) (by kernel_rfl) ?_
          repeat (go_big_quiet_step (fail))
          refine wpQuiet_nil ?_
          rintro _ ⟨y, rfl⟩
          have hy := y.below
          generalize y.val = w2 at hy
          clear d0 d1
          have hbel2 := hbel.trans (hy.mono hsz)
          have hsz2 : w.heap.size + 1 ≤ w2.heap.size := by have := hy.size; omega
          have HOWN2 : Hid (w2.ownsRow (w.heap.size + 1) 64 2 _ q (flat out)) := own_of_block HOWN.out fun b hb => hy.block b (HOWN.out.lt b hb).2
          have x02 := cellTo hy x0 (by exact hsz)
          have x12 := cellTo hy x1 (by exact hsz)
          have c02 := cellTo hy c0 (by show gv < _; omega)
          have c12 := cellTo hy c1 (by show gv < _; omega)
          clear hy x0 x1 c0 c1
          have d0 := Wb.cell (w := w2) (B := w2.heap.size) (by show gv < _; omega) c02
          have d1 := Wb.cell (w := w2) (B := w2.heap.size) (by exact hsz2) x02
          by_cases hB : (et.toList == xt.toList) = false
          · have HB : Hid (lessB x.tx e.tx = true) := by show _ = _; rw [← HET.out, ← HXT.out]; exact less_yes _ _ ⟨hA', by simpa using hB⟩
            go_wp2
            refine wp_region_below w2.heap.size (by kernel_rfl) (by kernel_rfl) ?_
            repeat (go_big_quiet_step (fail))
            refine wpQuiet_nil ?_
            rintro _ ⟨y, rfl⟩
            have hy4 := y.below
            generalize y.val = w4 at hy4
            clear d0 d1
            have hbel4 := hbel2.trans (hy4.mono hsz2)
            have hsz4 : w.heap.size + 1 ≤ w4.heap.size := by have := hy4.size; omega
            have HOWN4 : Hid (w4.ownsRow (w.heap.size + 1) 64 2 _ q (flat out)) := own_of_block HOWN2.out fun b hb => hy4.block b (HOWN2.out.lt b hb).2
            have x04 := cellTo hy4 x02 (by exact hsz2)
            have x14 := cellTo hy4 x12 (by exact hsz2)
            have c04 := cellTo hy4 c02 (by show gv < _; omega)
            have c14 := cellTo hy4 c12 (by show gv < _; omega)
            clear hy4 x02 x12 c02 c12
            go_wp2_with (at_builtin; refine wpList_append_lies _ (by rfl) (.tmp 34) (.tmp 36) 24 (by rfl) (w.heap.size + 1) 64 i0 (.agg #[.string ByteArray.empty, .slice none 0 0]) 2 40 Try.underlying24 hi0 hq0 hq1 hq2 rfl (by omega) _ q _ (by rfl) (HOWN4.out.alloc _) ⟨w4.heap.size, 0, none⟩ 1 1 [.string xt, xl] (by rfl) (by rfl) ?c1 ?c2 (by omega) ?c3 ?c5 ?c4 (w4.heap.size + 1) (by simp) ?_)
            case c1 => exact new_two _ _ _ _
            case c2 => intro u hu; simp at hu; rcases hu with rfl | rfl; exact rfl; exact HONE.out
            case c3 => unfold maxLen; omega
            case c5 => omega
            case c4 => simp; omega
            intro g3 cap3 w3 hown2 hgrow _ _
            have HB3 : Hid (Below (w.heap.size + 1) (w.alloc (.cells #[.string xt, xl] 64)) w3) := (hbel4.alloc hsz4 _).grown hgrow (by simp; omega) (fun r hr => (HOWN4.out.lt r hr).1)
            have HO3 : Hid (w3.ownsRow (w.heap.size + 1) 64 2 (.slice (some ⟨g3, 0, none⟩) (q + 1) cap3) (q + 1) (flat (out ++ [x]))) := own_add hown2 HXT.out HXL.out
            clear hown2 hgrow
            have e0 := cellTo HB3.out (((below_one (w := w) (.cells #[.string xt, xl] 64)).cell (by exact hgv)).trans (HCS.out i e HE.out).1) (by show gv < _; omega)
            have e1 := cellTo HB3.out (((below_one (w := w) (.cells #[.string xt, xl] 64)).cell (by exact hgv)).trans (HCS.out i e HE.out).2) (by show gv < _; omega)
            rw [← HET.out] at e0
            rw [← HEL.out] at e1
            have hsz3 : w.heap.size + 1 ≤ w3.heap.size := by have := HB3.out.size; simpa using this
            clear x04 x14 c04 c14
            go_wp2_with (at_builtin; refine wpList_append_lies _ (by rfl) (.tmp 38) (.tmp 43) 24 (by rfl) (w.heap.size + 1) 64 i0 (.agg #[.string ByteArray.empty, .slice none 0 0]) 2 40 Try.underlying24 hi0 hq0 hq1 hq2 rfl (by omega) _ (q + 1) _ (by rfl) (HO3.out.alloc _) ⟨w3.heap.size, 0, none⟩ 1 1 [.string et, el] (by rfl) (by rfl) ?d1 ?d2 (by omega) ?d3 ?d5 ?d4 (w3.heap.size + 1) (by simp) ?_)
            case d1 => exact new_two _ _ _ _
            case d2 => intro u hu; simp at hu; rcases hu with rfl | rfl; exact rfl; exact HON2.out
            case d3 => unfold maxLen; omega
            case d5 => omega
            case d4 => simp; omega
            intro g5 cap5 w5 hown2 hgrow _ _
            have HB5 : Hid (Below (w.heap.size + 1) (w.alloc (.cells #[.string xt, xl] 64)) w5) := (HB3.out.alloc hsz3 _).grown hgrow (by simp; omega) (fun r hr => (HO3.out.lt r hr).1)
            have HO5 : Hid (w5.ownsRow (w.heap.size + 1) 64 2 (.slice (some ⟨g5, 0, none⟩) ((q + 1) + 1) cap5) ((q + 1) + 1) (flat ((out ++ [x]) ++ [e]))) := own_add hown2 HET.out HEL.out
            clear hown2 hgrow
            go_wp2
            go_roundw
            case rel => exact ⟨i + 1, out ++ [x] ++ [e], q + 1 + 1, true, by omega, by simp [HQL.out], rfl, by go_num, laidTo_here HTO.out HE.out HA.out HB.out, HB5.out, HO5.out⟩
            case measure => simp [intOf]; omega
          · have hB' : (et.toList == xt.toList) = true := by simpa using hB
            have HB : Hid (lessB x.tx e.tx = false) := by show _ = _; rw [← HET.out, ← HXT.out]; exact less_no _ _ (.inr (by simpa using hB'))
            clear hB
            go_wp2
            refine wp_region_below w2.heap.size (by kernel_rfl) (by kernel_rfl) ?_
            repeat (go_big_quiet_step (fail))
            refine wpQuiet_nil ?_
            rintro _ ⟨y, rfl⟩
            have hy4 := y.below
            generalize y.val = w4 at hy4
            clear d0 d1
            have hbel4 := hbel2.trans (hy4.mono hsz2)
            have hsz4 : w.heap.size + 1 ≤ w4.heap.size := by have := hy4.size; omega
            have HOWN4 : Hid (w4.ownsRow (w.heap.size + 1) 64 2 _ q (flat out)) := own_of_block HOWN2.out fun b hb => hy4.block b (HOWN2.out.lt b hb).2
            have x04 := cellTo hy4 x02 (by exact hsz2)
            have x14 := cellTo hy4 x12 (by exact hsz2)
            have c04 := cellTo hy4 c02 (by show gv < _; omega)
            have c14 := cellTo hy4 c12 (by show gv < _; omega)
            clear hy4 x02 x12 c02 c12
            go_wp2_with (at_builtin; refine wpList_append_lies _ (by rfl) (.tmp 38) (.tmp 43) 24 (by rfl) (w.heap.size + 1) 64 i0 (.agg #[.string ByteArray.empty, .slice none 0 0]) 2 40 Try.underlying24 hi0 hq0 hq1 hq2 rfl (by omega) _ q _ (by rfl) (HOWN4.out.alloc _) ⟨w4.heap.size, 0, none⟩ 1 1 [.string et, el] (by rfl) (by rfl) ?c1 ?c2 (by omega) ?c3 ?c5 ?c4 (w4.heap.size + 1) (by simp) ?_)
            case c1 => exact new_two _ _ _ _
            case c2 => intro u hu; simp at hu; rcases hu with rfl | rfl; exact rfl; exact HON2.out
            case c3 => unfold maxLen; omega
            case c5 => omega
            case c4 => simp; omega
            intro g3 cap3 w3 hown2 hgrow _ _
            have HB3 : Hid (Below (w.heap.size + 1) (w.alloc (.cells #[.string xt, xl] 64)) w3) := (hbel4.alloc hsz4 _).grown hgrow (by simp; omega) (fun r hr => (HOWN4.out.lt r hr).1)
            have HO3 : Hid (w3.ownsRow (w.heap.size + 1) 64 2 (.slice (some ⟨g3, 0, none⟩) (q + 1) cap3) (q + 1) (flat (out ++ [e]))) := own_add hown2 HET.out HEL.out
            clear hown2 hgrow
            go_wp2
            go_roundw
            case rel => exact ⟨i + 1, out ++ [e], q + 1, true, by omega, by simp [HQL.out], rfl, by go_num, laidTo_same HTO.out HE.out HA.out HB.out, HB3.out, HO3.out⟩
            case measure => simp [intOf]; omega
      · go_wp2
        refine wp_region_below wr.heap.size (by kernel_rfl) (by kernel_rfl) ?_
        repeat (go_big_quiet_step (fail))
        refine wpQuiet_nil ?_
        rintro _ ⟨y, rfl⟩
        have hy := y.below
        generalize y.val = w2 at hy
        have hbel2 := hbel.trans (hy.mono hsz)
        have hsz2 : w.heap.size + 1 ≤ w2.heap.size := by have := hy.size; omega
        have HOWN2 : Hid (w2.ownsRow (w.heap.size + 1) 64 2 _ q (flat out)) := own_of_block HOWN.out fun b hb => hy.block b (HOWN.out.lt b hb).2
        have x02 := cellTo hy x0 (by exact hsz)
        have x12 := cellTo hy x1 (by exact hsz)
        have c02 := cellTo hy c0 (by show gv < _; omega)
        have c12 := cellTo hy c1 (by show gv < _; omega)
        clear hy x0 x1 c0 c1
        go_wp2_with (at_builtin; refine wpList_append_lies _ (by rfl) (.tmp 38) (.tmp 43) 24 (by rfl) (w.heap.size + 1) 64 i0 (.agg #[.string ByteArray.empty, .slice none 0 0]) 2 40 Try.underlying24 hi0 hq0 hq1 hq2 rfl (by omega) _ q _ (by rfl) (HOWN2.out.alloc _) ⟨w2.heap.size, 0, none⟩ 1 1 [.string et, el] (by rfl) (by rfl) ?c1 ?c2 (by omega) ?c3 ?c5 ?c4 (w2.heap.size + 1) (by simp) ?_)
        case c1 => exact new_two _ _ _ _
        case c2 => intro u hu; simp at hu; rcases hu with rfl | rfl; exact rfl; exact HON2.out
        case c3 => unfold maxLen; omega
        case c5 => omega
        case c4 => simp; omega
        intro g3 cap3 w3 hown2 hgrow _ _
        have HB3 : Hid (Below (w.heap.size + 1) (w.alloc (.cells #[.string xt, xl] 64)) w3) := (hbel2.alloc hsz2 _).grown hgrow (by simp; omega) (fun r hr => (HOWN2.out.lt r hr).1)
        have HO3 : Hid (w3.ownsRow (w.heap.size + 1) 64 2 (.slice (some ⟨g3, 0, none⟩) (q + 1) cap3) (q + 1) (flat (out ++ [e]))) := own_add hown2 HET.out HEL.out
        clear hown2 hgrow
        go_wp2
        go_roundw
        case rel => exact ⟨i + 1, out ++ [e], q + 1, true, by omega, by simp [HQL.out], rfl, by go_num, laidTo_on HTO.out HE.out, HB3.out, HO3.out⟩
        case measure => simp [intOf]; omega
    · have hin : i = n := by omega
      subst hin
      cases b
      · go_wp2_with (at_builtin; refine wpList_append_lies _ (by rfl) (.tmp 47) (.tmp 49) 24 (by rfl) (w.heap.size + 1) 64 i0 (.agg #[.string ByteArray.empty, .slice none 0 0]) 2 40 Try.underlying24 hi0 hq0 hq1 hq2 rfl (by omega) _ q _ (by rfl) (HOWN.out.alloc _) ⟨wr.heap.size, 0, none⟩ 1 1 [.string xt, xl] (by rfl) (by rfl) ?c1 ?c2 (by omega) ?c3 ?c5 ?c4 (wr.heap.size + 1) (by simp) ?_)
        case c1 => exact new_two _ _ _ _
        case c2 => intro u hu; simp at hu; rcases hu with rfl | rfl; exact rfl; exact HONE.out
        case c3 => unfold maxLen; omega
        case c5 => omega
        case c4 => simp; omega
        intro g3 cap3 w3 hown2 hgrow _ _
        have HB3 : Hid (Below (w.heap.size + 1) (w.alloc (.cells #[.string xt, xl] 64)) w3) := (hbel.alloc hsz _).grown hgrow (by simp; omega) (fun r hr => (HOWN.out.lt r hr).1)
        have HO3 : Hid (w3.ownsRow (w.heap.size + 1) 64 2 (.slice (some ⟨g3, 0, none⟩) (q + 1) cap3) (q + 1) (flat (out ++ [x]))) := own_add hown2 HXT.out HXL.out
        clear hown2 hgrow
        go_wp2
        go_ret
        refine ⟨⟨_, rfl, ?_⟩, below_then (below_one _) (by simpa using HB3.out)⟩
        have hf := laidTo_end0 (HN.out ▸ HTO.out)
        rw [← hf, List.length_append, HQL.out]
        exact own_base HO3.out (by omega)
      · go_wp2
        go_ret
        refine ⟨⟨_, rfl, ?_⟩, below_then (below_one _) (by simpa using hbel)⟩
        have hf := laidTo_end1 (HN.out ▸ HTO.out)
        rw [← hf, HQL.out]
        exact own_base HOWN.out (by omega)

end Go.Proofs.Ytpclldccjpncdaa
