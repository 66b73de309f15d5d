import Derived.Test.YtpclldccjpncdabB08
namespace Go.Proofs.Ytpclldccjpncdab
open Go.RowKit

/-! the table of words -/
def wdl : Nat → List Int
  | 0 => [38]
  | 1 => [47]
  | 2 => [61]
  | 3 => [60, 60, 60]
  | 4 => [60, 60]
  | 5 => [60]
  | 6 => beN 1
  | 7 => beN 2
  | _ => beN 3
def wk : Nat → Nat
  | 0 => 1
  | 1 => 4
  | 2 => 3
  | 3 => 3
  | 4 => 3
  | 5 => 3
  | _ => 2
def wn : Nat → Nat
  | 0 => 0
  | 1 => 0
  | 2 => 0
  | 3 => 3
  | 4 => 2
  | 5 => 1
  | 6 => 1
  | 7 => 2
  | _ => 3
theorem wl_in (k : Nat) : ∀ x ∈ wdl k, 0 ≤ x ∧ x ≤ 255 := by
  unfold wdl
  split <;> first | exact beN_in | decide
theorem wl_len (k : Nat) : 1 ≤ (wdl k).length ∧ (wdl k).length ≤ 10 := by
  unfold wdl
  split <;> decide
theorem has_hasB {s : ByteArray} {i : Nat} {l : List Int} (hl : ∀ x ∈ l, 0 ≤ x ∧ x ≤ 255) (h : hasB s i (strOfNums l)) : Has s i l := by
  rw [hasB_iff, strOfNums_size] at h
  refine ⟨h.1, fun k hk => ?_⟩
  have h1 := h.2 k hk
  have h2 := bt_strS l hl k hk
  omega
def wd (k : Nat) : ByteArray := strOfNums (wdl k)
theorem wd_has {s : ByteArray} {a k : Nat} : hasB s a (wd k) ↔ Has s a (wdl k) := ⟨has_hasB (wl_in k), hasB_has (wl_in k)⟩
theorem has_one {s : ByteArray} {a : Nat} {c : Int} (h : a < s.size) (hb : (bt s a : Int) = c) : Has s a [c] := ⟨by show a + 1 ≤ _; omega, fun k hk => by
  have hk0 : k = 0 := by simp at hk; omega
  subst hk0
  simpa using hb⟩
theorem has_cons {s : ByteArray} {a : Nat} {c : Int} {l : List Int} (_h : a < s.size) (hb : (bt s a : Int) = c) (ht : Has s (a + 1) l) : Has s a (c :: l) := by
  refine ⟨by have := ht.1; rw [List.length_cons]; omega, fun k hk => ?_⟩
  cases k with
  | zero => simpa using hb
  | succ k =>
    have := ht.2 k (by simpa using hk)
    rw [show a + (k + 1) = a + 1 + k by omega]
    simpa using this
/-- the first word that stands there -/
theorem wd_first {s : ByteArray} {a k : Nat} (ha : a < s.size) (hk : k < 9) (h : hasB s a (wd k)) (hn : ∀ j, j < k → ¬ hasB s a (wd j)) : tkA s a = ⟨wk k, wn k, [], a, a + (wd k).size⟩ := by
  have hh := wd_has.1 h
  have hx : (wd k).size = (wdl k).length := by rw [wd, strOfNums_size]
  rw [hx]
  have cs : k = 0 ∨ k = 1 ∨ k = 2 ∨ k = 3 ∨ k = 4 ∨ k = 5 ∨ k = 6 ∨ k = 7 ∨ k = 8 := by omega
  rcases cs with rfl | rfl | rfl | rfl | rfl | rfl | rfl | rfl | rfl
  · have h0 : bt s a = 38 := by have := hh.head.2; omega
    unfold tkA
    rw [if_neg (by omega), if_pos h0]
    rfl
  · have h0 : bt s a = 47 := by have := hh.head.2; omega
    unfold tkA
    rw [if_neg (by omega), if_neg (by omega), if_pos h0]
    rfl
  · have h0 : bt s a = 61 := by have := hh.head.2; omega
    unfold tkA
    rw [if_neg (by omega), if_neg (by omega), if_neg (by omega), if_pos h0]
    rfl
  · have h0 : bt s a = 60 := by have := hh.head.2; omega
    have h1 : bt s (a + 1) = 60 := by have := hh.tail.head.2; omega
    have h2 : bt s (a + 2) = 60 := by have := hh.tail.tail.head.2; rw [show a + 1 + 1 = a + 2 from rfl] at this; omega
    have hl : lessN s a = 3 := by unfold lessN; rw [if_pos h1, if_pos h2]
    unfold tkA
    rw [if_neg (by omega), if_neg (by omega), if_neg (by omega), if_neg (by omega), if_pos h0, hl]
    rfl
  · have h0 : bt s a = 60 := by have := hh.head.2; omega
    have h1 : bt s (a + 1) = 60 := by have := hh.tail.head.2; omega
    have h2 : bt s (a + 2) ≠ 60 := fun h2 => hn 3 (by omega) (wd_has.2 (has_cons ha (by omega) (has_cons (by have := hh.1; simp [wdl] at this; omega) (by omega) (has_one (bt_pos (by rw [show a + 1 + 1 = a + 2 from rfl]; omega)) (by rw [show a + 1 + 1 = a + 2 from rfl]; omega)))))
    have hl : lessN s a = 2 := by unfold lessN; rw [if_pos h1, if_neg h2]
    unfold tkA
    rw [if_neg (by omega), if_neg (by omega), if_neg (by omega), if_neg (by omega), if_pos h0, hl]
    rfl
  · have h0 : bt s a = 60 := by have := hh.head.2; omega
    have h1 : bt s (a + 1) ≠ 60 := fun h1 => hn 4 (by omega) (wd_has.2 (has_cons ha (by omega) (has_one (bt_pos (by omega)) (by omega))))
    have hl : lessN s a = 1 := by unfold lessN; rw [if_neg h1]
    unfold tkA
    rw [if_neg (by omega), if_neg (by omega), if_neg (by omega), if_neg (by omega), if_pos h0, hl]
    rfl
  · have h0 : bt s a = 91 := by have := Has.head (c := 91) hh; omega
    have hl : befN s a = 1 := befN_has (by omega) (by omega) hh
    unfold tkA
    rw [if_neg (by omega), if_neg (by omega), if_neg (by omega), if_neg (by omega), if_neg (by omega), if_pos h0, hl, if_neg (by omega)]
    rfl
  · have h0 : bt s a = 91 := by have := Has.head (c := 91) hh; omega
    have hl : befN s a = 2 := befN_has (by omega) (by omega) hh
    unfold tkA
    rw [if_neg (by omega), if_neg (by omega), if_neg (by omega), if_neg (by omega), if_neg (by omega), if_pos h0, hl, if_neg (by omega)]
    rfl
  · have h0 : bt s a = 91 := by have := Has.head (c := 91) hh; omega
    have hl : befN s a = 3 := befN_has (by omega) (by omega) hh
    unfold tkA
    rw [if_neg (by omega), if_neg (by omega), if_neg (by omega), if_neg (by omega), if_neg (by omega), if_pos h0, hl, if_neg (by omega)]
    rfl
/-- no word stands there -/
theorem wd_none {s : ByteArray} {a : Nat} (ha : a < s.size) (hn : ∀ j, j < 9 → ¬ hasB s a (wd j)) : tkA s a = if (part s a).2 = a then ⟨6, 0, [], a, a + 1⟩ else ⟨5, 0, (part s a).1, a, (part s a).2⟩ := by
  have h38 : bt s a ≠ 38 := fun h => hn 0 (by omega) (wd_has.2 (has_one ha (by omega)))
  have h47 : bt s a ≠ 47 := fun h => hn 1 (by omega) (wd_has.2 (has_one ha (by omega)))
  have h61 : bt s a ≠ 61 := fun h => hn 2 (by omega) (wd_has.2 (has_one ha (by omega)))
  have h60 : bt s a ≠ 60 := fun h => hn 5 (by omega) (wd_has.2 (has_one ha (by omega)))
  unfold tkA
  rw [if_neg (by omega), if_neg h38, if_neg h47, if_neg h61, if_neg h60]
  by_cases h91 : bt s a = 91
  · have hb : befN s a = 0 := by
      unfold befN
      rw [if_neg (show ¬ hasB s a (strOfNums (beN 1)) from hn 6 (by omega)), if_neg (show ¬ hasB s a (strOfNums (beN 2)) from hn 7 (by omega)), if_neg (show ¬ hasB s a (strOfNums (beN 3)) from hn 8 (by omega))]
    have hp : pch s a = none := by
      unfold pch
      rw [if_pos ha, h91, if_neg (by decide), if_neg (by omega)]
    rw [if_pos h91, if_pos hb, part_none hp, if_pos rfl]
  · rw [if_neg h91]

end Go.Proofs.Ytpclldccjpncdab

namespace Go.Proofs.Ytpclldccjpncdab
open Go.RowKit

def rtk0 : Nat → Value := fun i => #[Value.int .i64 0, .int .i64 0, .int .i64 0, .int .i64 0, .string ByteArray.empty].getD i undef
theorem fin5d {P : Program} {fn : Func} {p : Tmp} {ty : TypeId} {w0 W : World} {B g : Nat} {f : Nat → Value} {v0 v1 v2 v3 v4 v : Value} {d : TypeDesc} {tmps : Array Value} (h : fn.results = #[.cell p ty]) (hp : tmps.getD p undef = .pointer (some ⟨g, 0, none⟩)) (hg : W.rowIs g ty 5 f)
    (hu : P.underlying ty = some d) (hd : (match d with | .struct _ | .array _ _ => true | _ => false) = true) (hi : (P.info? ty).map (·.size) = some 5) (hb : Below B w0 W) (hB : B ≤ g) (hv : v = .agg #[v0, v1, v2, v3, v4]) :
    bodyPost P fn (fun e w' => e = .returned v ∧ Below B w0 w') Exit.ret { tmps := tmps, defers := [] } (set5 W g v0 v1 v2 v3 v4).drew := by
  have hr := World.rowIs.drew (((((hg.set 0 v0).set 1 v1).set 2 v2).set 3 v3).set 4 v4)
  have := res5 (P := P) h tmps g _ d hp hr hu hd hi
  exact bodyPost_ret this rfl ⟨by rw [hv]; rfl, ((set5_only W g v0 v1 v2 v3 v4).below hb hB).drew⟩
/-- the three lists of the table -/
def tabA : Array Value := #[.string { data := #[38] }, .string { data := #[47] }, .string { data := #[61] }, .string { data := #[60, 60, 60] }, .string { data := #[60, 60] }, .string { data := #[60] }, .string { data := #[91, 98, 101, 102, 111, 114, 101, 32, 49, 93] }, .string { data := #[91, 98, 101, 102, 111, 114, 101, 32, 50, 93] }, .string { data := #[91, 98, 101, 102, 111, 114, 101, 32, 51, 93] }]
def tabB : Array Value := #[.int .i64 1, .int .i64 4, .int .i64 3, .int .i64 3, .int .i64 3, .int .i64 3, .int .i64 2, .int .i64 2, .int .i64 2]
def tabC : Array Value := #[.int .i64 0, .int .i64 0, .int .i64 0, .int .i64 3, .int .i64 2, .int .i64 1, .int .i64 1, .int .i64 2, .int .i64 3]
def tabW (w : World) : World := ((w.alloc (.cells tabA 9)).alloc (.cells tabB 3)).alloc (.cells tabC 3)
theorem tabW_size (w : World) : (tabW w).heap.size = w.heap.size + 3 := by simp [tabW]
theorem tabW_below (w : World) : Below w.heap.size w (tabW w) := below_then (below_then (below_one _) (below_one _)) (below_one _)
theorem tabW_cells (w : World) {k : Nat} (hk : k < 9) : (tabW w).cell? ⟨w.heap.size, k, none⟩ = some (.string (wd k)) ∧ (tabW w).cell? ⟨w.heap.size + 1, k, none⟩ = some (.int .i64 (wk k : Nat)) ∧ (tabW w).cell? ⟨w.heap.size + 2, k, none⟩ = some (.int .i64 (wn k : Nat)) := by
  have z1 : (w.alloc (.cells tabA 9)).heap.size = w.heap.size + 1 := by simp
  have z2 : ((w.alloc (.cells tabA 9)).alloc (.cells tabB 3)).heap.size = w.heap.size + 2 := by simp
  have r1 := ((row_new w tabA 9 9 rfl).alloc (.cells tabB 3)).alloc (.cells tabC 3)
  have c1 := r1.cell (i := k) hk
  have r2 := (row_new (w.alloc (.cells tabA 9)) tabB 3 9 rfl).alloc (.cells tabC 3)
  rw [z1] at r2
  have c2 := r2.cell (i := k) hk
  have r3 := row_new ((w.alloc (.cells tabA 9)).alloc (.cells tabB 3)) tabC 3 9 rfl
  rw [z2] at r3
  have c3 := r3.cell (i := k) hk
  refine ⟨c1.trans ?_, c2.trans ?_, c3.trans ?_⟩
  all_goals
    have cs : k = 0 ∨ k = 1 ∨ k = 2 ∨ k = 3 ∨ k = 4 ∨ k = 5 ∨ k = 6 ∨ k = 7 ∨ k = 8 := by omega
    rcases cs with rfl | rfl | rfl | rfl | rfl | rfl | rfl | rfl | rfl <;> rfl

end Go.Proofs.Ytpclldccjpncdab

namespace Go.Proofs.Ytpclldccjpncdab
open Go.RowKit

set_option maxRecDepth 100000 in
set_option maxHeartbeats 2000000 in
theorem partAt_any (s : ByteArray) (a : Nat) (w : World) (hs : s.size ≤ 1000) (ha : a < s.size) :
    Calls Try.prog 85 #[.string s, .int .i64 (a : Nat)] w fun e w' => e = .returned (.agg #[.int .i64 ((if (part s a).2 = a then 0 else 5 : Nat) : Int), .int .i64 0, .string (if (part s a).2 = a then { data := #[] } else strOfNums (part s a).1), .int .i64 (a : Nat), .int .i64 ((if (part s a).2 = a then 0 else (part s a).2 : Nat) : Int)]) ∧ Below w.heap.size w w' := by
  obtain ⟨t0, ht0, hq0, hq1, hq2⟩ := info_parts infoByteC
  obtain ⟨kd, hkd⟩ : ∃ x, x = (if (part s a).2 = a then 0 else 5 : Nat) := ⟨_, rfl⟩
  obtain ⟨tx, htx⟩ : ∃ x, x = (if (part s a).2 = a then ({ data := #[] } : ByteArray) else strOfNums (part s a).1) := ⟨_, rfl⟩
  obtain ⟨kf, hkf⟩ : ∃ x, x = (if (part s a).2 = a then 0 else (part s a).2 : Nat) := ⟨_, rfl⟩
  have HKD : Hid (kd = (if (part s a).2 = a then 0 else 5 : Nat) ∧ tx = (if (part s a).2 = a then ({ data := #[] } : ByteArray) else strOfNums (part s a).1) ∧ kf = (if (part s a).2 = a then 0 else (part s a).2 : Nat)) := ⟨hkd, htx, hkf⟩
  rw [← hkd, ← htx, ← hkf]
  clear hkd htx hkf
  obtain ⟨W, hW⟩ : ∃ W, W = w.alloc (.cells #[.int .i64 0, .int .i64 0, .string ByteArray.empty, .int .i64 0, .int .i64 0] 121) := ⟨_, rfl⟩
  have HW : Hid (W = w.alloc (.cells #[.int .i64 0, .int .i64 0, .string ByteArray.empty, .int .i64 0, .int .i64 0] 121)) := hW
  have HWS : Hid (W.heap.size = w.heap.size + 1) := by show _ = _; rw [hW]; simp
  have HR : Hid (W.rowIs w.heap.size 121 5 tok0) := by show World.rowIs _ _ _ _ _; rw [hW]; exact row_new _ _ _ 5 rfl
  have HB : Hid (Below w.heap.size w W) := by show Below _ _ _; rw [hW]; exact below_one _
  clear hW
  go_enter Try.func85, Try.ntmps85
  go_wp2
  go_loopw [6, 5] (fun iv v wr => ∃ (i : Nat) (us : List Int), Hid (part s a = (us ++ (part s i).1, (part s i).2)) ∧ i ≤ s.size ∧ us.length ≤ i ∧ iv = .int .i64 (i : Nat) ∧ Below W.heap.size W wr ∧ wr.ownsRow (w.heap.size + 1) 5 1 v us.length (us.map (Value.int .u8))) (fun iv _ _ => s.size - (intOf iv).toNat)
  case atStart => exact ⟨a, [], rfl, Nat.le_of_lt ha, by simp, rfl, by rw [HW.out]; exact Below.refl _ _, World.ownsRow_nil _ _ _ _⟩
  case round =>
    obtain ⟨i, us, HUS, hi, hul, rfl, hbel, hown⟩ := hrel
    obtain ⟨vo9, vc9, hv9, hcv⟩ := convC hown
    subst hv9
    have HOW : Hid (wr.ownsRow (w.heap.size + 1) 5 1 _ us.length (us.map (Value.int .u8))) := hown
    clear hown
    have hsz := hbel.size
    have hszw : w.heap.size + 1 ≤ wr.heap.size := by rw [← HWS.out]; exact hsz
    have HRr : Hid (wr.rowIs w.heap.size 121 5 tok0) := HR.out.of_block (hbel.block _ (by rw [HWS.out]; omega))
    have HBr : Hid (Below w.heap.size w wr) := below_then HB.out hbel
    obtain ⟨⟨c0, c1, c2, c3, c4⟩, f0, f1, f2, f3, f4⟩ := row5F HRr.out
    by_cases hlt : i < s.size
    · have hxb := bt_le s i
      have hbi := bt_in hlt
      obtain ⟨x, hx⟩ : ∃ x, x = bt s i := ⟨_, rfl⟩
      have hxs : ((s[i]'hlt).toNat : Int) = x := by rw [hx, hbi]
      have HX : Hid (x = bt s i) := hx
      rw [← hx] at hxb
      clear hbi hx
      by_cases hsp : sp x = true
      · by_cases h92 : x = 92 ∧ i + 1 < s.size
        · obtain ⟨rfl, h1⟩ := h92
          have hyb := bt_le s (i + 1)
          have hbi := bt_in h1
          obtain ⟨y, hy⟩ : ∃ y, y = bt s (i + 1) := ⟨_, rfl⟩
          have hys : ((s[i + 1]'h1).toNat : Int) = y := by rw [hy, hbi]
          have HUN : Hid (part s a = ((us ++ [(y : Int)]) ++ (part s (i + 2)).1, (part s (i + 2)).2)) := by
            show _ = _
            have hp : pch s i = some ((y : Int), i + 2) := by
              unfold pch
              rw [if_pos hlt, ← HX.out, if_neg (by decide), if_pos ⟨rfl, h1⟩, ← hy]
            rw [HUS.out, part_some hp]
            simp
          rw [← hy] at hyb
          have q1 : ((i : Int) + 1).toNat = i + 1 := by omega
          have q2 : (i : Int) + 1 < (s.size : Int) := by omega
          have q3 : (0 : Int) ≤ (i : Int) + 1 := by omega
          clear hbi hy c0 c1 c2 c3 c4 f0 f1 f2 f3 f4 hcv
          go_wp2_with (first
            | (at_builtin; refine wpList_append_lies _ (by rfl) (.tmp 29) (.tmp 33) 69 (by rfl) (w.heap.size + 1) 5 t0 (.int .u8 0) 1 1 Try.underlying69 ht0 hq0 hq1 hq2 rfl (by omega) _ us.length _ (by rfl) (HOW.out.alloc _) ⟨wr.heap.size, 0, none⟩ 1 1 [.int .u8 y] (by rfl) (by rfl) ?d1 ?d2 (by omega) ?d3 ?d5 ?d4 (wr.heap.size + 1) (by simp) ?_))
          case d1 => exact cell_one_new _ _ _
          case d2 => intro u hu; simp at hu; subst hu; rfl
          case d3 => unfold maxLen; omega
          case d5 => omega
          case d4 => simp; omega
          · intro g3 cap3 w3 hown3 hgrow3 _ _
            have HB3 : Hid (Below W.heap.size W w3) := ownC_grown_below (hbel.alloc hsz _) (by rw [HWS.out]; simp; omega) (HOW.out.alloc _) (by rw [HWS.out]; exact Nat.le_refl _) hgrow3
            have HO3 : Hid (w3.ownsRow (w.heap.size + 1) 5 1 (.slice (some ⟨g3, 0, none⟩) (us.length + 1) cap3) (us ++ [(y : Int)]).length ((us ++ [(y : Int)]).map (Value.int .u8))) := by
              show _
              rw [List.length_append, List.map_append]
              exact hown3
            clear hown3 hgrow3
            go_wp2
            go_roundw
            case rel => exact ⟨i + 2, us ++ [(y : Int)], HUN.out, by omega, by simp; omega, by go_num, HB3.out, HO3.out⟩
            case measure => simp [intOf]; omega
        · have HUN : Hid (part s a = (us, i)) := by
            show _ = _
            have hp : pch s i = none := by
              unfold pch
              rw [if_pos hlt, ← HX.out, if_neg (by simp [hsp]), if_neg h92]
            rw [HUS.out, part_none hp]
            simp
          by_cases hx92 : x = 92
          · have h1 : ¬ i + 1 < s.size := fun h => h92 ⟨hx92, h⟩
            subst hx92
            have q2 : (s.size : Int) ≤ (i : Int) + 1 := by omega
            clear h92
            by_cases hu0 : us = []
            · have HV : Hid (kd = 0 ∧ tx = { data := #[] } ∧ kf = 0) := by
                show _ ∧ _
                have h2 : (part s a).2 = a := (part_nil (Nat.le_of_lt ha)).1 (by rw [HUN.out]; exact hu0)
                rw [HKD.out.1, HKD.out.2.1, HKD.out.2.2, if_pos h2, if_pos h2, if_pos h2]
                exact ⟨rfl, rfl, rfl⟩
              have hul0 : us.length = 0 := by rw [hu0]; rfl
              clear hu0
              go_wp2_with fail
              refine (needsBackslash_any 92 _).mono ?_
              rintro e w1 ⟨rfl, hw1⟩
              obtain rfl := hw1.symm
              rw [show sp 92 = true from rfl]
              go_wp2
              exact fin5 rfl (by rfl) HRr.out Try.underlying121 rfl sizeTokC HBr.out (Nat.le_refl _) (by rw [HV.out.1, HV.out.2.1, HV.out.2.2] <;> rfl)
            · have HV : Hid (kd = 5 ∧ tx = strOfNums us ∧ kf = i) := by
                show _ ∧ _
                have h2 : ¬ (part s a).2 = a := fun h => hu0 (by have := (part_nil (Nat.le_of_lt ha)).2 h; rw [HUN.out] at this; exact this)
                rw [HKD.out.1, HKD.out.2.1, HKD.out.2.2, if_neg h2, if_neg h2, if_neg h2, HUN.out]
                exact ⟨rfl, rfl, rfl⟩
              have hul0 : ((us.length : Int) == 0) = false := beq_eq_false_iff_ne.2 (fun h => hu0 (List.eq_nil_of_length_eq_zero (by omega)))
              clear hu0
              go_wp2_with fail
              refine (needsBackslash_any 92 _).mono ?_
              rintro e w1 ⟨rfl, hw1⟩
              obtain rfl := hw1.symm
              rw [show sp 92 = true from rfl]
              go_wp2
              exact fin5 rfl (by rfl) HRr.out Try.underlying121 rfl sizeTokC HBr.out (Nat.le_refl _) (by rw [HV.out.1, HV.out.2.1, HV.out.2.2] <;> rfl)
          · have hx' : ((x : Int) == 92) = false := beq_eq_false_iff_ne.2 (by omega)
            clear h92 hx92
            by_cases hu0 : us = []
            · have HV : Hid (kd = 0 ∧ tx = { data := #[] } ∧ kf = 0) := by
                show _ ∧ _
                have h2 : (part s a).2 = a := (part_nil (Nat.le_of_lt ha)).1 (by rw [HUN.out]; exact hu0)
                rw [HKD.out.1, HKD.out.2.1, HKD.out.2.2, if_pos h2, if_pos h2, if_pos h2]
                exact ⟨rfl, rfl, rfl⟩
              have hul0 : us.length = 0 := by rw [hu0]; rfl
              clear hu0
              go_wp2_with fail
              refine (needsBackslash_any x _).mono ?_
              rintro e w1 ⟨rfl, hw1⟩
              obtain rfl := hw1.symm
              rw [hsp]
              go_wp2
              exact fin5 rfl (by rfl) HRr.out Try.underlying121 rfl sizeTokC HBr.out (Nat.le_refl _) (by rw [HV.out.1, HV.out.2.1, HV.out.2.2] <;> rfl)
            · have HV : Hid (kd = 5 ∧ tx = strOfNums us ∧ kf = i) := by
                show _ ∧ _
                have h2 : ¬ (part s a).2 = a := fun h => hu0 (by have := (part_nil (Nat.le_of_lt ha)).2 h; rw [HUN.out] at this; exact this)
                rw [HKD.out.1, HKD.out.2.1, HKD.out.2.2, if_neg h2, if_neg h2, if_neg h2, HUN.out]
                exact ⟨rfl, rfl, rfl⟩
              have hul0 : ((us.length : Int) == 0) = false := beq_eq_false_iff_ne.2 (fun h => hu0 (List.eq_nil_of_length_eq_zero (by omega)))
              clear hu0
              go_wp2_with fail
              refine (needsBackslash_any x _).mono ?_
              rintro e w1 ⟨rfl, hw1⟩
              obtain rfl := hw1.symm
              rw [hsp]
              go_wp2
              exact fin5 rfl (by rfl) HRr.out Try.underlying121 rfl sizeTokC HBr.out (Nat.le_refl _) (by rw [HV.out.1, HV.out.2.1, HV.out.2.2] <;> rfl)
      · have hsp' : sp x = false := by simpa using hsp
        have HUN : Hid (part s a = ((us ++ [(x : Int)]) ++ (part s (i + 1)).1, (part s (i + 1)).2)) := by
          show _ = _
          have hp : pch s i = some ((x : Int), i + 1) := by
            unfold pch
            rw [if_pos hlt, ← HX.out, if_pos hsp']
          rw [HUS.out, part_some hp]
          simp
        have hn92 : x ≠ 92 := fun h => hsp (by rw [h]; rfl)
        have hx' : ((x : Int) == 92) = false := beq_eq_false_iff_ne.2 (by omega)
        clear hsp hn92 c0 c1 c2 c3 c4 f0 f1 f2 f3 f4 hcv
        go_wp2_with fail
        refine (needsBackslash_any x _).mono ?_
        rintro e w1 ⟨rfl, hw1⟩
        obtain rfl := hw1.symm
        rw [hsp']
        go_wp2_with (first
          | (at_builtin; refine wpList_append_lies _ (by rfl) (.tmp 29) (.tmp 33) 69 (by rfl) (w.heap.size + 1) 5 t0 (.int .u8 0) 1 1 Try.underlying69 ht0 hq0 hq1 hq2 rfl (by omega) _ us.length _ (by rfl) (HOW.out.alloc _) ⟨wr.heap.size, 0, none⟩ 1 1 [.int .u8 x] (by rfl) (by rfl) ?d1 ?d2 (by omega) ?d3 ?d5 ?d4 (wr.heap.size + 1) (by simp) ?_))
        case d1 => exact cell_one_new _ _ _
        case d2 => intro u hu; simp at hu; subst hu; rfl
        case d3 => unfold maxLen; omega
        case d5 => omega
        case d4 => simp; omega
        · intro g3 cap3 w3 hown3 hgrow3 _ _
          have HB3 : Hid (Below W.heap.size W w3) := ownC_grown_below (hbel.alloc hsz _) (by rw [HWS.out]; simp; omega) (HOW.out.alloc _) (by rw [HWS.out]; exact Nat.le_refl _) hgrow3
          have HO3 : Hid (w3.ownsRow (w.heap.size + 1) 5 1 (.slice (some ⟨g3, 0, none⟩) (us.length + 1) cap3) (us ++ [(x : Int)]).length ((us ++ [(x : Int)]).map (Value.int .u8))) := by
            show _
            rw [List.length_append, List.map_append]
            exact hown3
          clear hown3 hgrow3
          go_wp2
          go_roundw
          case rel => exact ⟨i + 1, us ++ [(x : Int)], HUN.out, by omega, by simp; omega, by go_num, HB3.out, HO3.out⟩
          case measure => simp [intOf]; omega
    · have hie : i = s.size := by omega
      have HUN : Hid (part s a = (us, i)) := by
        show _ = _
        have hp : pch s i = none := by
          unfold pch
          rw [if_neg (by omega)]
        rw [HUS.out, part_none hp]
        simp
      clear hie
      by_cases hu0 : us = []
      · have HV : Hid (kd = 0 ∧ tx = { data := #[] } ∧ kf = 0) := by
          show _ ∧ _
          have h2 : (part s a).2 = a := (part_nil (Nat.le_of_lt ha)).1 (by rw [HUN.out]; exact hu0)
          rw [HKD.out.1, HKD.out.2.1, HKD.out.2.2, if_pos h2, if_pos h2, if_pos h2]
          exact ⟨rfl, rfl, rfl⟩
        have hul0 : us.length = 0 := by rw [hu0]; rfl
        clear hu0
        go_wp2
        exact fin5 rfl (by rfl) HRr.out Try.underlying121 rfl sizeTokC HBr.out (Nat.le_refl _) (by rw [HV.out.1, HV.out.2.1, HV.out.2.2] <;> rfl)
      · have HV : Hid (kd = 5 ∧ tx = strOfNums us ∧ kf = i) := by
          show _ ∧ _
          have h2 : ¬ (part s a).2 = a := fun h => hu0 (by have := (part_nil (Nat.le_of_lt ha)).2 h; rw [HUN.out] at this; exact this)
          rw [HKD.out.1, HKD.out.2.1, HKD.out.2.2, if_neg h2, if_neg h2, if_neg h2, HUN.out]
          exact ⟨rfl, rfl, rfl⟩
        have hul0 : ((us.length : Int) == 0) = false := beq_eq_false_iff_ne.2 (fun h => hu0 (List.eq_nil_of_length_eq_zero (by omega)))
        clear hu0
        go_wp2
        exact fin5 rfl (by rfl) HRr.out Try.underlying121 rfl sizeTokC HBr.out (Nat.le_refl _) (by rw [HV.out.1, HV.out.2.1, HV.out.2.2] <;> rfl)

def tkK (t : Tk) : Nat := if t.kind < 6 then t.kind else 0
def tkF (t : Tk) : Nat := if t.kind < 6 then t.fin else 0

set_option maxRecDepth 100000 in
set_option maxHeartbeats 2000000 in
theorem tokenAt_any (s : ByteArray) (i : Nat) (w : World) (hs : s.size ≤ 1000) (hi : i ≤ s.size) :
    Calls Try.prog 81 #[.string s, .int .i64 (i : Nat)] w fun e w' => e = .returned (.agg #[.int .i64 (tkK (tk s i) : Nat), .int .i64 ((tk s i).n : Nat), .string (strOfNums (tk s i).tx), .int .i64 ((tk s i).at' : Nat), .int .i64 (tkF (tk s i) : Nat)]) ∧ Below w.heap.size w w' := by
  obtain ⟨a, ha⟩ : ∃ a, a = skp s i := ⟨_, rfl⟩
  have hle : a ≤ s.size := by rw [ha]; exact skp_le hi
  obtain ⟨kd, hkd⟩ : ∃ x, x = tkK (tk s i) := ⟨_, rfl⟩
  obtain ⟨kn, hkn⟩ : ∃ x, x = (tk s i).n := ⟨_, rfl⟩
  obtain ⟨tx, htx⟩ : ∃ x, x = strOfNums (tk s i).tx := ⟨_, rfl⟩
  obtain ⟨kf, hkf⟩ : ∃ x, x = tkF (tk s i) := ⟨_, rfl⟩
  have HV : Hid (kd = tkK (tkA s a) ∧ kn = (tkA s a).n ∧ tx = strOfNums (tkA s a).tx ∧ kf = tkF (tkA s a)) := by show _ ∧ _; rw [ha]; exact ⟨hkd, hkn, htx, hkf⟩
  rw [tk_at, ← ha, ← hkd, ← hkn, ← htx, ← hkf]
  have HC : Hid (∀ w, Calls Try.prog 55 #[.string s, .int .i64 (i : Nat)] w fun e w' => e = .returned (.int .i64 (a : Nat)) ∧ w' = w) := fun w => by rw [ha]; exact behindSpaces_any s i w (by omega) hi
  clear ha hkd hkn htx hkf
  have HF : Hid (∀ t, tkA s a = t → kd = tkK t ∧ kn = t.n ∧ tx = strOfNums t.tx ∧ kf = tkF t) := fun t ht => by rw [← ht]; exact HV.out
  go_enter Try.func81, Try.ntmps81
  go_wp2_with fail
  refine (HC.out _).mono ?_
  rintro e w1 ⟨rfl, hw1⟩
  have HR : Hid (w1.rowIs w.heap.size 121 5 tok0) := by show World.rowIs _ _ _ _ _; rw [hw1]; exact row_new _ _ _ 5 rfl
  have HB : Hid (Below w.heap.size w w1) := by show Below _ _ _; rw [hw1]; exact below_one _
  have hz1 : w1.heap.size = w.heap.size + 1 := by rw [hw1]; simp
  have HZ : Hid (w.heap.size < w1.heap.size) := by show _ < _; omega
  clear hw1 hz1
  by_cases hlt : a < s.size
  · have hxb := bt_le s a
    have hbi := bt_in hlt
    obtain ⟨x, hx⟩ : ∃ x, x = bt s a := ⟨_, rfl⟩
    have hxs : ((s[a]'hlt).toNat : Int) = x := by rw [hx, hbi]
    rw [← hx] at hxb
    clear hbi
    have HX : Hid (x = bt s a) := hx
    clear hx
    by_cases h38 : x = 38
    · have HE : Hid (kd = 1 ∧ kn = 0 ∧ tx = { data := #[] } ∧ kf = a + 1) := HF.out ⟨1, 0, [], a, a + 1⟩ (by unfold tkA; rw [if_neg (by omega), if_pos (by rw [← HX.out]; exact h38)])
      obtain ⟨⟨c0, c1, c2, c3, c4⟩, f0, f1, f2, f3, f4⟩ := row5F HR.out
      subst h38
      go_wp2
      exact fin5 rfl (by rfl) HR.out Try.underlying121 rfl sizeTokC HB.out (Nat.le_refl _) (by rw [HE.out.1, HE.out.2.1, HE.out.2.2.1, HE.out.2.2.2] <;> simp)
    have e38 : ((x : Int) == 38) = false := beq_eq_false_iff_ne.2 (by omega)
    by_cases h47 : x = 47
    · have HE : Hid (kd = 4 ∧ kn = 0 ∧ tx = { data := #[] } ∧ kf = a + 1) := HF.out ⟨4, 0, [], a, a + 1⟩ (by unfold tkA; rw [if_neg (by omega), if_neg (by rw [← HX.out]; exact h38), if_pos (by rw [← HX.out]; exact h47)])
      obtain ⟨⟨c0, c1, c2, c3, c4⟩, f0, f1, f2, f3, f4⟩ := row5F HR.out
      subst h47
      clear h38
      go_wp2
      exact fin5 rfl (by rfl) HR.out Try.underlying121 rfl sizeTokC HB.out (Nat.le_refl _) (by rw [HE.out.1, HE.out.2.1, HE.out.2.2.1, HE.out.2.2.2] <;> simp)
    have e47 : ((x : Int) == 47) = false := beq_eq_false_iff_ne.2 (by omega)
    by_cases h61 : x = 61
    · have HE : Hid (kd = 3 ∧ kn = 0 ∧ tx = { data := #[] } ∧ kf = a + 1) := HF.out ⟨3, 0, [], a, a + 1⟩ (by unfold tkA; rw [if_neg (by omega), if_neg (by rw [← HX.out]; exact h38), if_neg (by rw [← HX.out]; exact h47), if_pos (by rw [← HX.out]; exact h61)])
      obtain ⟨⟨c0, c1, c2, c3, c4⟩, f0, f1, f2, f3, f4⟩ := row5F HR.out
      subst h61
      clear h38 h47
      go_wp2
      exact fin5 rfl (by rfl) HR.out Try.underlying121 rfl sizeTokC HB.out (Nat.le_refl _) (by rw [HE.out.1, HE.out.2.1, HE.out.2.2.1, HE.out.2.2.2] <;> simp)
    have e61 : ((x : Int) == 61) = false := beq_eq_false_iff_ne.2 (by omega)
    by_cases h60 : x = 60
    · obtain ⟨k, hk⟩ : ∃ k, k = lessN s a := ⟨_, rfl⟩
      have HE : Hid (kd = 3 ∧ kn = k ∧ tx = { data := #[] } ∧ kf = a + k) := HF.out ⟨3, k, [], a, a + k⟩ (by unfold tkA; rw [hk, if_neg (by omega), if_neg (by rw [← HX.out]; exact h38), if_neg (by rw [← HX.out]; exact h47), if_neg (by rw [← HX.out]; exact h61), if_pos (by rw [← HX.out]; exact h60)])
      obtain ⟨ak, hak⟩ : ∃ z, z = a + k := ⟨_, rfl⟩
      have HD : Hid (∀ w, Calls Try.prog 83 #[.string s, .int .i64 (a : Nat)] w fun e w' => e = .returned (.agg #[.int .i64 3, .int .i64 (k : Nat), .string { data := #[] }, .int .i64 (a : Nat), .int .i64 (ak : Nat)]) ∧ Below w.heap.size w w') := fun w => by rw [hak, hk]; exact lessAt_any s a w hs hlt
      rw [← hak] at HE
      subst h60
      clear h38 h47 h61 hk hak
      go_wp2_with fail
      refine (HD.out _).mono ?_
      rintro e w2 ⟨rfl, hb2⟩
      have HR2 : Hid (w2.rowIs w.heap.size 121 5 tok0) := HR.out.of_block (hb2.block _ HZ.out)
      have HB2 : Hid (Below w.heap.size w w2) := below_then HB.out hb2
      obtain ⟨⟨c0, c1, c2, c3, c4⟩, f0, f1, f2, f3, f4⟩ := row5F HR2.out
      clear hb2
      go_wp2
      exact fin5 rfl (by rfl) HR2.out Try.underlying121 rfl sizeTokC HB2.out (Nat.le_refl _) (by rw [HE.out.1, HE.out.2.1, HE.out.2.2.1, HE.out.2.2.2] <;> simp)
    have e60 : ((x : Int) == 60) = false := beq_eq_false_iff_ne.2 (by omega)
    by_cases h91 : x = 91
    · obtain ⟨k, hk⟩ : ∃ k, k = befN s a := ⟨_, rfl⟩
      obtain ⟨k1, hk1⟩ : ∃ x, x = (if k = 0 then 0 else 2 : Nat) := ⟨_, rfl⟩
      obtain ⟨k2, hk2⟩ : ∃ x, x = (if k = 0 then 0 else a + 10 : Nat) := ⟨_, rfl⟩
      have HE : Hid (kd = k1 ∧ kn = k ∧ tx = { data := #[] } ∧ kf = k2) := by
        have ht : tkA s a = if k = 0 then ⟨6, 0, [], a, a + 1⟩ else ⟨2, k, [], a, a + 10⟩ := by unfold tkA; rw [hk, if_neg (by omega), if_neg (by rw [← HX.out]; exact h38), if_neg (by rw [← HX.out]; exact h47), if_neg (by rw [← HX.out]; exact h61), if_neg (by rw [← HX.out]; exact h60), if_pos (by rw [← HX.out]; exact h91)]
        by_cases h0 : k = 0
        · rw [if_pos h0] at ht hk1 hk2
          have := HF.out _ ht
          show _ ∧ _
          rw [hk1, hk2, h0]
          exact this
        · rw [if_neg h0] at ht hk1 hk2
          have := HF.out _ ht
          show _ ∧ _
          rw [hk1, hk2]
          exact this
      have HD : Hid (∀ w, Calls Try.prog 84 #[.string s, .int .i64 (a : Nat)] w fun e w' => e = .returned (.agg #[.int .i64 (k1 : Nat), .int .i64 (k : Nat), .string { data := #[] }, .int .i64 (a : Nat), .int .i64 (k2 : Nat)]) ∧ Below w.heap.size w w') := fun w => by rw [hk1, hk2, hk]; exact beforeAt_any s a w hs hlt
      subst h91
      clear h38 h47 h61 h60 hk hk1 hk2
      go_wp2_with fail
      refine (HD.out _).mono ?_
      rintro e w2 ⟨rfl, hb2⟩
      have HR2 : Hid (w2.rowIs w.heap.size 121 5 tok0) := HR.out.of_block (hb2.block _ HZ.out)
      have HB2 : Hid (Below w.heap.size w w2) := below_then HB.out hb2
      obtain ⟨⟨c0, c1, c2, c3, c4⟩, f0, f1, f2, f3, f4⟩ := row5F HR2.out
      clear hb2
      go_wp2
      exact fin5 rfl (by rfl) HR2.out Try.underlying121 rfl sizeTokC HB2.out (Nat.le_refl _) (by rw [HE.out.1, HE.out.2.1, HE.out.2.2.1, HE.out.2.2.2] <;> simp)
    have e91 : ((x : Int) == 91) = false := beq_eq_false_iff_ne.2 (by omega)
    obtain ⟨k1, hk1⟩ : ∃ x, x = (if (part s a).2 = a then 0 else 5 : Nat) := ⟨_, rfl⟩
    obtain ⟨tt, htt⟩ : ∃ x, x = (if (part s a).2 = a then ({ data := #[] } : ByteArray) else strOfNums (part s a).1) := ⟨_, rfl⟩
    obtain ⟨k2, hk2⟩ : ∃ x, x = (if (part s a).2 = a then 0 else (part s a).2 : Nat) := ⟨_, rfl⟩
    have HE : Hid (kd = k1 ∧ kn = 0 ∧ tx = tt ∧ kf = k2) := by
      have ht : tkA s a = if (part s a).2 = a then ⟨6, 0, [], a, a + 1⟩ else ⟨5, 0, (part s a).1, a, (part s a).2⟩ := by unfold tkA; rw [if_neg (by omega), if_neg (by rw [← HX.out]; exact h38), if_neg (by rw [← HX.out]; exact h47), if_neg (by rw [← HX.out]; exact h61), if_neg (by rw [← HX.out]; exact h60), if_neg (by rw [← HX.out]; exact h91)]
      by_cases h0 : (part s a).2 = a
      · rw [if_pos h0] at ht hk1 hk2 htt
        have := HF.out _ ht
        show _ ∧ _
        rw [hk1, hk2, htt]
        exact this
      · rw [if_neg h0] at ht hk1 hk2 htt
        have := HF.out _ ht
        show _ ∧ _
        rw [hk1, hk2, htt]
        exact this
    have HD : Hid (∀ w, Calls Try.prog 85 #[.string s, .int .i64 (a : Nat)] w fun e w' => e = .returned (.agg #[.int .i64 (k1 : Nat), .int .i64 0, .string tt, .int .i64 (a : Nat), .int .i64 (k2 : Nat)]) ∧ Below w.heap.size w w') := fun w => by rw [hk1, hk2, htt]; exact partAt_any s a w hs hlt
    clear h38 h47 h61 h60 h91 hk1 hk2 htt
    go_wp2_with fail
    refine (HD.out _).mono ?_
    rintro e w2 ⟨rfl, hb2⟩
    have HR2 : Hid (w2.rowIs w.heap.size 121 5 tok0) := HR.out.of_block (hb2.block _ HZ.out)
    have HB2 : Hid (Below w.heap.size w w2) := below_then HB.out hb2
    obtain ⟨⟨c0, c1, c2, c3, c4⟩, f0, f1, f2, f3, f4⟩ := row5F HR2.out
    clear hb2
    go_wp2
    exact fin5 rfl (by rfl) HR2.out Try.underlying121 rfl sizeTokC HB2.out (Nat.le_refl _) (by rw [HE.out.1, HE.out.2.1, HE.out.2.2.1, HE.out.2.2.2] <;> simp)
  · have HE : Hid (kd = 0 ∧ kn = 0 ∧ tx = { data := #[] } ∧ kf = 0) := HF.out ⟨7, 0, [], a, a⟩ (by unfold tkA; rw [if_pos (by omega)])
    obtain ⟨⟨c0, c1, c2, c3, c4⟩, f0, f1, f2, f3, f4⟩ := row5F HR.out
    go_wp2
    exact fin5 rfl (by rfl) HR.out Try.underlying121 rfl sizeTokC HB.out (Nat.le_refl _) (by rw [HE.out.1, HE.out.2.1, HE.out.2.2.1, HE.out.2.2.2] <;> simp)

end Go.Proofs.Ytpclldccjpncdab

namespace Go.Proofs.Ytpclldccjpncdab
open Go.RowKit

theorem tkK_eq {s : ByteArray} {i : Nat} {k : Nat} (h1 : 1 ≤ k) (h5 : k ≤ 5) : tkK (tk s i) = k ↔ (tk s i).kind = k := by
  unfold tkK
  constructor
  · intro h
    split at h
    · exact h
    · omega
  · intro h
    rw [h, if_pos (by omega)]
theorem tkF_eq {s : ByteArray} {i : Nat} (h : (tk s i).kind ≤ 5) : tkF (tk s i) = (tk s i).fin := by unfold tkF; rw [if_pos (by omega)]
theorem tk_lim {s : ByteArray} {i : Nat} (hi : i ≤ s.size) : (tk s i).at' ≤ s.size ∧ tkF (tk s i) ≤ s.size ∧ tkK (tk s i) ≤ 5 ∧ (tk s i).n ≤ 3 ∧ (tk s i).tx.length ≤ s.size := by
  refine ⟨by rw [tk_at]; exact skp_le hi, ?_, ?_, tkA_n s _, tkA_len⟩
  · unfold tkF
    split
    · next h => exact (tk_to (by omega)).2.1
    · omega
  · unfold tkK
    split <;> omega

set_option maxRecDepth 100000 in
set_option maxHeartbeats 2000000 in
theorem readPart_any (s : ByteArray) (i most : Nat) (w : World) (hs : s.size ≤ 1000) (hi : i ≤ s.size) (_hm : most ≤ 100) :
    Calls Try.prog 82 #[.string s, .int .i64 (i : Nat), .int .i64 (most : Nat)] w fun e w' => e = .returned (.tuple #[.string (rp s i most).1, .int .i64 ((rp s i most).2.1 : Nat), .int .i64 (rp s i most).2.2]) ∧ Below w.heap.size w w' := by
  have hlim := tk_lim hi
  obtain ⟨t, ht⟩ : ∃ t, t = tk s i := ⟨_, rfl⟩
  obtain ⟨kd, hkd⟩ : ∃ x, x = tkK (tk s i) := ⟨_, rfl⟩
  obtain ⟨kn, hkn⟩ : ∃ x, x = (tk s i).n := ⟨_, rfl⟩
  obtain ⟨tx, htx⟩ : ∃ x, x = strOfNums (tk s i).tx := ⟨_, rfl⟩
  obtain ⟨ka, hka⟩ : ∃ x, x = (tk s i).at' := ⟨_, rfl⟩
  obtain ⟨kf, hkf⟩ : ∃ x, x = tkF (tk s i) := ⟨_, rfl⟩
  have HC : Hid (∀ w, Calls Try.prog 81 #[.string s, .int .i64 (i : Nat)] w fun e w' => e = .returned (.agg #[.int .i64 (kd : Nat), .int .i64 (kn : Nat), .string tx, .int .i64 (ka : Nat), .int .i64 (kf : Nat)]) ∧ Below w.heap.size w w') := fun w => by rw [hkd, hkn, htx, hka, hkf]; exact tokenAt_any s i w hs hi
  have hts : tx.size = (tk s i).tx.length := by rw [htx, strOfNums_size]
  obtain ⟨pv, hpv⟩ : ∃ x, x = (rp s i most).1 := ⟨_, rfl⟩
  obtain ⟨pa, hpa⟩ : ∃ x, x = (rp s i most).2.1 := ⟨_, rfl⟩
  obtain ⟨pe, hpe⟩ : ∃ x, x = (rp s i most).2.2 := ⟨_, rfl⟩
  rw [← hpv, ← hpa, ← hpe]
  by_cases h5 : (tk s i).kind = 5
  · have hk5 : kd = 5 := by rw [hkd]; exact (tkK_eq (by omega) (by omega)).2 h5
    subst hk5
    by_cases hl : most < (tk s i).tx.length
    · have HE : Hid (pv = { data := #[] } ∧ pa = ka ∧ pe = 9) := by
        show _ ∧ _
        rw [hpv, hpa, hpe, hka]
        unfold rp
        rw [if_neg (not_not_intro h5), if_pos hl]
        exact ⟨rfl, rfl, rfl⟩
      have htl : most < tx.size := by omega
      have htl2 : tx.size ≤ 1000 := by omega
      clear hlim ht hkd hkn htx hka hkf hpv hpa hpe h5 hl hts
      go_enter Try.func82, Try.ntmps82
      go_wp2_with fail
      refine (HC.out _).mono ?_
      rintro e w1 ⟨rfl, hb1⟩
      go_wp2
      go_region
      all_goals
        go_wp2
        go_ret3
        exact ⟨by rw [HE.out.1, HE.out.2.1, HE.out.2.2]; rfl, (below_then hb1 (below_one _)).drew⟩
    · have HE : Hid (pv = tx ∧ pa = kf ∧ pe = 0) := by
        show _ ∧ _
        rw [hpv, hpa, hpe, htx, hkf, tkF_eq (by omega)]
        unfold rp
        rw [if_neg (not_not_intro h5), if_neg hl]
        exact ⟨rfl, rfl, rfl⟩
      have htl : tx.size ≤ most := by omega
      clear hlim ht hkd hkn htx hka hkf hpv hpa hpe h5 hl hts
      go_enter Try.func82, Try.ntmps82
      go_wp2_with fail
      refine (HC.out _).mono ?_
      rintro e w1 ⟨rfl, hb1⟩
      go_wp2
      go_region
      all_goals
        go_wp2
        go_ret3
        exact ⟨by rw [HE.out.1, HE.out.2.1, HE.out.2.2]; rfl, (below_then hb1 (below_one _)).drew⟩
  · have hk5 : kd ≠ 5 := fun h => h5 ((tkK_eq (by omega) (by omega)).1 (by rw [← hkd]; exact h))
    have hk5' : ((kd : Int) == 5) = false := beq_eq_false_iff_ne.2 (by omega)
    have HE : Hid (pv = { data := #[] } ∧ pa = ka ∧ pe = 8) := by
      show _ ∧ _
      rw [hpv, hpa, hpe, hka]
      unfold rp
      rw [if_pos h5]
      exact ⟨rfl, rfl, rfl⟩
    clear hlim ht hkd hkn htx hka hkf hpv hpa hpe h5 hts hk5
    go_enter Try.func82, Try.ntmps82
    go_wp2_with fail
    refine (HC.out _).mono ?_
    rintro e w1 ⟨rfl, hb1⟩
    go_wp2
    go_region
    all_goals
      go_wp2
      go_ret3
      exact ⟨by rw [HE.out.1, HE.out.2.1, HE.out.2.2]; rfl, (below_then hb1 (below_one _)).drew⟩

set_option maxHeartbeats 1000000 in
theorem relationFollows_any (s : ByteArray) (i : Nat) (w : World) (hs : s.size ≤ 1000) (hi : i ≤ s.size) :
    Calls Try.prog 75 #[.string s, .int .i64 (i : Nat)] w fun e w' => e = .returned (.bool (decide ((tk s i).kind = 3))) ∧ Below w.heap.size w w' := by
  obtain ⟨kd, hkd⟩ : ∃ x, x = tkK (tk s i) := ⟨_, rfl⟩
  obtain ⟨kn, hkn⟩ : ∃ x, x = (tk s i).n := ⟨_, rfl⟩
  obtain ⟨tx, htx⟩ : ∃ x, x = strOfNums (tk s i).tx := ⟨_, rfl⟩
  obtain ⟨ka, hka⟩ : ∃ x, x = (tk s i).at' := ⟨_, rfl⟩
  obtain ⟨kf, hkf⟩ : ∃ x, x = tkF (tk s i) := ⟨_, rfl⟩
  have HC : Hid (∀ w, Calls Try.prog 81 #[.string s, .int .i64 (i : Nat)] w fun e w' => e = .returned (.agg #[.int .i64 (kd : Nat), .int .i64 (kn : Nat), .string tx, .int .i64 (ka : Nat), .int .i64 (kf : Nat)]) ∧ Below w.heap.size w w') := fun w => by rw [hkd, hkn, htx, hka, hkf]; exact tokenAt_any s i w hs hi
  obtain ⟨bb, hbb⟩ : ∃ x, x = decide ((tk s i).kind = 3) := ⟨_, rfl⟩
  rw [← hbb]
  by_cases h3 : (tk s i).kind = 3
  · have hk3 : kd = 3 := by rw [hkd]; exact (tkK_eq (by omega) (by omega)).2 h3
    have hb3 : bb = true := by rw [hbb]; simp [h3]
    subst hk3
    subst hb3
    clear hkd hkn htx hka hkf hbb h3
    go_enter Try.func75, Try.ntmps75
    go_wp2_with fail
    refine (HC.out _).mono ?_
    rintro e w1 ⟨rfl, hb1⟩
    go_wp2
    go_ret
    exact ⟨rfl, below_then hb1 (below_one _)⟩
  · have hk3 : kd ≠ 3 := fun h => h3 ((tkK_eq (by omega) (by omega)).1 (by rw [← hkd]; exact h))
    have hk3' : ((kd : Int) == 3) = false := beq_eq_false_iff_ne.2 (by omega)
    have hb3 : bb = false := by rw [hbb]; simp [h3]
    subst hb3
    clear hkd hkn htx hka hkf hbb h3 hk3
    go_enter Try.func75, Try.ntmps75
    go_wp2_with fail
    refine (HC.out _).mono ?_
    rintro e w1 ⟨rfl, hb1⟩
    go_wp2
    go_ret
    exact ⟨rfl, below_then hb1 (below_one _)⟩

end Go.Proofs.Ytpclldccjpncdab
