import Derived.Test.YtpclldccjpncdabU01
import Derived.OrdersHeld
import Derived.Deep.RegionHeld3
import Derived.Deep.Cut
import Derived.Deep.CutRange
import Derived.Deep.DeepCutAuto
namespace Go.Proofs.Ytpclldccjpncdab
open Go

variable {P : Program} {ops : Array Oper} {Q : Exit → Act → World → Prop} {md : Region.Mode} {S : World → Prop}
/-- all orders, where S is held until the last operation z, which writes what S speaks of -/
def wpTill (P : Program) (md : Region.Mode) (ops : Array Oper) (Q : Exit → Act → World → Prop) (S : World → Prop) (z : Nat) : Nat → Array Bool → Act → World → Prop
  | 0, listed, a, w => Region.ready md ops listed = [] ∧ Q .normal a w
  | fuel + 1, listed, a, w => (Region.ready md ops listed = [] → Q .normal a w) ∧
      ∀ i ∈ Region.ready md ops listed, wpOp P ops Q i (fun a' w' => (i ≠ z → S w') ∧ wpTill P md ops Q S z fuel (listed.setIfInBounds i true) a' w') a w
theorem till_any {z : Nat} : ∀ (fuel : Nat) (listed : Array Bool) (a : Act) (w : World), wpTill P md ops Q S z fuel listed a w → wpAny P md ops Q fuel listed a w
  | 0, _, _, _, h => h
  | fuel + 1, _, _, _, h => by
    refine ⟨h.1, fun i hi => ?_⟩
    exact wpOp_mono (fun a' w' hk => till_any fuel _ a' w' hk.2) (h.2 i hi)
theorem set_swap (l : Array Bool) (i j : Nat) : (l.setIfInBounds i true).setIfInBounds j true = (l.setIfInBounds j true).setIfInBounds i true := by
  apply Array.ext
  · simp
  · intro k h1 h2
    have h3 : k < l.size := by simpa using h1
    rw [Array.getElem_setIfInBounds (by simpa using h3), Array.getElem_setIfInBounds h3, Array.getElem_setIfInBounds (by simpa using h3), Array.getElem_setIfInBounds h3]
    by_cases hi : i = k <;> by_cases hj : j = k <;> simp [hi, hj]
theorem till_take {i z : Nat} {oi oz : Oper} {v : Value} (hi : ops[i]? = some oi) (hz : ops[z]? = some oz) (hw : ∃ e ∈ oz.after, Region.binds md e = true ∧ e.on = i) (hsel : ∀ (j : Nat) (o : Oper) cs b, ops[j]? = some o → o.op ≠ .select cs b) (hQ : ∀ c a w, Q (.panic c) (a.put oi.dst v) w → Q (.panic c) a w) :
    ∀ (fuel : Nat) (listed : Array Bool) (a : Act) (w : World), (∀ j oj, ops[j]? = some oj → j ≠ i → listed.getD j true = false → (∀ e ∈ oj.after, Region.binds md e = true → e.on ≠ i) → oi.apart ops oj = true) → i ∈ Region.ready md ops listed → YieldsIf P ops S oi v a → S w → wpTill P md ops Q S z fuel (listed.setIfInBounds i true) (a.put oi.dst v) w → wpTill P md ops Q S z (fuel + 1) listed a w := by
  intro fuel
  induction fuel with
  | zero =>
    intro listed a w _ hir hy hS h
    refine ⟨fun h0 => (by rw [h0] at hir; cases hir), fun j hj => ?_⟩
    by_cases hji : j = i
    · subst hji
      exact hy.wpOp hi hS ⟨fun _ => hS, h⟩
    · have := ready_mono hj hji
      rw [h.1] at this
      cases this
  | succ f ih =>
    intro listed a w hfree hir hy hS h
    refine ⟨fun h0 => (by rw [h0] at hir; cases hir), fun j hj => ?_⟩
    by_cases hji : j = i
    · subst hji
      exact hy.wpOp hi hS ⟨fun _ => hS, h⟩
    · obtain ⟨hun, oj, hoj, hall⟩ := mem_ready.1 hj
      have hiu := (mem_ready.1 hir).1
      have hno : ∀ e ∈ oj.after, Region.binds md e = true → e.on ≠ i := fun e he hb hon => by
        have h1 := hall e he hb
        rw [hon] at h1
        rw [Array.getD_eq_getD_getElem?] at h1 hiu
        cases hg : listed[i]? with
        | none => rw [hg] at h1; cases h1
        | some b =>
          rw [hg] at h1 hiu
          have e1 : b = true := h1
          have e2 : b = false := hiu
          rw [e1] at e2
          cases e2
      have hjz : j ≠ z := fun e => by
        subst e
        rw [hoj] at hz
        injection hz with hz
        obtain ⟨e, he, hb, hon⟩ := hw
        rw [← hz] at he
        exact hno e he hb hon
      have hput := wpOp_putIf hoj (hfree j oj hoj hji hun hno) (fun cs b => hsel i oi cs b hi) (fun cs b => hsel j oj cs b hoj) hQ hy (h.2 j (ready_mono hj hji))
      refine wpOp_mono (fun a' w' hk => ?_) hput
      obtain ⟨hy', hS', hx⟩ := hk
      have hSw := hS' hjz
      rw [set_swap] at hx
      refine ⟨fun _ => hSw, ih _ a' w' (fun j2 o2 h2 hne hun2 hno2 => ?_) (ready_mono hir (Ne.symm hji)) hy' hSw hx⟩
      refine hfree j2 o2 h2 hne ?_ hno2
      rw [Array.getD_eq_getD_getElem?] at hun2 ⊢
      rw [Array.getElem?_setIfInBounds] at hun2
      by_cases hjj : j = j2
      · rw [if_pos hjj] at hun2
        split at hun2
        · cases hun2
        · cases hun2
      · rw [if_neg hjj] at hun2
        exact hun2

theorem till_step {i z : Nat} {oi oz : Oper} {d : Option Tmp} {v : Value} {fuel : Nat} {listed : Array Bool} {a : Act} {w : World} (hi : ops[i]? = some oi) (hz : ops[z]? = some oz) (hw : (oz.after.toList.any fun e => Region.binds md e && e.on == i) = true) (hs : Region.noSelect ops = true) (hf : Region.free md ops listed i = true) (hr : (Region.ready md ops listed).contains i = true)
    (hQ : ∀ c a w, Q (.panic c) (a.put oi.dst v) w → Q (.panic c) a w) (hy : YieldsIf P ops S oi v a) (hS : S w) (hd : oi.dst = d) (h : wpTill P md ops Q S z fuel (listed.setIfInBounds i true) (a.put d v) w) : wpTill P md ops Q S z (fuel + 1) listed a w := by
  subst hd
  refine till_take hi hz ?_ (Region.noSelect_spec hs) hQ fuel listed a w (Region.free_spec hi hf) (by simpa using hr) hy hS h
  obtain ⟨e, he, hb⟩ := List.any_eq_true.1 hw
  rw [Bool.and_eq_true] at hb
  exact ⟨e, Array.mem_toList_iff.1 he, hb.1, by simpa using hb.2⟩
theorem till_one {i z : Nat} {o : Oper} {fuel : Nat} {listed : Array Bool} {a : Act} {w : World} (hi : ops[i]? = some o) (hr : Region.ready md ops listed = [i])
    (h : if Region.wanted o (yielded ops a.tmps) = true then Oper.wp P o a w (fun a' w' => (i ≠ z → S w') ∧ wpTill P md ops Q S z fuel (listed.setIfInBounds i true) a' w') Q else (i ≠ z → S w) ∧ wpTill P md ops Q S z fuel (listed.setIfInBounds i true) (a.put o.dst undef) w) : wpTill P md ops Q S z (fuel + 1) listed a w := by
  refine ⟨fun h0 => (by rw [hr] at h0; cases h0), fun j hj => ?_⟩
  rw [hr, List.mem_singleton] at hj
  subst hj
  unfold wpOp
  rw [hi]
  simp only
  by_cases hwt : Region.wanted o (yielded ops a.tmps) = true
  · rw [if_pos hwt] at h ⊢
    exact .inl h
  · rw [if_neg hwt] at h ⊢
    exact h
theorem till_done {z : Nat} {listed : Array Bool} {a : Act} {w : World} (hr : Region.ready md ops listed = []) (h : Q .normal a w) (fuel : Nat) : wpTill P md ops Q S z fuel listed a w := by
  cases fuel with
  | zero => exact ⟨hr, h⟩
  | succ f => exact ⟨fun _ => h, fun i hi => by rw [hr] at hi; cases hi⟩
theorem region_till {id : Nat} {a : Act} {w : World} (S : World → Prop) (z : Nat) (hm : P.follows .mixedOrders = true) (h : wpTill P .any ops Q S z ops.size (Array.replicate ops.size false) a { w with drawn := w.drawn + 1 }) : (Code.region id ops true).wp P Q a w := wp_region_any hm (till_any _ _ _ _ h)

end Go.Proofs.Ytpclldccjpncdab

namespace Go.Proofs.Ytpclldccjpncdab
open Go.RowKit

structure RuG (k : Nat) (x : Rl) (i : Nat) : Prop where
  text : 1 ≤ x.text.size ∧ x.text.size ≤ 2
  level : 0 ≤ x.level ∧ x.level ≤ 3
  before : 0 ≤ x.before ∧ x.before ≤ 3
  reset : x.reset.size ≤ 2 ∧ SpL k x.reset
  bef : x.before = 0 ∨ x.reset.size ≠ 0
  one : i = 0 → x.reset.size ≠ 0
  more : x.more.size ≤ 1 ∧ SpL k x.more
theorem rug_snoc {k : Nat} {L : List Rl} {r : Rl} (h : ∀ j, j < L.length → RuG k (L.getD j default) j) (hr : RuG k r L.length) : ∀ j, j < (L ++ [r]).length → RuG k ((L ++ [r]).getD j default) j := fun j hj => by
  rw [List.length_append] at hj
  have hj' : j < L.length + 1 := hj
  rw [List.getD_eq_getElem?_getD]
  by_cases e : j < L.length
  · rw [List.getElem?_append_left e, ← List.getD_eq_getElem?_getD]
    exact h j e
  · have e' : j = L.length := by omega
    subst e'
    rw [List.getElem?_append_right (Nat.le_refl _), Nat.sub_self]
    exact hr
theorem spL_ltr {k i : Nat} (h : i < k) : SpL k (ltr i) := by
  have := spL_add (spL_nil k) h
  have e : ByteArray.empty ++ ltr i = ltr i := by rw [ByteArray.empty_append]
  rwa [e] at this

structure RuSt (w0 wc : World) (x : Rl) : Prop where
  row : wc.rowIs w0.heap.size 48 5 (rlV x)
  bel : Below w0.heap.size w0 wc
  size : wc.heap.size = w0.heap.size + 1
theorem lt5R {j : Nat} (h : j < 5) : j = 0 ∨ j = 1 ∨ j = 2 ∨ j = 3 ∨ j = 4 := by omega
theorem RuSt.set0 {w0 wc : World} {u0 u3 u4 : ByteArray} {b l : Int} (h : RuSt w0 wc ⟨u0, b, l, u3, u4⟩) (x : ByteArray) : RuSt w0 (wc.setCell ⟨w0.heap.size, 0, none⟩ (.string x)) ⟨x, b, l, u3, u4⟩ :=
  ⟨(h.row.set 0 _).congr fun j hj => by rcases lt5R hj with rfl | rfl | rfl | rfl | rfl <;> rfl, (OnlyRow.setCell _ _ _ _).below h.bel (Nat.le_refl _), by rw [← h.size]; simp [World.setCell]⟩
theorem RuSt.set1 {w0 wc : World} {u0 u3 u4 : ByteArray} {b l : Int} (h : RuSt w0 wc ⟨u0, b, l, u3, u4⟩) (x : Int) : RuSt w0 (wc.setCell ⟨w0.heap.size, 1, none⟩ (.int .i64 x)) ⟨u0, x, l, u3, u4⟩ :=
  ⟨(h.row.set 1 _).congr fun j hj => by rcases lt5R hj with rfl | rfl | rfl | rfl | rfl <;> rfl, (OnlyRow.setCell _ _ _ _).below h.bel (Nat.le_refl _), by rw [← h.size]; simp [World.setCell]⟩
theorem RuSt.set2 {w0 wc : World} {u0 u3 u4 : ByteArray} {b l : Int} (h : RuSt w0 wc ⟨u0, b, l, u3, u4⟩) (x : Int) : RuSt w0 (wc.setCell ⟨w0.heap.size, 2, none⟩ (.int .i64 x)) ⟨u0, b, x, u3, u4⟩ :=
  ⟨(h.row.set 2 _).congr fun j hj => by rcases lt5R hj with rfl | rfl | rfl | rfl | rfl <;> rfl, (OnlyRow.setCell _ _ _ _).below h.bel (Nat.le_refl _), by rw [← h.size]; simp [World.setCell]⟩
theorem RuSt.set3 {w0 wc : World} {u0 u3 u4 : ByteArray} {b l : Int} (h : RuSt w0 wc ⟨u0, b, l, u3, u4⟩) (x : ByteArray) : RuSt w0 (wc.setCell ⟨w0.heap.size, 3, none⟩ (.string x)) ⟨u0, b, l, x, u4⟩ :=
  ⟨(h.row.set 3 _).congr fun j hj => by rcases lt5R hj with rfl | rfl | rfl | rfl | rfl <;> rfl, (OnlyRow.setCell _ _ _ _).below h.bel (Nat.le_refl _), by rw [← h.size]; simp [World.setCell]⟩
theorem RuSt.set4 {w0 wc : World} {u0 u3 u4 : ByteArray} {b l : Int} (h : RuSt w0 wc ⟨u0, b, l, u3, u4⟩) (x : ByteArray) : RuSt w0 (wc.setCell ⟨w0.heap.size, 4, none⟩ (.string x)) ⟨u0, b, l, u3, x⟩ :=
  ⟨(h.row.set 4 _).congr fun j hj => by rcases lt5R hj with rfl | rfl | rfl | rfl | rfl <;> rfl, (OnlyRow.setCell _ _ _ _).below h.bel (Nat.le_refl _), by rw [← h.size]; simp [World.setCell]⟩
theorem RuSt.drew {w0 wc : World} {x : Rl} (h : RuSt w0 wc x) : RuSt w0 wc.drew x := ⟨h.row.drew, h.bel.drew, h.size⟩
theorem RuSt.cells {w0 wc : World} {u0 u3 u4 : ByteArray} {b l : Int} (h : RuSt w0 wc ⟨u0, b, l, u3, u4⟩) : (wc.cell? ⟨w0.heap.size, 0, none⟩ = some (.string u0) ∧ wc.cell? ⟨w0.heap.size, 1, none⟩ = some (.int .i64 b) ∧ wc.cell? ⟨w0.heap.size, 2, none⟩ = some (.int .i64 l) ∧ wc.cell? ⟨w0.heap.size, 3, none⟩ = some (.string u3) ∧ wc.cell? ⟨w0.heap.size, 4, none⟩ = some (.string u4)) ∧ (wc.frozen? ⟨w0.heap.size, 0, none⟩ = false ∧ wc.frozen? ⟨w0.heap.size, 1, none⟩ = false ∧ wc.frozen? ⟨w0.heap.size, 2, none⟩ = false ∧ wc.frozen? ⟨w0.heap.size, 3, none⟩ = false ∧ wc.frozen? ⟨w0.heap.size, 4, none⟩ = false) := rowR h.row

set_option maxRecDepth 100000 in
set_option maxHeartbeats 4000000 in
theorem ruled_any (L : Lay) (k : Nat) (rk rc rb ro : Nat) (ra : Option Addr) (rz : Nat → Int) (w : World) (h : L.In w.heap.size w) (hm : L.m ≤ 48) (hk : 1 ≤ k ∧ k ≤ 12) (ho : ones L L.m = k) (hr : RawIn w.heap.size w ra rk rb ro rz) :
    Calls Try.prog 8 #[.agg #[.slice L.na L.n L.nc, .slice L.ea L.m L.ec], .slice ra rk rc] w fun e w' => ∃ (l : List Rl) (v : Value), e = .returned v ∧ Hid ((1 ≤ l.length ∧ l.length ≤ 4) ∧ ∀ j, j < l.length → RuG k (l.getD j default) j) ∧ Hid (w'.ownsRow w.heap.size 48 5 v l.length (rulC l)) ∧ Below w.heap.size w w' := by
  obtain ⟨i0, hi0, hq0, hq1, hq2⟩ := info_parts infoRulC
  have HL : Hid (L.In w.heap.size w) := h
  have HR : Hid (RawIn w.heap.size w ra rk rb ro rz) := hr
  have HO : Hid (ones L L.m = k) := ho
  have hrk := hr.ints.le
  obtain ⟨hk1, hk12⟩ := hk
  clear h hr ho
  go_enter Try.func8, Try.ntmps8
  go_wp2_with fail
  refine (singles_any L _ (HL.out.later (below_one _)) hm).mono ?_
  rintro e w1 ⟨rfl, hb1⟩
  rw [HO.out]
  have HB1 : Hid (Below w.heap.size w w1) := below_then (below_one _) hb1
  clear hb1
  go_wp2
  go_loopw [6, 7] (fun v iv wr => ∃ (i : Nat) (l : List Rl), Hid (∀ j, j < l.length → RuG k (l.getD j default) j) ∧ Hid (i < rk → i < 4 ∨ i = 4) ∧ i ≤ 4 ∧ i ≤ rk ∧ l.length = i ∧ iv = .int .i64 (i : Nat) ∧ Below w.heap.size w wr ∧ wr.ownsRow w.heap.size 48 5 v l.length (rulC l)) (fun _ iv _ => 4 - (intOf iv).toNat)
  case atStart => exact ⟨0, [], (fun j hj => by simp at hj), (fun _ => by omega), by omega, by omega, rfl, rfl, HB1.out, World.ownsRow_nil _ _ _ _⟩
  case round =>
    obtain ⟨i, l, HF, _, hi4, hirk, hLi, rfl, hbel, hown⟩ := hrel
    obtain ⟨vo9, vc9, hv9⟩ := ownC_shape hown
    subst hv9
    rw [hLi] at hown ⊢
    have HOW : Hid (wr.ownsRow w.heap.size 48 5 (.slice vo9 i vc9) i (rulC l)) := hown
    have HLI : Hid (l.length = i) := hLi
    clear hown hLi
    have hsz := hbel.size
    by_cases hgo : i < rk ∧ i < 4
    · obtain ⟨hlt, hlt4⟩ := hgo
      have hbb := HR.out.ints.lt (by omega)
      have c0 := cellTo hbel (HR.out.ints.cell i hlt) hbb
      have ha := HR.out.ints.addr (by omega)
      subst ha
      have hxr := HR.out.range i hlt
      obtain ⟨x, hx⟩ : ∃ x, x = rz i := ⟨_, rfl⟩
      rw [← hx] at c0 hxr
      clear hx
      have dd1 : decide ((i : Int) < 4) = true := by simp; omega
      have dd2 : decide (i < 4) = true := by simp; omega
      have HXR : Hid (∀ d : Int, 1 ≤ d → -9223372036854775808 ≤ x.tdiv d ∧ x.tdiv d ≤ 9223372036854775807) := fun d hd => quoIn x hxr d hd
      go_upto_region 8 with (go_at_call 17; refine (pick_any _ _ _ (HXR.out _ (by omega)) (by omega)).mono ?_; rintro e wq ⟨p, rfl, hp, hwq⟩; obtain rfl := hwq.symm; clear hwq; dsimp only)
      have ew : IntKind.i64.wrap ((p : Int) + 1) = (p : Int) + 1 := IntWalk.i64_in _ (by omega)
      have hp20 : (p : Int) + 1 ≤ 20 := by omega
      have hpt : ((p : Int) + 1).toNat = p + 1 := by omega
      have hex : (({ data := #[97, 98, 99, 100, 101, 102, 103, 104, 105, 106, 107, 108, 109, 110, 111, 112, 113, 114, 115, 116] } : ByteArray).extract p (p + 1)).size = 1 := by rw [ByteArray.size_extract]; show min (p + 1) 20 - p = 1; omega
      go_cut [10] from 30 to 36 (fun pv wc => ∃ (lv : Nat) (t : ByteArray), pv = .pointer (some ⟨wr.heap.size, 0, none⟩) ∧ lv < 4 ∧ t.size = 1 ∧ Hid (RuSt wr wc ⟨{ data := #[] }, 0, (lv : Nat), t, { data := #[] }⟩))
      case first =>
        go_region_with (go_at_call 17; refine (pick_any _ _ _ hxr (by omega)).mono ?_; rintro e wq ⟨r, rfl, hr, hwq⟩; obtain rfl := hwq.symm; clear hwq; dsimp only)
        all_goals
          go_wp2
          go_meet
          refine ⟨_, _, rfl, ?_, hex, ⟨(row_at (row_new _ _ _ 5 rfl) (by rfl) (fun _ _ => rfl)).drew, (below_one _).drew, by simp⟩⟩
          omega
      case rest =>
        rename World => wc
        obtain ⟨lv, t, rfl, hlv, ht, HS0⟩ := hcut
        clear ew hp20 hpt hex c0 hp
        go_upto_if 40 with (go_at_call 17; refine (pick_any _ _ _ (HXR.out _ (by omega)) (by omega)).mono ?_; rintro e wq ⟨r, rfl, hr, hwq⟩; obtain rfl := hwq.symm; clear hwq; dsimp only)
        obtain ⟨⟨c0, c1, c2, c3, c4⟩, f0, f1, f2, f3, f4⟩ := HS0.out.cells
        go_cut [] from 37 to 49 (fun wd => ∃ t' : ByteArray, 1 ≤ t'.size ∧ t'.size ≤ 2 ∧ Hid (RuSt wr wd ⟨{ data := #[] }, 0, (lv : Nat), t', { data := #[] }⟩))
        case first =>
          by_cases hr0 : r = 0
          · subst hr0
            go_wp2
            have hS0 : (fun w' : World => w'.cell? ⟨wr.heap.size, 3, none⟩ = some (.string t)) wc.drew := c3
            refine region_till (fun w' : World => w'.cell? ⟨wr.heap.size, 3, none⟩ = some (.string t)) 9 (by kernel_rfl) ?_
            show wpTill _ _ _ _ _ _ 10 (Array.replicate 10 false) _ wc.drew
            refine till_step (i := 0) (z := 9) (d := some 41) (v := ?v0) rfl rfl (by kernel_rfl) (by kernel_rfl) (by kernel_rfl) (by kernel_rfl) (fun _ _ _ h => h) (Or.inl ⟨by rfl, ?hy0⟩) hS0 rfl ?rest0
            case hy0 =>
              intro wz s1
              go_simp
              try with_reducible rfl
            simp only [Act.put, List.setIfInBounds_toArray, List.set_cons_zero, List.set_cons_succ]
            refine till_step (i := 1) (z := 9) (d := some 42) (v := ?v1) rfl rfl (by kernel_rfl) (by kernel_rfl) (by kernel_rfl) (by kernel_rfl) (fun _ _ _ h => h) (Or.inl ⟨by rfl, ?hy1⟩) hS0 rfl ?rest1
            case hy1 =>
              intro wz s1
              go_simp
              try with_reducible rfl
            simp only [Act.put, List.setIfInBounds_toArray, List.set_cons_zero, List.set_cons_succ]
            refine till_step (i := 2) (z := 9) (d := some 43) (v := ?v2) rfl rfl (by kernel_rfl) (by kernel_rfl) (by kernel_rfl) (by kernel_rfl) (fun _ _ _ h => h) (Or.inl ⟨by rfl, ?hy2⟩) hS0 rfl ?rest2
            case hy2 =>
              intro wz s1
              go_simp
              try with_reducible rfl
            simp only [Act.put, List.setIfInBounds_toArray, List.set_cons_zero, List.set_cons_succ]
            refine till_step (i := 3) (z := 9) (d := some 44) (v := ?v3) rfl rfl (by kernel_rfl) (by kernel_rfl) (by kernel_rfl) (by kernel_rfl) (fun _ _ _ h => h) (Or.inl ⟨by rfl, ?hy3⟩) hS0 rfl ?rest3
            case hy3 =>
              intro wz s1
              go_simp
              try with_reducible rfl
            simp only [Act.put, List.setIfInBounds_toArray, List.set_cons_zero, List.set_cons_succ]
            refine till_step (i := 4) (z := 9) (d := some 45) (v := ?v4) rfl rfl (by kernel_rfl) (by kernel_rfl) (by kernel_rfl) (by kernel_rfl) (fun _ _ _ h => h) (Or.inl ⟨by rfl, ?hy4⟩) hS0 rfl ?rest4
            case hy4 =>
              intro wz s1
              go_simp
              try with_reducible rfl
            simp only [Act.put, List.setIfInBounds_toArray, List.set_cons_zero, List.set_cons_succ]
            refine till_one (i := 5) (z := 9) rfl (by kernel_rfl) ?c5
            go_simp
            go_at_call 17
            refine (pick_any _ _ _ (wrapIn _) (by omega)).mono ?_
            rintro e wq ⟨r2, rfl, hr2, hwq⟩
            obtain rfl := hwq.symm
            clear hwq
            have hls := ltr_size r2
            dsimp only
            refine ⟨hS0, ?_⟩
            try simp only [Act.put, List.setIfInBounds_toArray, List.set_cons_zero, List.set_cons_succ]
            refine till_one (i := 6) (z := 9) rfl (by kernel_rfl) ?c6
            go_simp
            go_at_call 27
            refine (letter_any r2 _ (by omega)).mono ?_
            rintro e wq ⟨rfl, hwq⟩
            obtain rfl := hwq.symm
            clear hwq
            dsimp only
            refine ⟨hS0, ?_⟩
            try simp only [Act.put, List.setIfInBounds_toArray, List.set_cons_zero, List.set_cons_succ]
            refine till_one (i := 7) (z := 9) rfl (by kernel_rfl) ?c7
            go_simp
            refine till_one (i := 8) (z := 9) rfl (by kernel_rfl) ?c8
            go_simp
            refine till_one (i := 9) (z := 9) rfl (by kernel_rfl) ?c9
            go_simp
            refine till_done (by kernel_rfl) ?_ _
            go_wp2
            go_meet
            exact ⟨t ++ ltr r2, by rw [ByteArray.size_append, hls]; omega, by rw [ByteArray.size_append, hls]; omega, (HS0.out.set3 _).drew⟩
          · have hr0' : ((r : Int) == 0) = false := beq_eq_false_iff_ne.2 (by omega)
            go_wp2
            go_meet
            exact ⟨t, by omega, by omega, HS0⟩
        case rest =>
          rename World => wd
          obtain ⟨t', ht1, ht2, HS1⟩ := hcut
          clear c0 c1 c2 c3 c4 f0 f1 f2 f3 f4 HS0 ht hr
          go_upto_region 11 with (fail)
          go_cut [57] from 50 to 57 (fun bv wx => ∃ bb : Bool, bv = .bool bb ∧ (i = 0 → bb = true) ∧ wx = wd)
          case first =>
            by_cases h0 : i = 0
            · have h0' : ((i : Int) == 0) = true := by simp [h0]
              go_wp2
              go_meet
              exact ⟨true, rfl, fun _ => rfl, rfl⟩
            · have h0' : ((i : Int) == 0) = false := beq_eq_false_iff_ne.2 (by omega)
              go_wp2_with fail
              refine (pick_any _ _ _ (HXR.out _ (by omega)) (by omega)).mono ?_
              rintro e wq ⟨r3, rfl, hr3, hwq⟩
              obtain rfl := hwq.symm
              clear hwq
              go_wp2
              go_meet
              exact ⟨_, rfl, fun h => absurd h h0, rfl⟩
          case rest =>
            rename World => wy
            obtain ⟨bb, rfl, hbb, hwx⟩ := hcut
            subst hwx
            have HBB : Hid (i = 0 → bb = true) := hbb
            clear hbb
            go_upto_if 57 with (fail)
            go_cut [] from 58 to 92 (fun wx => ∃ (R : ByteArray) (b lv' : Nat), R.size ≤ 2 ∧ lv' < 4 ∧ b < 4 ∧ Hid (SpL k R ∧ (b = 0 ∨ R.size ≠ 0) ∧ (i = 0 → R.size ≠ 0)) ∧ Hid (RuSt wr wx ⟨R, (b : Nat), (lv' : Nat), t', { data := #[] }⟩))
            case first =>
              cases bb with
              | false =>
                go_wp2
                go_meet
                exact ⟨{ data := #[] }, 0, lv, by decide, hlv, by decide, ⟨fun p hp => absurd hp (Nat.not_lt_zero _), .inl rfl, fun h => by have := HBB.out h; cases this⟩, HS1⟩
              | true =>
                obtain ⟨⟨c0, c1, c2, c3, c4⟩, f0, f1, f2, f3, f4⟩ := HS1.out.cells
                go_wp2_with fail
                refine (pick_any _ _ _ (HXR.out _ (by omega)) (by omega)).mono ?_
                rintro e wq ⟨r3, rfl, hr3, hwq⟩
                obtain rfl := hwq.symm
                clear hwq
                go_wp2_with fail
                refine (letter_any r3 _ (by omega)).mono ?_
                rintro e wq ⟨rfl, hwq⟩
                obtain rfl := hwq.symm
                clear hwq
                have hls3 := ltr_size r3
                obtain ⟨we, hwe⟩ : ∃ we, we = wy.setCell ⟨wr.heap.size, 0, none⟩ (.string (ltr r3)) := ⟨_, rfl⟩
                have HS2 : Hid (RuSt wr we ⟨ltr r3, 0, (lv : Nat), t', { data := #[] }⟩) := by rw [hwe]; exact HS1.out.set0 _
                go_upto_if 67 with (go_at_call 17; refine (pick_any _ _ _ (HXR.out _ (by omega)) (by omega)).mono ?_; rintro e wq ⟨r4, rfl, hr4, hwq⟩; obtain rfl := hwq.symm; clear hwq; dsimp only)
                rw [← hwe]
                clear hwe c0 c1 c2 c3 c4 f0 f1 f2 f3 f4
                obtain ⟨⟨c0, c1, c2, c3, c4⟩, f0, f1, f2, f3, f4⟩ := HS2.out.cells
                go_cut [] from 68 to 76 (fun wx => ∃ R : ByteArray, 1 ≤ R.size ∧ R.size ≤ 2 ∧ Hid (SpL k R) ∧ Hid (RuSt wr wx ⟨R, 0, (lv : Nat), t', { data := #[] }⟩))
                case first =>
                  by_cases hr0 : r4 = 0
                  · subst hr0
                    go_wp2
                    have hS0 : (fun w' : World => w'.cell? ⟨wr.heap.size, 0, none⟩ = some (.string (ltr r3))) we.drew := c0
                    refine region_till (fun w' : World => w'.cell? ⟨wr.heap.size, 0, none⟩ = some (.string (ltr r3))) 9 (by kernel_rfl) ?_
                    show wpTill _ _ _ _ _ _ 10 (Array.replicate 10 false) _ we.drew
                    refine till_step (i := 0) (z := 9) (d := some 68) (v := ?vb0) rfl rfl (by kernel_rfl) (by kernel_rfl) (by kernel_rfl) (by kernel_rfl) (fun _ _ _ h => h) (Or.inl ⟨by rfl, ?hyb0⟩) hS0 rfl ?restb0
                    case hyb0 =>
                      intro wz s1
                      go_simp
                      try with_reducible rfl
                    simp only [Act.put, List.setIfInBounds_toArray, List.set_cons_zero, List.set_cons_succ]
                    refine till_step (i := 1) (z := 9) (d := some 69) (v := ?vb1) rfl rfl (by kernel_rfl) (by kernel_rfl) (by kernel_rfl) (by kernel_rfl) (fun _ _ _ h => h) (Or.inl ⟨by rfl, ?hyb1⟩) hS0 rfl ?restb1
                    case hyb1 =>
                      intro wz s1
                      go_simp
                      try with_reducible rfl
                    simp only [Act.put, List.setIfInBounds_toArray, List.set_cons_zero, List.set_cons_succ]
                    refine till_step (i := 2) (z := 9) (d := some 70) (v := ?vb2) rfl rfl (by kernel_rfl) (by kernel_rfl) (by kernel_rfl) (by kernel_rfl) (fun _ _ _ h => h) (Or.inl ⟨by rfl, ?hyb2⟩) hS0 rfl ?restb2
                    case hyb2 =>
                      intro wz s1
                      go_simp
                      try with_reducible rfl
                    simp only [Act.put, List.setIfInBounds_toArray, List.set_cons_zero, List.set_cons_succ]
                    refine till_step (i := 3) (z := 9) (d := some 71) (v := ?vb3) rfl rfl (by kernel_rfl) (by kernel_rfl) (by kernel_rfl) (by kernel_rfl) (fun _ _ _ h => h) (Or.inl ⟨by rfl, ?hyb3⟩) hS0 rfl ?restb3
                    case hyb3 =>
                      intro wz s1
                      go_simp
                      try with_reducible rfl
                    simp only [Act.put, List.setIfInBounds_toArray, List.set_cons_zero, List.set_cons_succ]
                    refine till_step (i := 4) (z := 9) (d := some 72) (v := ?vb4) rfl rfl (by kernel_rfl) (by kernel_rfl) (by kernel_rfl) (by kernel_rfl) (fun _ _ _ h => h) (Or.inl ⟨by rfl, ?hyb4⟩) hS0 rfl ?restb4
                    case hyb4 =>
                      intro wz s1
                      go_simp
                      try with_reducible rfl
                    simp only [Act.put, List.setIfInBounds_toArray, List.set_cons_zero, List.set_cons_succ]
                    refine till_one (i := 5) (z := 9) rfl (by kernel_rfl) ?cb5
                    go_simp
                    go_at_call 17
                    refine (pick_any _ _ _ (wrapIn _) (by omega)).mono ?_
                    rintro e wq ⟨r2, rfl, hr2, hwq⟩
                    obtain rfl := hwq.symm
                    clear hwq
                    have hls := ltr_size r2
                    dsimp only
                    refine ⟨hS0, ?_⟩
                    try simp only [Act.put, List.setIfInBounds_toArray, List.set_cons_zero, List.set_cons_succ]
                    refine till_one (i := 6) (z := 9) rfl (by kernel_rfl) ?cb6
                    go_simp
                    go_at_call 27
                    refine (letter_any r2 _ (by omega)).mono ?_
                    rintro e wq ⟨rfl, hwq⟩
                    obtain rfl := hwq.symm
                    clear hwq
                    dsimp only
                    refine ⟨hS0, ?_⟩
                    try simp only [Act.put, List.setIfInBounds_toArray, List.set_cons_zero, List.set_cons_succ]
                    refine till_one (i := 7) (z := 9) rfl (by kernel_rfl) ?cb7
                    go_simp
                    refine till_one (i := 8) (z := 9) rfl (by kernel_rfl) ?cb8
                    go_simp
                    refine till_one (i := 9) (z := 9) rfl (by kernel_rfl) ?cb9
                    go_simp
                    refine till_done (by kernel_rfl) ?_ _
                    go_wp2
                    go_meet
                    exact ⟨ltr r3 ++ ltr r2, by rw [ByteArray.size_append, hls, hls3]; omega, by rw [ByteArray.size_append, hls, hls3]; omega, spL_add (spL_ltr (by omega)) (by omega), (HS2.out.set0 _).drew⟩
                  · have hr0' : ((r4 : Int) == 0) = false := beq_eq_false_iff_ne.2 (by omega)
                    go_wp2
                    go_meet
                    exact ⟨ltr r3, by omega, by omega, spL_ltr (by omega), HS2⟩
                case rest =>
                  rename World => wf
                  obtain ⟨R, hR1, hR2, HSP, HS3⟩ := hcut
                  clear c0 c1 c2 c3 c4 f0 f1 f2 f3 f4 HS2
                  go_upto_if 80 with (go_at_call 17; refine (pick_any _ _ _ (HXR.out _ (by omega)) (by omega)).mono ?_; rintro e wq ⟨r5, rfl, hr5, hwq⟩; obtain rfl := hwq.symm; clear hwq; dsimp only)
                  by_cases hr0 : r5 = 0
                  · subst hr0
                    obtain ⟨⟨c0, c1, c2, c3, c4⟩, f0, f1, f2, f3, f4⟩ := HS3.out.cells
                    go_wp2_with fail
                    refine (pick_any _ _ _ (HXR.out _ (by omega)) (by omega)).mono ?_
                    rintro e wq ⟨r6, rfl, hr6, hwq⟩
                    obtain rfl := hwq.symm
                    clear hwq
                    obtain ⟨b, eb, hb1, hb3⟩ : ∃ b : Nat, IntKind.i64.wrap ((1 : Int) + (r6 : Nat)) = (b : Nat) ∧ 1 ≤ b ∧ b ≤ 3 := ⟨1 + r6, by rw [IntWalk.i64_in _ (by omega)]; omega, by omega, by omega⟩
                    obtain ⟨wg, hwg⟩ : ∃ wg, wg = wf.setCell ⟨wr.heap.size, 1, none⟩ (.int .i64 (b : Nat)) := ⟨_, rfl⟩
                    have HS4 : Hid (RuSt wr wg ⟨R, (b : Nat), (lv : Nat), t', { data := #[] }⟩) := by rw [hwg]; exact HS3.out.set1 _
                    clear hr6
                    go_upto_if 89 with (go_at_call 17; refine (pick_any _ _ _ (HXR.out _ (by omega)) (by omega)).mono ?_; rintro e wq ⟨r7, rfl, hr7, hwq⟩; obtain rfl := hwq.symm; clear hwq; dsimp only)
                    rw [← hwg]
                    clear hwg c0 c1 c2 c3 c4 f0 f1 f2 f3 f4
                    obtain ⟨⟨c0, c1, c2, c3, c4⟩, f0, f1, f2, f3, f4⟩ := HS4.out.cells
                    by_cases hr1 : 0 < r7
                    · go_wp2
                      go_meet
                      exact ⟨R, b, b, hR2, by omega, by omega, ⟨HSP.out, .inr (by omega), fun _ => by omega⟩, HS4.out.set2 _⟩
                    · go_wp2
                      go_meet
                      exact ⟨R, b, lv, hR2, hlv, by omega, ⟨HSP.out, .inr (by omega), fun _ => by omega⟩, HS4⟩
                  · have hr0' : ((r5 : Int) == 0) = false := beq_eq_false_iff_ne.2 (by omega)
                    go_wp2
                    go_meet
                    exact ⟨R, 0, lv, hR2, hlv, by omega, ⟨HSP.out, .inl rfl, fun _ => by omega⟩, HS3⟩
            case rest =>
              rename World => wh
              obtain ⟨R, b, lv', hR2, hlv', hb4, HG, HS5⟩ := hcut
              clear HBB HS1 hlv
              go_upto_if 96 with (go_at_call 17; refine (pick_any _ _ _ (HXR.out _ (by omega)) (by omega)).mono ?_; rintro e wq ⟨r8, rfl, hr8, hwq⟩; obtain rfl := hwq.symm; clear hwq; dsimp only)
              obtain ⟨⟨c0, c1, c2, c3, c4⟩, f0, f1, f2, f3, f4⟩ := HS5.out.cells
              go_cut [] from 97 to 102 (fun wx => ∃ m : ByteArray, m.size ≤ 1 ∧ Hid (SpL k m) ∧ Hid (RuSt wr wx ⟨R, (b : Nat), (lv' : Nat), t', m⟩))
              case first =>
                by_cases hr0 : r8 = 0
                · subst hr0
                  go_wp2_with fail
                  refine (pick_any _ _ _ (HXR.out _ (by omega)) (by omega)).mono ?_
                  rintro e wq ⟨r9, rfl, hr9, hwq⟩
                  obtain rfl := hwq.symm
                  clear hwq
                  go_wp2_with fail
                  refine (letter_any r9 _ (by omega)).mono ?_
                  rintro e wq ⟨rfl, hwq⟩
                  obtain rfl := hwq.symm
                  clear hwq
                  go_wp2
                  go_meet
                  exact ⟨ltr r9, by rw [ltr_size]; omega, spL_ltr (by omega), HS5.out.set4 _⟩
                · have hr0' : ((r8 : Int) == 0) = false := beq_eq_false_iff_ne.2 (by omega)
                  go_wp2
                  go_meet
                  exact ⟨{ data := #[] }, by decide, fun p hp => absurd hp (Nat.not_lt_zero _), HS5⟩
              case rest =>
                rename World => wj
                obtain ⟨m, hm1, HSM, HS6⟩ := hcut
                clear c0 c1 c2 c3 c4 f0 f1 f2 f3 f4 HS5
                obtain ⟨⟨c0, c1, c2, c3, c4⟩, _⟩ := HS6.out.cells
                have hwj : wj.heap.size = wr.heap.size + 1 := HS6.out.size
                have HWJ : Hid (wj.heap.size = wr.heap.size + 1) := hwj
                have HOJ : Hid (wj.ownsRow w.heap.size 48 5 (.slice vo9 i vc9) i (rulC l)) := ownC_below HOW.out HS6.out.bel
                have HBJ : Hid (Below w.heap.size w wj) := below_then hbel HS6.out.bel
                have HFN : Hid (∀ j, j < (l ++ [Rl.mk R (b : Nat) (lv' : Nat) t' m]).length → RuG k ((l ++ [Rl.mk R (b : Nat) (lv' : Nat) t' m]).getD j default) j) := rug_snoc HF.out (by
                  rw [HLI.out]
                  exact ⟨⟨ht1, ht2⟩, ⟨by show (0 : Int) ≤ (lv' : Nat); omega, by show ((lv' : Nat) : Int) ≤ 3; omega⟩, ⟨by show (0 : Int) ≤ (b : Nat); omega, by show ((b : Nat) : Int) ≤ 3; omega⟩, ⟨hR2, HG.out.1⟩, HG.out.2.1.imp (fun h => by show ((b : Nat) : Int) = 0; omega) id, HG.out.2.2, ⟨hm1, HSM.out⟩⟩)
                have HLN : Hid ((l ++ [Rl.mk R (b : Nat) (lv' : Nat) t' m]).length = i + 1) := by show _ = _; rw [List.length_append, HLI.out]; rfl
                clear hwj hR2 hlv' hb4 ht1 ht2 hm1
                go_wp2_with (first
                  | (at_builtin; refine wpList_append_lies _ (by rfl) (.tmp 103) (.tmp 105) 29 (by rfl) w.heap.size 48 i0 (.agg #[.string ByteArray.empty, .int .i64 0, .int .i64 0, .string ByteArray.empty, .string ByteArray.empty]) 5 64 Try.underlying29 hi0 hq0 hq1 hq2 rfl (by omega) _ i _ (by rfl) (HOJ.out.alloc _) ⟨wj.heap.size, 0, none⟩ 1 1 [.string R, .int .i64 (b : Nat), .int .i64 (lv' : Nat), .string t', .string m] (by rfl) (by rfl) ?d1 ?d2 (by omega) ?d3 ?d5 ?d4 (wj.heap.size + 1) ?d6 ?_))
                case d1 => exact newC5 _ rfl _ _ _ _ _ _
                case d2 => intro u hu; simp at hu; rcases hu with rfl | rfl | rfl | rfl | rfl <;> rfl
                case d3 => unfold maxLen; omega
                case d5 => omega
                case d4 => rw [size_one, HWJ.out]; omega
                case d6 => rw [size_one]
                · intro g3 cap3 w3 hown3 hgrow3 _ _
                  have HB3 : Hid (Below w.heap.size w w3) := ownC_grown_below (below_then HBJ.out (below_one _)) (by rw [size_one, HWJ.out]; omega) (HOJ.out.alloc _) (Nat.le_refl _) hgrow3
                  have HO3 : Hid (w3.ownsRow w.heap.size 48 5 (.slice (some ⟨g3, 0, none⟩) (i + 1) cap3) (l ++ [Rl.mk R (b : Nat) (lv' : Nat) t' m]).length (rulC (l ++ [Rl.mk R (b : Nat) (lv' : Nat) t' m]))) := by
                    show World.ownsRow _ _ _ _ _ _ _
                    rw [rulC_snoc, List.length_append, HLI.out]
                    exact hown3
                  clear hown3 hgrow3 c0 c1 c2 c3 c4
                  go_wp2
                  go_roundw
                  case rel => exact ⟨i + 1, l ++ [Rl.mk R (b : Nat) (lv' : Nat) t' m], HFN, (fun _ => by omega), by omega, by omega, HLN.out, by go_num, HB3.out, HO3.out⟩
                  case measure => simp [intOf]; omega
    · by_cases hin' : i < rk
      · have hi4' : i = 4 := by omega
        subst hi4'
        have hgo2 : (4 : Int) < (rk : Int) := by omega
        clear hgo
        have hz0' : ((4 : Int) == 0) = false := by decide
        have HFN : Hid ((1 ≤ l.length ∧ l.length ≤ 4) ∧ ∀ j, j < l.length → RuG k (l.getD j default) j) := ⟨by have := HLI.out; omega, HF.out⟩
        have HO3 : Hid (wr.ownsRow w.heap.size 48 5 (.slice vo9 4 vc9) l.length (rulC l)) := by show World.ownsRow _ _ _ _ _ _ _; rw [HLI.out]; exact HOW.out
        go_wp2
        go_ret
        exact ⟨l, _, rfl, HFN, HO3, hbel⟩
      · have hgo2 : (rk : Int) ≤ (i : Int) := by omega
        clear hgo
        by_cases hz0 : i = 0
        · subst hz0
          have hL0 : l = [] := List.eq_nil_of_length_eq_zero HLI.out
          subst hL0
          have HFN : Hid ((1 ≤ [Rl.mk { data := #[97] } 0 1 { data := #[120] } { data := #[] }].length ∧ [Rl.mk { data := #[97] } 0 1 { data := #[120] } { data := #[] }].length ≤ 4) ∧ ∀ j, j < [Rl.mk { data := #[97] } 0 1 { data := #[120] } { data := #[] }].length → RuG k ([Rl.mk { data := #[97] } 0 1 { data := #[120] } { data := #[] }].getD j default) j) := by
            refine ⟨⟨by decide, by decide⟩, fun j hj => ?_⟩
            have hj0 : j = 0 := by simp at hj; omega
            subst hj0
            exact ⟨⟨by decide, by decide⟩, ⟨by decide, by decide⟩, ⟨by decide, by decide⟩, ⟨by decide, (show SpL k (ltr 0) from spL_ltr (by omega))⟩, .inl rfl, fun _ => by decide, ⟨by decide, fun p hp => absurd hp (Nat.not_lt_zero _)⟩⟩
          go_wp2_with (first
            | (at_builtin; refine wpList_append_lies _ (by rfl) (.tmp 110) (.tmp 112) 29 (by rfl) w.heap.size 48 i0 (.agg #[.string ByteArray.empty, .int .i64 0, .int .i64 0, .string ByteArray.empty, .string ByteArray.empty]) 5 64 Try.underlying29 hi0 hq0 hq1 hq2 rfl (by omega) _ 0 _ (by rfl) (HOW.out.alloc _) ⟨wr.heap.size, 0, none⟩ 1 1 [.string { data := #[97] }, .int .i64 0, .int .i64 1, .string { data := #[120] }, .string { data := #[] }] (by rfl) (by rfl) ?d1 ?d2 (by omega) ?d3 ?d5 ?d4 (wr.heap.size + 1) ?d6 ?_))
          case d1 => exact newC5 _ rfl _ _ _ _ _ _
          case d2 => intro u hu; simp at hu; rcases hu with rfl | rfl | rfl | rfl | rfl <;> rfl
          case d3 => unfold maxLen; omega
          case d5 => omega
          case d4 => simp; omega
          case d6 => simp
          · intro g3 cap3 w3 hown3 hgrow3 _ _
            have HB3 : Hid (Below w.heap.size w w3) := ownC_grown_below (below_then hbel (below_one _)) (by simp; omega) (HOW.out.alloc _) (Nat.le_refl _) hgrow3
            have HO3 : Hid (w3.ownsRow w.heap.size 48 5 (.slice (some ⟨g3, 0, none⟩) 1 cap3) 1 (rulC [Rl.mk { data := #[97] } 0 1 { data := #[120] } { data := #[] }])) := hown3
            clear hown3 hgrow3
            go_wp2
            go_ret
            exact ⟨[Rl.mk { data := #[97] } 0 1 { data := #[120] } { data := #[] }], _, rfl, HFN, HO3, HB3.out⟩
        · have hz0' : ((i : Int) == 0) = false := beq_eq_false_iff_ne.2 (by omega)
          have HFN : Hid ((1 ≤ l.length ∧ l.length ≤ 4) ∧ ∀ j, j < l.length → RuG k (l.getD j default) j) := ⟨by have := HLI.out; omega, HF.out⟩
          have HO3 : Hid (wr.ownsRow w.heap.size 48 5 (.slice vo9 i vc9) l.length (rulC l)) := by show World.ownsRow _ _ _ _ _ _ _; rw [HLI.out]; exact HOW.out
          go_wp2
          go_ret
          exact ⟨l, _, rfl, HFN, HO3, hbel⟩

end Go.Proofs.Ytpclldccjpncdab

namespace Go.Proofs.Ytpclldccjpncdab
open Go.RowKit

def lsF (l : List Rl) (i : Nat) : Rl := l.getD i default
theorem RuG.ok {k : Nat} {x : Rl} {i : Nat} (h : RuG k x i) : x.first i := by
  have t := h.text
  have m := h.more.1
  have r := h.reset.1
  have lv := h.level
  have b := h.before
  exact ⟨⟨⟨by omega, by omega⟩, by omega, by omega, ⟨by omega, by omega⟩, ⟨by omega, by omega⟩, h.bef⟩, h.one⟩
/-- the rules of 'ruled' may be written and compiled -/
theorem rug_rule {L : Lay} {k : Nat} {l : List Rl} (h : ∀ j, j < l.length → RuG k (l.getD j default) j) (h1 : 1 ≤ l.length) (h4 : l.length ≤ 4) (hl : PlcL L k) : RuleL L (lsF l) l.length := by
  have ln := hl.ln
  have lm := hl.lm
  refine ⟨by omega, fun i hi => (h i hi).ok, ?_, hl.err, by omega, by omega, fun i hi p hp => spL_spelt (h i hi).reset.2 hl.tx p hp, fun i hi p hp => spL_spelt (h i hi).more.2 hl.tx p hp⟩
  have h2 := rls_lenB (f := lsF l) (c := 5) l.length fun i hi => by
    have g := h i hi
    have t := g.text
    have m := g.more.1
    have r := g.reset.1
    unfold lsF
    omega
  have : l.length * (15 + 2 * 5) ≤ 4 * 25 := Nat.mul_le_mul_right 25 h4
  omega
theorem rug_in {k : Nat} {l : List Rl} {w : World} {base : Nat} {v : Value} (h : ∀ j, j < l.length → RuG k (l.getD j default) j) (h4 : l.length ≤ 4) (ho : w.ownsRow base 48 5 v l.length (rulC l)) : ∃ ao b cap, v = .slice ao l.length cap ∧ RulesIn w.heap.size w ao l.length b 0 (lsF l) :=
  rules_in ho (by omega) fun x hx => by
    obtain ⟨j, hj, rfl⟩ := List.getElem_of_mem hx
    have g := h j hj
    have e : l.getD j default = l[j] := by rw [List.getD_eq_getElem?_getD, List.getElem?_eq_getElem hj]; rfl
    rw [e] at g
    have t := g.text
    have m := g.more.1
    have r := g.reset.1
    exact ⟨by omega, by omega, by omega⟩
/-- what 'Untouched' asks of a table that was compiled -/
structure UntF (L U : Lay) (f : Nat → Rl) (n : Nat) : Prop where
  err : U.err = 0
  sub : (ndT L).Sublist (ndT U)
  cnt : U.n = L.n + lvN f n
  has : ∀ i, i < L.m → isText U.m U.tx (L.tx i)
  stay : ∀ i, i < L.m → StayP L U f n (L.tx i)
  spelt : ∀ s : ByteArray, s.size ≤ 24 → Spelt L s → StayP L U f n s
theorem unt_of {L U : Lay} {f : Nat → Rl} {n : Nat} (hr : RuleL L f n) (hk : TabK L ((List.range n).map f) U) : UntF L U f n := by
  obtain ⟨K, ls, ht⟩ := TabK.tab hr hk
  have hL := hr.err
  have hok := err_zero hL
  have htx : ∀ i, i < L.m → isText L.m L.tx (L.tx i) := fun i hi => ⟨i, hi, rfl⟩
  refine ⟨ht.err, ht.nodes.1, ht.nodes.2, fun i hi => ht.has (htx i hi), fun i hi => ?_, fun s hs hsp => ?_⟩
  · obtain ⟨t1, t3⟩ := hok.tx i hi
    exact stayP_of hL ht (by omega) (hasP_text t1 t3 (htx i hi)) (hasP_text t1 t3 (ht.has (htx i hi)))
  · exact stayP_of hL ht hs (hasP_of hsp) (hasP_of fun p hp => ht.has (hsp p hp))

end Go.Proofs.Ytpclldccjpncdab

namespace Go.Proofs.Ytpclldccjpncdab
open Go.RowKit

set_option maxRecDepth 100000 in
set_option maxHeartbeats 4000000 in
theorem untouched_any (nk nc nb no : Nat) (na : Option Addr) (nz : Nat → Int) (ek ec eb eo : Nat) (ea : Option Addr) (ez : Nat → Int) (rk rc rb ro : Nat) (ra : Option Addr) (rz : Nat → Int) (xk xc xb xo : Nat) (xa : Option Addr) (xz : Nat → Int) (w : World)
    (hn : RawIn w.heap.size w na nk nb no nz) (he : RawIn w.heap.size w ea ek eb eo ez) (hr : RawIn w.heap.size w ra rk rb ro rz) (hx : RawIn w.heap.size w xa xk xb xo xz) :
    Calls Try.prog 3 #[.slice na nk nc, .slice ea ek ec, .slice ra rk rc, .slice xa xk xc] w fun e w' => e = .returned (.bool true) ∧ Below w.heap.size w w' := by
  have HN : Hid (RawIn w.heap.size w na nk nb no nz) := hn
  have HE : Hid (RawIn w.heap.size w ea ek eb eo ez) := he
  have HR0 : Hid (RawIn w.heap.size w ra rk rb ro rz) := hr
  have HX : Hid (RawIn w.heap.size w xa xk xb xo xz) := hx
  clear hn he hr hx
  go_enter Try.func3, Try.ntmps3
  go_wp2_with fail
  refine (compiled_any _).mono ?_
  rintro e w1 ⟨rfl, hb1⟩
  have HB1 : Hid (Below w.heap.size w w1) := hb1
  clear hb1
  go_wp2_with fail
  refine (made_any _ _ _ _ _ _ _ _ _ _ _ _ _ (HN.out.later HB1.out).ints HN.out.range (HE.out.later HB1.out).ints HE.out.range).mono ?_
  rintro e w2 ⟨L, k, rfl, hin, herr, hk1, hk12, hl, ho, hb2, hLn, hLm⟩
  have HIN : Hid (L.In w2.heap.size w2) := hin
  have HPL : Hid (PlcL L k) := ⟨herr, hLn, hLm, hl⟩
  have HO : Hid (ones L L.m = k) := ho
  have HB2 : Hid (Below w.heap.size w w2) := below_then HB1.out hb2
  clear hb2 hin herr hl ho HB1
  obtain ⟨A, hA⟩ : ∃ A, A = w2.alloc (.cells #[.slice L.na L.n L.nc, .slice L.ea L.m L.ec] 27) := ⟨_, rfl⟩
  have HAB : Hid (Below w2.heap.size w2 A) := by show Below _ _ _; rw [hA]; exact below_one _
  have HAS : Hid (A.heap.size = w2.heap.size + 1) := by show _ = _; rw [hA]; simp
  have HAT : Hid (A.rowIs w2.heap.size 27 2 (fun j => #[Value.slice L.na L.n L.nc, .slice L.ea L.m L.ec].getD j undef)) := by show World.rowIs _ _ _ _ _; rw [hA]; exact row_new _ _ _ 2 rfl
  go_wp2_with fail
  rw [← hA]
  clear hA
  refine (ruled_any L k _ _ _ _ _ _ _ (HIN.out.later HAB.out) (by omega) ⟨hk1, hk12⟩ HO.out (HR0.out.later (below_then HB2.out HAB.out))).mono ?_
  rintro e w3 ⟨l, v, rfl, HG, HOR, hb3⟩
  obtain ⟨fo, fb, fc, hv, hri⟩ := rug_in HG.out.2 HG.out.1.2 HOR.out
  subst hv
  obtain ⟨n, hn⟩ : ∃ n, n = l.length := ⟨_, rfl⟩
  obtain ⟨f, hf⟩ : ∃ f, f = lsF l := ⟨_, rfl⟩
  have HRL : Hid (RuleL L f n) := by rw [hf, hn]; exact rug_rule HG.out.2 HG.out.1.1 HG.out.1.2 HPL.out
  have hn4 : n ≤ 4 := by rw [hn]; exact HG.out.1.2
  rw [← hn] at hri ⊢
  rw [← hf] at hri
  have HRI : Hid (RulesIn w3.heap.size w3 fo n fb 0 f) := hri
  have HB3 : Hid (Below A.heap.size A w3) := hb3
  have hz3 : w2.heap.size < w3.heap.size := by have := HB3.out.size; have := HAS.out; omega
  have HB3w : Hid (Below w.heap.size w w3) := below_then (below_then HB2.out HAB.out) HB3.out
  have HIN3 : Hid (L.In w3.heap.size w3) := (HIN.out.later HAB.out).later HB3.out
  have HT3 : Hid (w3.cell? ⟨w2.heap.size, 0, none⟩ = some (.slice L.na L.n L.nc) ∧ w3.cell? ⟨w2.heap.size, 1, none⟩ = some (.slice L.ea L.m L.ec)) := by
    have hs := HAS.out
    exact ⟨cellTo HB3.out (HAT.out.cell (i := 0) (by omega)) (by show w2.heap.size < _; omega), cellTo HB3.out (HAT.out.cell (i := 1) (by omega)) (by show w2.heap.size < _; omega)⟩
  clear hri hn hf hb3 HG HOR
  obtain ⟨S, hS⟩ : ∃ S, S = rlS f n := ⟨_, rfl⟩
  have HWR : Hid (Calls Try.prog 9 #[.slice fo n fc] w3 fun e w' => e = .returned (.tuple #[.string S, .int .i64 0]) ∧ Below w3.heap.size w3 w') := by rw [hS]; exact writeK_any HRL.out _ _ _ _ w3 HRI.out
  have HCC : Hid (∀ wz, L.In wz.heap.size wz → Calls Try.prog 10 #[.agg #[.slice L.na L.n L.nc, .slice L.ea L.m L.ec], .string S] wz fun e w' => Below wz.heap.size wz w' ∧
      ((∃ (x : Int) (a : Nat), e = .returned (.tuple #[.agg #[.slice none 0 0, .slice none 0 0], .int .i64 x, .int .i64 (a : Nat)]) ∧ x ≠ 0 ∧ BadK f n x a) ∨
       (∃ U : Lay, e = .returned (.tuple #[.agg #[.slice U.na U.n U.nc, .slice U.ea U.m U.ec], .int .i64 0, .int .i64 0]) ∧ U.In w'.heap.size w' ∧ UntF L U f n))) := fun wz hz => by
    rw [hS]
    refine (compK_any HRL.out wz hz).mono ?_
    rintro e w' ⟨hb, ⟨x, a, h1, h2, h3, _⟩ | ⟨U, h1, h2, h3, _⟩⟩
    · exact ⟨hb, .inl ⟨x, a, h1, h2, h3⟩⟩
    · exact ⟨hb, .inr ⟨U, h1, h2, unt_of HRL.out h3⟩⟩
  clear hS
  go_wp2_with fail
  refine Calls.mono HWR.out ?_
  rintro e w4 ⟨rfl, hb4⟩
  have HB34 : Hid (Below w3.heap.size w3 w4) := hb4
  have HIN4 : Hid (L.In w4.heap.size w4) := HIN3.out.later HB34.out
  have HRI4 : Hid (RulesIn w4.heap.size w4 fo n fb 0 f) := HRI.out.later HB34.out
  have c0 : w4.cell? ⟨w2.heap.size, 0, none⟩ = some (.slice L.na L.n L.nc) := cellTo HB34.out HT3.out.1 (by show w2.heap.size < _; omega)
  have c1 : w4.cell? ⟨w2.heap.size, 1, none⟩ = some (.slice L.ea L.m L.ec) := cellTo HB34.out HT3.out.2 (by show w2.heap.size < _; omega)
  clear hb4
  go_wp2_with fail
  refine (HCC.out w4 HIN4.out).mono ?_
  rintro e w5 ⟨hb5, ⟨x, a, rfl, hx0, hbad⟩ | ⟨U, rfl, hinU, hunt⟩⟩
  · have HB5 : Hid (Below w4.heap.size w4 w5) := hb5
    have hx0' : (x == (0 : Int)) = false := by simpa using hx0
    have HBK : Hid (BadK f n x a) := hbad
    clear hb5 hx0 hbad c0 c1
    go_wp2_with fail
    refine (refusal_any _ n _ _ 0 _ x a _ (HRI4.out.later (below_then HB5.out (below_one _))) HBK.out.1 HBK.out.2).mono ?_
    rintro e w6 ⟨rfl, hb6⟩
    go_wp2
    go_ret
    exact ⟨rfl, below_then HB3w.out (below_then HB34.out (below_then (below_then HB5.out (below_one _)) hb6))⟩
  · have HB5 : Hid (Below w4.heap.size w4 w5) := hb5
    have HUI : Hid (U.In w5.heap.size w5) := hinU
    have HUN : Hid (UntF L U f n) := hunt
    have hUm : U.m ≤ 48 := (err_zero hunt.err).m
    have hUn : U.n ≤ 48 := (err_zero hunt.err).n
    obtain ⟨V, hV⟩ : ∃ V, V = w5.alloc (.cells #[.slice U.na U.n U.nc, .slice U.ea U.m U.ec] 27) := ⟨_, rfl⟩
    have HVB : Hid (Below w5.heap.size w5 V) := by show Below _ _ _; rw [hV]; exact below_one _
    have HVS : Hid (V.heap.size = w5.heap.size + 1) := by show _ = _; rw [hV]; simp
    have HVT : Hid (V.rowIs w5.heap.size 27 2 (fun j => #[Value.slice U.na U.n U.nc, .slice U.ea U.m U.ec].getD j undef)) := by show World.rowIs _ _ _ _ _; rw [hV]; exact row_new _ _ _ 2 rfl
    have hz45 : w4.heap.size ≤ w5.heap.size := HB5.out.size
    have hz34 : w3.heap.size ≤ w4.heap.size := HB34.out.size
    have hzV : w5.heap.size < V.heap.size := by rw [HVS.out]; omega
    have HBV : Hid (∀ wz, Below V.heap.size V wz → Below w.heap.size w wz) := fun wz hz => below_then HB3w.out (below_then HB34.out (below_then HB5.out (below_then HVB.out hz)))
    have HL : Hid (∀ wz, Below V.heap.size V wz → L.In wz.heap.size wz) := fun wz hz => HIN4.out.later (below_then HB5.out (below_then HVB.out hz))
    have HU : Hid (∀ wz, Below V.heap.size V wz → U.In wz.heap.size wz) := fun wz hz => HUI.out.later (below_then HVB.out hz)
    have HR : Hid (∀ wz, Below V.heap.size V wz → RulesIn wz.heap.size wz fo n fb 0 f) := fun wz hz => HRI4.out.later (below_then HB5.out (below_then HVB.out hz))
    have HC : Hid (∀ wz, Below V.heap.size V wz → (wz.cell? ⟨w2.heap.size, 0, none⟩ = some (.slice L.na L.n L.nc) ∧ wz.cell? ⟨w2.heap.size, 1, none⟩ = some (.slice L.ea L.m L.ec)) ∧ (wz.cell? ⟨w5.heap.size, 0, none⟩ = some (.slice U.na U.n U.nc) ∧ wz.cell? ⟨w5.heap.size, 1, none⟩ = some (.slice U.ea U.m U.ec))) := fun wz hz => by
      have hb := below_then HB34.out (below_then HB5.out (below_then HVB.out hz))
      exact ⟨⟨cellTo hb HT3.out.1 hz3, cellTo hb HT3.out.2 hz3⟩, cellTo hz (HVT.out.cell (i := 0) (by omega)) hzV, cellTo hz (HVT.out.cell (i := 1) (by omega)) hzV⟩
    clear hb5 hunt hinU c0 c1
    obtain ⟨⟨a0, a1⟩, a2, a3⟩ := HC.out V (Below.refl _ _)
    rw [hV] at a0 a1 a2 a3
    go_wp2_with fail
    rw [← hV]
    clear hV a0 a1 a2 a3
    refine (valid_any U _ (HU.out _ (Below.refl _ _))).mono ?_
    rintro e w6 ⟨rfl, hb6⟩
    rw [HUN.out.err]
    have HB6 : Hid (Below V.heap.size V w6) := hb6
    clear hb6
    obtain ⟨⟨a0, a1⟩, a2, a3⟩ := HC.out _ HB6.out
    go_wp2_with fail
    refine (keeps_any L U _ n _ _ _ f _ (HL.out _ HB6.out) (HU.out _ HB6.out) (HR.out _ HB6.out) (by omega) hUn (by omega) HUN.out.sub HUN.out.cnt).mono ?_
    rintro e w7 ⟨rfl, hb7⟩
    have HB7 : Hid (Below V.heap.size V w7) := below_then HB6.out hb7
    clear hb7 a0 a1 a2 a3
    go_wp2
    go_loopw [19] (fun iv wr => ∃ i : Nat, i ≤ L.m ∧ iv = .int .i64 (i : Nat) ∧ Below V.heap.size V wr) (fun iv _ => L.m - (intOf iv).toNat)
    case atStart => exact ⟨0, Nat.zero_le _, rfl, HB7.out⟩
    case round =>
      clear HB7
      obtain ⟨i, hi, rfl, hbel⟩ := hrel
      obtain ⟨⟨a0, a1⟩, a2, a3⟩ := HC.out _ hbel
      have hsz := hbel.size
      have hzr2 : w2.heap.size < wr.heap.size := by omega
      have hzr5 : w5.heap.size < wr.heap.size := by omega
      by_cases hlt : i < L.m
      · have HLW : Hid (L.In wr.heap.size wr) := HL.out _ hbel
        have hbb := HLW.out.entries.lt (by omega)
        obtain ⟨tx, htx⟩ : ∃ tx, tx = L.tx i := ⟨_, rfl⟩
        have HTX : Hid (isText U.m U.tx tx) := by rw [htx]; exact HUN.out.has i hlt
        have HSP : Hid (StayP L U f n tx) := by rw [htx]; exact HUN.out.stay i hlt
        have e0 := HLW.out.entries.text i hlt
        rw [← htx] at e0
        have HTE : Hid (L.tx i = tx) := htx.symm
        clear htx
        have HXL : Hid (∀ x : Wb wr.heap.size wr, L.In x.val.heap.size x.val) := fun x => HLW.out.later x.below
        have HXU : Hid (∀ x : Wb wr.heap.size wr, U.In x.val.heap.size x.val) := fun x => (HU.out _ hbel).later x.below
        have HXR : Hid (∀ x : Wb wr.heap.size wr, RulesIn x.val.heap.size x.val fo n fb 0 f) := fun x => (HR.out _ hbel).later x.below
        rw [HLW.out.entries.addr (by omega)] at a1
        have d1 := Wb.cell (w := wr) (B := wr.heap.size) (by exact hzr2) a1
        have d2 := Wb.cell (w := wr) (B := wr.heap.size) (by exact hzr5) a2
        have d3 := Wb.cell (w := wr) (B := wr.heap.size) (by exact hzr5) a3
        have d4 := Wb.cell (w := wr) (B := wr.heap.size) (by exact hbb) e0
        go_wp2
        refine wp_region_below wr.heap.size (by kernel_rfl) (by kernel_rfl) ?_
        repeat (go_big_quiet_step ((go_at_call 14; exact Wb.ofCall _ (Nat.le_refl _) (has_yes U _ _ (HXU.out _) hUm HTX.out))))
        refine wpQuiet_nil ?_
        rintro _ ⟨y, rfl⟩
        have hy := y.below
        generalize y.val = ws at hy
        clear d1 d2 d3 d4 HXL HXU HXR HLW e0 a0 a1 a2 a3
        have HBS : Hid (Below V.heap.size V ws) := hbel.trans (hy.mono hsz)
        clear hy
        obtain ⟨⟨a0, a1⟩, a2, a3⟩ := HC.out _ HBS.out
        have HLS : Hid (L.In ws.heap.size ws) := HL.out _ HBS.out
        have hbs := HLS.out.entries.lt (by omega)
        have hsz2 := HBS.out.size
        have hzs2 : w2.heap.size < ws.heap.size := by omega
        have hzs5 : w5.heap.size < ws.heap.size := by omega
        have e0 := HLS.out.entries.text i hlt
        rw [HTE.out] at e0
        have HST : Hid (∀ x : Wb ws.heap.size ws, Calls Try.prog 15 #[.agg #[.slice L.na L.n L.nc, .slice (some ⟨L.eb, L.eo, none⟩) L.m L.ec], .agg #[.slice U.na U.n U.nc, .slice U.ea U.m U.ec], .slice fo n fc, .string tx] x.val fun e w' => e = .returned (.bool true) ∧ Below x.val.heap.size x.val w') := fun x => by
          rw [← HLS.out.entries.addr (by omega)]
          exact stays_any L U fo n fc fb 0 f tx x.val (HLS.out.later x.below) ((HU.out _ HBS.out).later x.below) ((HR.out _ HBS.out).later x.below) HSP.out
        rw [HLS.out.entries.addr (by omega)] at a1
        have d0 := Wb.cell (w := ws) (B := ws.heap.size) (by exact hzs2) a0
        have d1 := Wb.cell (w := ws) (B := ws.heap.size) (by exact hzs2) a1
        have d2 := Wb.cell (w := ws) (B := ws.heap.size) (by exact hzs5) a2
        have d3 := Wb.cell (w := ws) (B := ws.heap.size) (by exact hzs5) a3
        have d4 := Wb.cell (w := ws) (B := ws.heap.size) (by exact hbs) e0
        go_wp2
        refine wp_region_below ws.heap.size (by kernel_rfl) (by kernel_rfl) ?_
        repeat (go_big_quiet_step ((go_at_call 15; exact Wb.ofCall _ (Nat.le_refl _) (HST.out _))))
        refine wpQuiet_nil ?_
        rintro _ ⟨y, rfl⟩
        have hy := y.below
        generalize y.val = wt at hy
        clear d0 d1 d2 d3 d4 HST HLS e0 a0 a1 a2 a3
        have HBT : Hid (Below V.heap.size V wt) := HBS.out.trans (hy.mono hsz2)
        clear hy
        go_wp2
        go_roundw
        case rel => exact ⟨i + 1, by omega, by go_num, HBT.out⟩
        case measure => simp [intOf]; omega
      · have hie : i = L.m := by omega
        have HBD : Hid (Below V.heap.size V wr.drew) := hbel.drew
        clear hbel
        go_wp2
        have hS0 : (fun w' : World => w'.cell? ⟨w2.heap.size, 0, none⟩ = some (.slice L.na L.n L.nc) ∧ w'.cell? ⟨w2.heap.size, 1, none⟩ = some (.slice L.ea L.m L.ec) ∧ w'.cell? ⟨w5.heap.size, 0, none⟩ = some (.slice U.na U.n U.nc) ∧ w'.cell? ⟨w5.heap.size, 1, none⟩ = some (.slice U.ea U.m U.ec)) wr.drew := ⟨a0, a1, a2, a3⟩
        refine region_till (fun w' : World => w'.cell? ⟨w2.heap.size, 0, none⟩ = some (.slice L.na L.n L.nc) ∧ w'.cell? ⟨w2.heap.size, 1, none⟩ = some (.slice L.ea L.m L.ec) ∧ w'.cell? ⟨w5.heap.size, 0, none⟩ = some (.slice U.na U.n U.nc) ∧ w'.cell? ⟨w5.heap.size, 1, none⟩ = some (.slice U.ea U.m U.ec)) 7 (by kernel_rfl) ?_
        show wpTill _ _ _ _ _ _ 8 (Array.replicate 8 false) _ wr.drew
        refine till_step (i := 0) (z := 7) (d := some 101) (v := ?v0) rfl rfl (by kernel_rfl) (by kernel_rfl) (by kernel_rfl) (by kernel_rfl) (fun _ _ _ h => h) (Or.inl ⟨by rfl, ?hy0⟩) hS0 rfl ?rest0
        case hy0 =>
          rintro wz ⟨s1, s2, s3, s4⟩
          go_simp
          try with_reducible rfl
        simp only [Act.put, List.setIfInBounds_toArray, List.set_cons_zero, List.set_cons_succ]
        refine till_step (i := 1) (z := 7) (d := some 102) (v := ?v1) rfl rfl (by kernel_rfl) (by kernel_rfl) (by kernel_rfl) (by kernel_rfl) (fun _ _ _ h => h) (Or.inl ⟨by rfl, ?hy1⟩) hS0 rfl ?rest1
        case hy1 =>
          rintro wz ⟨s1, s2, s3, s4⟩
          go_simp
          try with_reducible rfl
        simp only [Act.put, List.setIfInBounds_toArray, List.set_cons_zero, List.set_cons_succ]
        refine till_step (i := 2) (z := 7) (d := some 103) (v := ?v2) rfl rfl (by kernel_rfl) (by kernel_rfl) (by kernel_rfl) (by kernel_rfl) (fun _ _ _ h => h) (Or.inl ⟨by rfl, ?hy2⟩) hS0 rfl ?rest2
        case hy2 =>
          rintro wz ⟨s1, s2, s3, s4⟩
          go_simp
          try with_reducible rfl
        simp only [Act.put, List.setIfInBounds_toArray, List.set_cons_zero, List.set_cons_succ]
        refine till_step (i := 3) (z := 7) (d := some 104) (v := ?v3) rfl rfl (by kernel_rfl) (by kernel_rfl) (by kernel_rfl) (by kernel_rfl) (fun _ _ _ h => h) (Or.inl ⟨by rfl, ?hy3⟩) hS0 rfl ?rest3
        case hy3 =>
          rintro wz ⟨s1, s2, s3, s4⟩
          go_simp
          try with_reducible rfl
        simp only [Act.put, List.setIfInBounds_toArray, List.set_cons_zero, List.set_cons_succ]
        refine till_step (i := 4) (z := 7) (d := some 105) (v := ?v4) rfl rfl (by kernel_rfl) (by kernel_rfl) (by kernel_rfl) (by kernel_rfl) (fun _ _ _ h => h) (Or.inl ⟨by rfl, ?hy4⟩) hS0 rfl ?rest4
        case hy4 =>
          rintro wz ⟨s1, s2, s3, s4⟩
          go_simp
          try with_reducible rfl
        simp only [Act.put, List.setIfInBounds_toArray, List.set_cons_zero, List.set_cons_succ]
        refine till_one (i := 5) (z := 7) rfl (by kernel_rfl) ?c5
        go_simp
        go_at_call 16
        refine (spelledL_any L _ _ _ _ _ _ 10 k _ (HL.out _ HBD.out) (by omega) ⟨hk1, hk12⟩ HO.out (HX.out.later (HBV.out _ HBD.out)).ints HX.out.range (by omega)).mono ?_
        rintro e w8 ⟨⟨s, rfl, hs1, hs10, hsp⟩, hb8⟩
        have HB8 : Hid (Below V.heap.size V w8) := below_then HBD.out hb8
        obtain ⟨⟨q0, q1⟩, q2, q3⟩ := HC.out _ HB8.out
        have HSS : Hid (StayP L U f n s) := HUN.out.spelt s (by omega) (spL_spelt hsp HPL.out.tx)
        clear hsp hb8 hS0 a0 a1 a2 a3
        dsimp only
        refine ⟨⟨q0, q1, q2, q3⟩, ?_⟩
        try simp only [Act.put, List.setIfInBounds_toArray, List.set_cons_zero, List.set_cons_succ]
        refine till_one (i := 6) (z := 7) rfl (by kernel_rfl) ?c6
        go_simp
        go_at_call 15
        refine (stays_any L U _ n _ _ _ f s _ (HL.out _ HB8.out) (HU.out _ HB8.out) (HR.out _ HB8.out) HSS.out).mono ?_
        rintro e w9 ⟨rfl, hb9⟩
        have HB9 : Hid (Below V.heap.size V w9) := below_then HB8.out hb9
        clear hb9 q0 q1 q2 q3
        obtain ⟨⟨q0, q1⟩, q2, q3⟩ := HC.out _ HB9.out
        dsimp only
        refine ⟨⟨q0, q1, q2, q3⟩, ?_⟩
        try simp only [Act.put, List.setIfInBounds_toArray, List.set_cons_zero, List.set_cons_succ]
        refine till_one (i := 7) (z := 7) rfl (by kernel_rfl) ?c7
        go_simp
        refine till_done (by kernel_rfl) ?_ _
        go_wp2
        go_ret
        exact ⟨rfl, HBV.out _ HB9.out⟩

end Go.Proofs.Ytpclldccjpncdab
