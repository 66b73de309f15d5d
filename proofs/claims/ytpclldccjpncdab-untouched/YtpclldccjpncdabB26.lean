import Derived.Test.YtpclldccjpncdabB25
import Derived.Deep.RegionHeld3
import Derived.Deep.Cut
import Derived.Deep.CutRange
import Derived.Deep.DeepCutAuto
namespace Go.Proofs.Ytpclldccjpncdab
open Go.RowKit

def rlV (x : Rl) : Nat → Value := fun j => #[Value.string x.reset, .int .i64 x.before, .int .i64 x.level, .string x.text, .string x.more].getD j undef

theorem first_snoc {L : List Rl} {r : Rl} (h : ∀ j, j < L.length → (L.getD j default).first j) (hr : r.first L.length) : ∀ j, j < (L ++ [r]).length → ((L ++ [r]).getD j default).first j := fun j hj => by
  rw [List.length_append] at hj
  have hj' : j < L.length + 1 := hj
  rw [List.getD_eq_getElem?_getD]
  by_cases e : j < L.length
  · rw [List.getElem?_append_left e, ← List.getD_eq_getElem?_getD]
    exact h j e
  · have e' : j = L.length := by omega
    subst e'
    rw [List.getElem?_append_right (Nat.le_refl _), Nat.sub_self]
    exact hr
theorem rowR {w : World} {g : Nat} {t : TypeId} {u0 u3 u4 : ByteArray} {b l : Int} (h : w.rowIs g t 5 (rlV ⟨u0, b, l, u3, u4⟩)) : (w.cell? ⟨g, 0, none⟩ = some (.string u0) ∧ w.cell? ⟨g, 1, none⟩ = some (.int .i64 b) ∧ w.cell? ⟨g, 2, none⟩ = some (.int .i64 l) ∧ w.cell? ⟨g, 3, none⟩ = some (.string u3) ∧ w.cell? ⟨g, 4, none⟩ = some (.string u4)) ∧ (w.frozen? ⟨g, 0, none⟩ = false ∧ w.frozen? ⟨g, 1, none⟩ = false ∧ w.frozen? ⟨g, 2, none⟩ = false ∧ w.frozen? ⟨g, 3, none⟩ = false ∧ w.frozen? ⟨g, 4, none⟩ = false) := row5F h

end Go.Proofs.Ytpclldccjpncdab

namespace Go.Proofs.Ytpclldccjpncdab
open Go.RowKit

theorem range_getDW (L : List Rl) : (List.range L.length).map (fun i => L.getD i default) = L := by
  apply List.ext_getElem
  · simp
  · intro i h1 h2
    rw [List.getElem_map, List.getElem_range, List.getD_eq_getElem?_getD, List.getElem?_eq_getElem h2]
    rfl
theorem has_str {l : List Int} (h : ∀ x ∈ l, 0 ≤ x ∧ x ≤ 255) : Has (strOfNums l) 0 l := ⟨by rw [strOfNums_size]; omega, fun k hk => by rw [Nat.zero_add]; exact bt_strS l h k hk⟩
theorem spaced (l : List Int) : ({ data := #[32, 32] } : ByteArray) ++ strOfNums l ++ { data := #[32] } = strOfNums ([32, 32] ++ l ++ [32]) := by
  rw [str_app, str_app]
  rfl
theorem back_plain {f : Nat → Rl} {n : Nat} (hf : ∀ j, j < n → (f j).first j) (hl : (rls f n).length ≤ 120) : rdAll (strOfNums (rls f n)) = ((List.range n).map f, 0, 0) := by
  refine rls_all (i := 0) hf (by rw [strOfNums_size]; exact hl) (has_str (rls_in f n)) (fun k hk => by omega) (fun k h1 h2 => ?_)
  rw [strOfNums_size] at h2
  omega
theorem back_spaced {f : Nat → Rl} {n : Nat} (hf : ∀ j, j < n → (f j).first j) (hl : (rls f n).length ≤ 117) : rdAll (({ data := #[32, 32] } : ByteArray) ++ strOfNums (rls f n) ++ { data := #[32] }) = ((List.range n).map f, 0, 0) := by
  rw [spaced]
  have hin : ∀ x ∈ [32, 32] ++ rls f n ++ [32], (0 : Int) ≤ x ∧ x ≤ 255 := app_in (app_in (by decide) (rls_in f n)) (by decide)
  have hh := has_str hin
  have hsz : (strOfNums ([32, 32] ++ rls f n ++ [32])).size = (rls f n).length + 3 := by
    rw [strOfNums_size]
    simp
  refine rls_all (i := 2) hf (by rw [hsz]; omega) ?_ (fun k hk => ?_) (fun k h1 h2 => ?_)
  · have := hh.left.right
    simpa using this
  · have h2 := hh.left.left.2 k hk
    have : k = 0 ∨ k = 1 := by omega
    rcases this with rfl | rfl
    · have : (bt (strOfNums ([32, 32] ++ rls f n ++ [32])) 0 : Int) = 32 := by simpa using h2
      omega
    · have : (bt (strOfNums ([32, 32] ++ rls f n ++ [32])) 1 : Int) = 32 := by simpa using h2
      omega
  · rw [hsz] at h2
    have hk : k = 2 + (rls f n).length := by omega
    have h3 := hh.right.head.2
    have e : 0 + ([32, 32] ++ rls f n : List Int).length = k := by rw [hk]; simp; omega
    rw [e] at h3
    omega
theorem small_ok {x : Rl} (h : x.ok) : x.small := by
  obtain ⟨⟨_, h1⟩, h2, h3, _⟩ := h
  exact ⟨by omega, by omega, by omega⟩

end Go.Proofs.Ytpclldccjpncdab

namespace Go.Proofs.Ytpclldccjpncdab
open Go.RowKit

theorem rtx_lenB (x : Rl) : (rtx x).length ≤ 15 + 2 * (x.reset.size + x.text.size + x.more.size) := by
  have q1 := quo_len (blC x.reset)
  have q2 := quo_len (blC x.text)
  have q3 := quo_len (blC x.more)
  rw [blC_len] at q1 q2 q3
  have s1 := sgN_len x.level.toNat
  have s2 := beN_len x.before.toNat
  have a1 : (rt1 x).length ≤ 11 + 2 * x.reset.size := by unfold rt1; split <;> simp <;> omega
  have a2 : (rt2 x).length ≤ 3 + 2 * x.text.size := by unfold rt2; simp; omega
  have a3 : (rt3 x).length ≤ 1 + 2 * x.more.size := by unfold rt3; split <;> simp <;> omega
  unfold rtx
  rw [List.length_append, List.length_append]
  omega
theorem rls_lenB {f : Nat → Rl} {c : Nat} : ∀ n, (∀ i, i < n → (f i).reset.size + (f i).text.size + (f i).more.size ≤ c) → (rls f n).length ≤ n * (15 + 2 * c)
  | 0, _ => by simp [rls]
  | n + 1, h => by
    have h1 := rls_lenB n fun i hi => h i (by omega)
    have h2 := rtx_lenB (f n)
    have h3 := h n (by omega)
    rw [rls_snoc, List.length_append, Nat.succ_mul]
    omega
/-- rules that may be written for a table -/
structure RuleL (L : Lay) (f : Nat → Rl) (n : Nat) : Prop where
  n0 : 0 < n
  first : ∀ j, j < n → (f j).first j
  len : (rls f n).length ≤ 120
  err : L.err = 0
  ln : L.n + n ≤ 48
  lm : L.m + n ≤ 48
  reset : ∀ j, j < n → ∀ p, p < (f j).reset.size → isText L.m L.tx (sub (f j).reset p 1)
  more : ∀ j, j < n → ∀ p, p < (f j).more.size → isText L.m L.tx (sub (f j).more p 1)
def rlS (f : Nat → Rl) (n : Nat) : ByteArray := strOfNums (rls f n)
theorem writeK_any {L : Lay} {f : Nat → Rl} {n : Nat} (hr : RuleL L f n) (ao : Option Addr) (cap b off : Nat) (w : World) (h : RulesIn w.heap.size w ao n b off f) :
    Calls Try.prog 9 #[.slice ao n cap] w fun e w' => e = .returned (.tuple #[.string (rlS f n), .int .i64 0]) ∧ Below w.heap.size w w' := by
  have hl := hr.len
  obtain ⟨h1, h2⟩ := wr_ok hr.first (by omega)
  have := write_any ao n cap b off f w h
  rw [h1, h2] at this
  exact this
/-- a table that was compiled -/
def TabK (L : Lay) (rl : List Rl) (U : Lay) : Prop := ∃ K ls, rulesE insE (begS L) rl 0 = .ok K ∧ weigh K.ls 0 0 0 = some ls ∧ IsU K ls U
def BadK (f : Nat → Rl) (n : Nat) (x : Int) (a : Nat) : Prop := a < n ∧ ((x = 14 ∧ a = 0) ∨ x = 12 ∨ (x = 11 ∧ 0 < (f a).before))
theorem compK_any {L : Lay} {f : Nat → Rl} {n : Nat} (hr : RuleL L f n) (w : World) (h : L.In w.heap.size w) :
    Calls Try.prog 10 #[.agg #[.slice L.na L.n L.nc, .slice L.ea L.m L.ec], .string (rlS f n)] w fun e w' => Below w.heap.size w w' ∧
      ((∃ (x : Int) (a : Nat), e = .returned (.tuple #[.agg #[.slice none 0 0, .slice none 0 0], .int .i64 x, .int .i64 (a : Nat)]) ∧ x ≠ 0 ∧ BadK f n x a ∧ compE L (rlS f n) = .error (x, a)) ∨
       (∃ U : Lay, e = .returned (.tuple #[.agg #[.slice U.na U.n U.nc, .slice U.ea U.m U.ec], .int .i64 0, .int .i64 0]) ∧ U.In w'.heap.size w' ∧ TabK L ((List.range n).map f) U ∧ (∀ wx : World, (∀ b, w.heap.size ≤ b → b < w'.heap.size → wx.heap[b]? = w'.heap[b]?) → w'.heap.size ≤ wx.heap.size → U.In wx.heap.size wx))) := by
  have hl := hr.len
  have hrd : rdAll (rlS f n) = ((List.range n).map f, 0, 0) := back_plain hr.first hl
  have hz : (rlS f n).size ≤ 140737488351232 := by
    unfold rlS
    rw [strOfNums_size]
    omega
  have hmem : ∀ r ∈ (List.range n).map f, ∃ j, j < n ∧ r = f j := fun r hx => by
    rw [List.mem_map] at hx
    obtain ⟨j, hj, rfl⟩ := hx
    exact ⟨j, List.mem_range.1 hj, rfl⟩
  have hlen : ((List.range n).map f).length = n := by simp
  refine (compile_any L (rlS f n) w h hz).mono ?_
  rintro e w' ⟨hb, ⟨x, a, hx, rfl⟩ | ⟨ls, es, no, nc, eo, ec, vs, cs, hx, rfl, o1, o2, o3⟩⟩
  · refine ⟨hb, .inl ⟨x, a, rfl, ?_⟩⟩
    rcases compE_no hr.err hrd hx with ⟨rfl, rfl, _⟩ | hno
    · exact ⟨by decide, ⟨hr.n0, .inl ⟨rfl, rfl⟩⟩, hx⟩
    · have hhead : ∀ r, ((List.range n).map f).head? = some r → r.reset.size ≠ 0 := fun r hh => by
        obtain ⟨m, rfl⟩ : ∃ m, n = m + 1 := ⟨n - 1, by have := hr.n0; omega⟩
        rw [List.range_succ_eq_map] at hh
        simp at hh
        rw [← hh]
        exact (hr.first 0 (by omega)).2 rfl
      obtain ⟨q, rfl, hq, hc⟩ := err_list _ _ 0 0 0 _ x a (inv_start hr.err) (fun r hx => by obtain ⟨j, hj, rfl⟩ := hmem r hx; exact (hr.first j hj).1) (.inl hhead) (fun r hx => by obtain ⟨j, hj, rfl⟩ := hmem r hx; exact ⟨hr.reset j hj, hr.more j hj⟩) (by rw [hlen]; exact hr.ln) (by rw [hlen]; exact hr.lm) hno
      rw [hlen] at hq
      have hgd : ((List.range n).map f).getD q default = f q := by simp [List.getD_eq_getElem?_getD, hq]
      rw [hgd] at hc
      rw [Nat.zero_add]
      rw [Nat.zero_add] at hx
      have hbf := (hr.first q hq).1.2.2.2.2.1.1
      rcases hc with ⟨rfl, hc⟩ | rfl
      · exact ⟨by decide, ⟨hq, .inr (.inr ⟨rfl, by omega⟩)⟩, hx⟩
      · exact ⟨by decide, ⟨hq, .inr (.inl rfl)⟩, hx⟩
  · obtain ⟨b1, b2, b3⟩ := compE_bd hx
    obtain ⟨K, k1, k2, rfl⟩ := compE_ok hr.err hrd hx
    have hk : ∀ j, j < (mapE K).length → kE (mapE K) j ≤ 1000 := fun j hj => by have := b3 j hj; omega
    refine ⟨hb, .inr ⟨lysL ls (mapE K) no nc eo ec vs cs, rfl, lysL_in (by omega) (by omega) hk o1 o2 o3, ⟨K, ls, k1, k2, isU_lys K ls no nc eo ec vs cs⟩, fun wx hx hz => ?_⟩⟩
    have mv : ∀ {t : TypeId} {size : Nat} {v : Value} {m : Nat} {xs : List Value}, w'.ownsRow w.heap.size t size v m xs → wx.ownsRow w.heap.size t size v m xs := fun ho => own_of_block ho fun b hb => hx b (ownC_lt ho hb).2 (ownC_lt ho hb).1
    exact lysL_in (by omega) (by omega) hk (mv o1) (mv o2) ⟨fun j hj => mv (o3.own j hj), o3.apart⟩
theorem TabK.tab {L : Lay} {f : Nat → Rl} {n : Nat} {U : Lay} (hr : RuleL L f n) (h : TabK L ((List.range n).map f) U) : ∃ K ls, TabU L (fun u => ∃ j, j < n ∧ u = (f j).text) (lvs ((List.range n).map f)) n K ls U := by
  obtain ⟨K, ls, k1, k2, k3⟩ := h
  have hhead : ∀ r, ((List.range n).map f).head? = some r → r.reset.size ≠ 0 := fun r hh => by
    obtain ⟨m, rfl⟩ : ∃ m, n = m + 1 := ⟨n - 1, by have := hr.n0; omega⟩
    rw [List.range_succ_eq_map] at hh
    simp at hh
    rw [← hh]
    exact (hr.first 0 (by omega)).2 rfl
  have hi := inv_list _ _ 0 0 0 _ K (inv_start hr.err) (fun r hx => by
    rw [List.mem_map] at hx
    obtain ⟨j, hj, rfl⟩ := hx
    exact (hr.first j (List.mem_range.1 hj)).1) (.inl hhead) k1
  have e : (fun u => False ∨ ∃ r ∈ (List.range n).map f, u = r.text) = fun u => ∃ j, j < n ∧ u = (f j).text := by
    funext u
    apply propext
    constructor
    · rintro (h | ⟨r, hx, rfl⟩)
      · exact h.elim
      · rw [List.mem_map] at hx
        obtain ⟨j, hj, rfl⟩ := hx
        exact ⟨j, List.mem_range.1 hj, rfl⟩
    · rintro ⟨j, hj, rfl⟩
      exact .inr ⟨f j, List.mem_map.2 ⟨j, List.mem_range.2 hj, rfl⟩, rfl⟩
  rw [e, Nat.zero_add, Nat.zero_add, show ((List.range n).map f).length = n by simp] at hi
  exact ⟨K, ls, hi, k2, k3⟩

end Go.Proofs.Ytpclldccjpncdab

namespace Go.Proofs.Ytpclldccjpncdab
open Go.RowKit

theorem spL_free {k : Nat} {R : ByteArray} (h : SpL k R) (hk : k ≤ 12) {T : ByteArray → Prop} (hT : ∀ u, T u → u.size = 1 ∧ ∀ j, j < 12 → u ≠ ltr j) : FreeT T R := fun p q h1 _ hp ht => by
  obtain ⟨t1, t2⟩ := hT _ ht
  rw [sub_size _ _ _ hp] at t1
  subst t1
  obtain ⟨j, hj, e⟩ := h p (by omega)
  exact t2 j (by omega) e
theorem ltr_ne {c : UInt8} (h : c = 120 ∨ c = 121 ∨ c = 122) : ∀ j, j < 12 → (⟨#[c]⟩ : ByteArray) ≠ ltr j := fun j hj e => by
  have : j = 0 ∨ j = 1 ∨ j = 2 ∨ j = 3 ∨ j = 4 ∨ j = 5 ∨ j = 6 ∨ j = 7 ∨ j = 8 ∨ j = 9 ∨ j = 10 ∨ j = 11 := by omega
  unfold ltr at e
  injection e with e
  injection e with e
  injection e with e
  rcases this with rfl | rfl | rfl | rfl | rfl | rfl | rfl | rfl | rfl | rfl | rfl | rfl <;> rcases h with rfl | rfl | rfl <;> revert e <;> decide
def tX : ByteArray := ⟨#[120]⟩
def tY : ByteArray := ⟨#[121]⟩
def tZ : ByteArray := ⟨#[122]⟩
def chF (R e0 : ByteArray) (n : Nat) (i : Nat) : Rl := if i = 0 then ⟨R, 0, (n : Nat), tX, e0⟩ else if i = 1 then ⟨e0, 0, (n : Nat), tY, e0⟩ else ⟨e0, 0, (n : Nat), tZ, e0⟩
def chG (R e0 : ByteArray) (n : Nat) (i : Nat) : Rl := if i = 0 then ⟨R, 0, (n : Nat), tX, e0⟩ else ⟨R, 0, (n : Nat), tY, e0⟩
structure ChnP (L : Lay) (k : Nat) (R e0 : ByteArray) (n : Nat) : Prop where
  err : L.err = 0
  ln : L.n ≤ 20
  lm : L.m ≤ 22
  k12 : k ≤ 12
  tx : ∀ j, j < k → isText L.m L.tx (ltr j)
  r1 : 1 ≤ R.size
  r3 : R.size ≤ 3
  sp : SpL k R
  e : e0.size = 0
  n1 : 1 ≤ n
  n3 : n ≤ 3
theorem ChnP.chain {L : Lay} {k : Nat} {R e0 : ByteArray} {n : Nat} (h : ChnP L k R e0 n) : ChainP L R tX tY tZ e0 n :=
  { err := h.err, r0 := by have := h.r1; omega, r6 := by have := h.r3; omega, e := h.e, x := by decide, y := by decide, z := by decide, xy := by decide, xz := by decide, yz := by decide, n1 := h.n1, n3 := h.n3,
    sp := fun p hp => spL_spelt h.sp h.tx p hp,
    free := spL_free h.sp h.k12 (fun u hu => by
      rcases hu with rfl | rfl | rfl
      · exact ⟨rfl, ltr_ne (.inl rfl)⟩
      · exact ⟨rfl, ltr_ne (.inr (.inl rfl))⟩
      · exact ⟨rfl, ltr_ne (.inr (.inr rfl))⟩),
    ln := by have := h.ln; omega, lm := by have := h.lm; omega }
theorem ChnP.rule {L : Lay} {k : Nat} {R e0 : ByteArray} {n : Nat} (h : ChnP L k R e0 n) {f : Nat → Rl} {m : Nat} (hm : 1 ≤ m ∧ m ≤ 3) (h0 : 0 < m → (f 0).reset = R) (hf : ∀ i, i < m → ((f i).reset = R ∨ (f i).reset = e0) ∧ (f i).before = 0 ∧ (f i).level = (n : Nat) ∧ (f i).text.size = 1 ∧ (f i).more = e0) : RuleL L f m := by
  have r1 := h.r1
  have r3 := h.r3
  have he := h.e
  have n1 := h.n1
  have n3 := h.n3
  have hln := h.ln
  have hlm := h.lm
  have hrs : ∀ i, i < m → (f i).reset.size ≤ 3 := fun i hi => by
    rcases (hf i hi).1 with e | e <;> rw [e] <;> omega
  have hms : ∀ i, i < m → (f i).more.size = 0 := fun i hi => by rw [(hf i hi).2.2.2.2]; exact he
  refine ⟨by omega, fun i hi => ⟨?_, fun h00 => ?_⟩, ?_, h.err, by omega, by omega, fun i hi p hp => ?_, fun i hi p hp => ?_⟩
  · have a1 := hrs i hi
    have a2 := hms i hi
    obtain ⟨_, b2, b3, b4, _⟩ := hf i hi
    exact ⟨⟨by omega, by omega⟩, by omega, by omega, ⟨by rw [b3]; omega, by rw [b3]; omega⟩, ⟨by rw [b2]; omega, by rw [b2]; omega⟩, .inl b2⟩
  · subst h00
    rw [h0 hi]
    omega
  · have := rls_lenB (f := f) (c := 4) m fun i hi => by
      have a1 := hrs i hi
      have a2 := hms i hi
      have a3 := (hf i hi).2.2.2.1
      omega
    have : m * (15 + 2 * 4) ≤ 3 * 23 := Nat.mul_le_mul_right 23 hm.2
    omega
  · rcases (hf i hi).1 with e | e
    · rw [e] at hp ⊢
      exact spL_spelt h.sp h.tx p hp
    · rw [e] at hp
      omega
  · have := hms i hi
    omega
theorem ChnP.rule3 {L : Lay} {k : Nat} {R e0 : ByteArray} {n : Nat} (h : ChnP L k R e0 n) : RuleL L (chF R e0 n) 3 :=
  h.rule ⟨by omega, by omega⟩ (fun _ => rfl) fun i hi => by
    have : i = 0 ∨ i = 1 ∨ i = 2 := by omega
    rcases this with rfl | rfl | rfl
    · exact ⟨.inl rfl, rfl, rfl, rfl, rfl⟩
    · exact ⟨.inr rfl, rfl, rfl, rfl, rfl⟩
    · exact ⟨.inr rfl, rfl, rfl, rfl, rfl⟩
theorem ChnP.rule2 {L : Lay} {k : Nat} {R e0 : ByteArray} {n : Nat} (h : ChnP L k R e0 n) : RuleL L (chG R e0 n) 2 :=
  h.rule ⟨by omega, by omega⟩ (fun _ => rfl) fun i hi => by
    have : i = 0 ∨ i = 1 := by omega
    rcases this with rfl | rfl
    · exact ⟨.inl rfl, rfl, rfl, rfl, rfl⟩
    · exact ⟨.inl rfl, rfl, rfl, rfl, rfl⟩
theorem ChnP.one {L : Lay} {k : Nat} {R e0 : ByteArray} {n : Nat} (h : ChnP L k R e0 n) {U : Lay} (hk : TabK L ((List.range 3).map (chF R e0 n)) U) : U.err = 0 ∧ hasP U R ∧ hasP U tX ∧ hasP U tY ∧ hasP U tZ ∧ StandC U R tX n ∧ StandC U tX tY n ∧ StandC U tY tZ n := by
  obtain ⟨K, ls, k1, k2, k3⟩ := hk
  exact chain1 h.chain k1 k2 k3
/-- the second list is never refused where the first is not, and stands so -/
theorem ChnP.two {L : Lay} {k : Nat} {R e0 : ByteArray} {n : Nat} (h : ChnP L k R e0 n) {U : Lay} (hk : TabK L ((List.range 3).map (chF R e0 n)) U) :
    (∀ x, compE L (rlS (chG R e0 n) 2) ≠ .error x) ∧ ∀ V, TabK L ((List.range 2).map (chG R e0 n)) V → V.err = 0 ∧ hasP V R ∧ hasP V tX ∧ hasP V tY ∧ StandC V R tY n ∧ StandC V tY tX n := by
  obtain ⟨K, ls, k1, k2, k3⟩ := hk
  obtain ⟨K2, ls2, m1, m2, m3⟩ := chain2 h.chain k1 k2
  have m1 : rulesE insE (begS L) ((List.range 2).map (chG R e0 n)) 0 = .ok K2 := m1
  refine ⟨fun x hx => ?_, fun V hV => ?_⟩
  · have hrd : rdAll (rlS (chG R e0 n) 2) = ((List.range 2).map (chG R e0 n), 0, 0) := back_plain h.rule2.first h.rule2.len
    obtain ⟨x, a⟩ := x
    rcases compE_no h.err hrd hx with ⟨_, _, K', q1, q2⟩ | q
    · rw [m1] at q1
      injection q1 with q1
      subst q1
      rw [m2] at q2
      cases q2
    · rw [m1] at q
      cases q
  · obtain ⟨K', ls', q1, q2, q3⟩ := hV
    rw [m1] at q1
    injection q1 with q1
    subst q1
    rw [m2] at q2
    injection q2 with q2
    subst q2
    exact m3 V q3

end Go.Proofs.Ytpclldccjpncdab
