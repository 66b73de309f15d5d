import Derived.Test.YtpclldccjpncdaaRdW
namespace Go.Proofs.Ytpclldccjpncdaa
open Go.RowKit

theorem infoRulC : (Try.prog.info? 70).map (fun i => (i.zero, i.size, i.bytes)) = some (some (.agg #[.string ByteArray.empty, .int .i64 0, .int .i64 0, .string ByteArray.empty, .string ByteArray.empty]), 5, 64) := by kernel_rfl
def Rl.cs (x : Rl) : List Value := [.string x.reset, .int .i64 x.before, .int .i64 x.level, .string x.text, .string x.more]
/-- rules, cell by cell -/
def rulC (l : List Rl) : List Value := l.flatMap Rl.cs
theorem rulC_snoc (l : List Rl) (x : Rl) : rulC (l ++ [x]) = rulC l ++ x.cs := by simp [rulC]
theorem rulC_app (l l' : List Rl) : rulC (l ++ l') = rulC l ++ rulC l' := by simp [rulC]
theorem rulC_len : ∀ l : List Rl, (rulC l).length = l.length * 5
  | [] => rfl
  | x :: l => by
    have := rulC_len l
    show (x.cs ++ rulC l).length = _
    rw [List.length_append, this, List.length_cons]
    show 5 + _ = _
    omega
theorem rulC_at : ∀ (l : List Rl) (i : Nat), i < l.length → ∀ k, k < 5 → (rulC l)[i * 5 + k]? = (l.getD i default).cs[k]?
  | [], i, h, _, _ => by simp at h
  | x :: l, 0, _, k, hk => by
    show (x.cs ++ rulC l)[0 * 5 + k]? = _
    rw [List.getElem?_append_left (by show _ < 5; omega), Nat.zero_mul, Nat.zero_add]
    rfl
  | x :: l, i + 1, h, k, hk => by
    have h' : i < l.length := by simpa using h
    show (x.cs ++ rulC l)[(i + 1) * 5 + k]? = _
    rw [List.getElem?_append_right (by show 5 ≤ _; omega)]
    rw [show (i + 1) * 5 + k - x.cs.length = i * 5 + k by show _ - 5 = _; omega, rulC_at l i h' k hk]
    rfl
theorem rulC_one (l : List Rl) : ∀ u ∈ rulC l, u.oneCell' = true := fun u hu => by
  rw [rulC, List.mem_flatMap] at hu
  obtain ⟨x, _, hx⟩ := hu
  simp only [Rl.cs, List.mem_cons, List.not_mem_nil, or_false] at hx
  rcases hx with rfl | rfl | rfl | rfl | rfl <;> rfl
/-- no text of the rule is long -/
def Rl.small (x : Rl) : Prop := x.reset.size ≤ 1000 ∧ x.text.size ≤ 1000 ∧ x.more.size ≤ 1000
theorem small_none : (default : Rl).small := ⟨Nat.zero_le _, Nat.zero_le _, Nat.zero_le _⟩
theorem small_more {l : List Rl} {m : ByteArray} (hl : ∀ x ∈ l, x.small) (hm : m.size ≤ 1000) : ∀ x ∈ setMore l m, x.small := fun x hx => by
  unfold setMore at hx
  rcases List.mem_append.1 hx with h | h
  · exact hl x (List.dropLast_subset l h)
  · cases hq : l.getLast? with
    | none => rw [hq] at h; simp at h
    | some y =>
      rw [hq] at h
      simp at h
      subst h
      have := hl y (List.mem_of_getLast? hq)
      exact ⟨this.1, this.2.1, hm⟩
theorem small_adv {S : St} {st' : Nat} {t : Tk} (ht : t.tx.length ≤ 1000) (hn : S.nx.small) (ho : ∀ x ∈ S.out, x.small) : (adv S st' t).nx.small ∧ ∀ x ∈ (adv S st' t).out, x.small := by
  have hz : (strOfNums t.tx).size ≤ 1000 := by rw [strOfNums_size]; exact ht
  unfold adv
  repeat' split
  · exact ⟨hn, ho⟩
  · exact ⟨⟨hz, hn.2.1, hn.2.2⟩, ho⟩
  · exact ⟨hn, ho⟩
  · refine ⟨small_none, fun x hx => ?_⟩
    rcases List.mem_append.1 hx with h | h
    · exact ho x h
    · simp at h
      subst h
      exact ⟨hn.1, hz, hn.2.2⟩
  · exact ⟨hn, small_more ho hz⟩
  · exact ⟨hn, ho⟩
theorem rd_small {s : ByteArray} (hs : s.size ≤ 1000) : ∀ k (S : St), s.size - S.i ≤ k → S.nx.small → (∀ x ∈ S.out, x.small) → ∀ x ∈ (rd s S).1, x.small := by
  intro k
  induction k with
  | zero =>
    intro S hk hn ho
    cases ht : thn S.st (tk s S.i).kind with
    | none => rw [rd_bad ht]; simp
    | some st' =>
      by_cases hl : lim st' < (tk s S.i).tx.length
      · rw [rd_part ht hl]; simp
      · by_cases h8 : st' = 8
        · subst h8
          rw [rd_end ht]
          exact ho
        · have := tk_to (s := s) (i := S.i) (thn_go ht h8).1
          omega
  | succ k ih =>
    intro S hk hn ho
    cases ht : thn S.st (tk s S.i).kind with
    | none => rw [rd_bad ht]; simp
    | some st' =>
      by_cases hl : lim st' < (tk s S.i).tx.length
      · rw [rd_part ht hl]; simp
      · by_cases h8 : st' = 8
        · subst h8
          rw [rd_end ht]
          exact ho
        · have h1 := tk_to (s := s) (i := S.i) (thn_go ht h8).1
          have h2 : (tk s S.i).tx.length ≤ 1000 := Nat.le_trans tkA_len hs
          have h3 := small_adv (st' := st') h2 hn ho
          rw [rd_step ht hl h8]
          exact ih _ (by rw [adv_i]; omega) h3.1 h3.2
theorem rdAll_small (s : ByteArray) : ∀ x ∈ (rdAll s).1, x.small := by
  unfold rdAll
  split
  · simp
  · exact rd_small (by omega) _ _ (Nat.le_refl _) small_none (by simp)
theorem rules_in {w : World} {base : Nat} {v : Value} {l : List Rl} (ho : w.ownsRow base 70 5 v l.length (rulC l)) (hn : l.length ≤ 1000) (hl : ∀ x ∈ l, x.small) : ∃ ao b cap, v = .slice ao l.length cap ∧ RulesIn w.heap.size w ao l.length b 0 (fun i => l.getD i default) := by
  obtain ⟨vo, vc, gv, rfl, ha, hc⟩ := ownC_cells ho
  have cell : ∀ i, i < l.length → ∀ k u, k < 5 → (l.getD i default).cs[k]? = some u → w.cell? ⟨gv, 0 + i * 5 + k, none⟩ = some u := fun i hi k u hk hu => by
    rw [Nat.zero_add]
    exact hc _ u (by omega) (by rw [rulC_at l i hi k hk]; exact hu)
  refine ⟨vo, gv, vc, rfl, fun h => (ha h).1, fun h => (ha h).2.1, fun i hi => cell i hi 0 _ (by omega) rfl, fun i hi => cell i hi 1 _ (by omega) rfl, fun i hi => cell i hi 2 _ (by omega) rfl, fun i hi => cell i hi 3 _ (by omega) rfl, fun i hi => cell i hi 4 _ (by omega) rfl, by omega, fun i hi => ?_⟩
  have hm : l.getD i default ∈ l := by rw [List.getD_eq_getElem?_getD, List.getElem?_eq_getElem hi]; exact List.getElem_mem hi
  have := hl _ hm
  exact ⟨by have := this.1; omega, by have := this.2.1; omega, by have := this.2.2; omega⟩

/-! a chain -/
theorem rr_reset (s : ByteArray) (i : Nat) : (rr s i).1.reset = { data := #[] } ∧ (rr s i).1.before = 0 := by
  unfold rr rr2
  repeat' split
  all_goals exact ⟨rfl, rfl⟩
theorem rh_rest (s : ByteArray) (i : Nat) : (rh s i).1.more = { data := #[] } ∧ (rh s i).1.text = { data := #[] } ∧ (rh s i).1.level = 0 := by
  unfold rh
  repeat' split
  all_goals exact ⟨rfl, rfl, rfl⟩
def Pre (s : ByteArray) (st i : Nat) : Prop := Whole s st i ∧ (tk s i).kind ≠ 7
/-- what is read from i to a -/
def Chain (s : ByteArray) (i a : Nat) (L : List Rl) : Prop :=
  (L = [] ∧ ∀ st out, Pre s st i → rd s ⟨st, i, default, out⟩ = rd s ⟨3, a, (rh s i).1, out⟩) ∨
  (L ≠ [] ∧ ∃ st', (st' = 7 ∨ (st' = 5 ∧ (tk s a).kind ≠ 4)) ∧ ∀ st out, Pre s st i → rd s ⟨st, i, default, out⟩ = rd s ⟨st', a, default, out ++ L⟩)
theorem chain_head {s : ByteArray} {i : Nat} (h : (rh s i).2.2 = 0) : Chain s i (rh s i).2.1 [] := .inl ⟨rfl, fun _ _ hp => (rh_rd hp.1 hp.2).2 h⟩
/-- what one more relation makes of it -/
def addR (s : ByteArray) (i : Nat) (L : List Rl) (r : Rl) : Rl := if L = [] then { r with reset := (rh s i).1.reset, before := (rh s i).1.before } else r
theorem chain_more {s : ByteArray} {i a : Nat} {L : List Rl} (h : Chain s i a L) (hk : L ≠ [] → (tk s a).kind = 3) (he : (rr s a).2.2 = 0) : Chain s i (rr s a).2.1 (L ++ [addR s i L (rr s a).1]) := by
  right
  refine ⟨by simp, ?_⟩
  rcases h with ⟨rfl, h⟩ | ⟨hne, st', hst, h⟩
  · refine ⟨rrS s a, ((rr_rd (s := s) (st := 3) (i := a) (nx := (rh s i).1) (out := []) (.inl rfl) (rh_rest s i).1).2 he).1, fun st out hp => ?_⟩
    rw [h st out hp, ((rr_rd (s := s) (st := 3) (i := a) (nx := (rh s i).1) (out := out) (.inl rfl) (rh_rest s i).1).2 he).2]
    unfold addR
    rw [if_pos rfl]
    rfl
  · have hs3 : st' = 3 ∨ ((st' = 5 ∨ st' = 7) ∧ (tk s a).kind = 3) := .inr ⟨by omega, hk hne⟩
    refine ⟨rrS s a, ((rr_rd (s := s) (st := st') (i := a) (nx := default) (out := []) hs3 rfl).2 he).1, fun st out hp => ?_⟩
    rw [h st out hp, ((rr_rd (s := s) (st := st') (i := a) (nx := default) (out := out ++ L) hs3 rfl).2 he).2]
    unfold addR
    rw [if_neg hne, List.append_assoc]
    have : (rr s a).1 = { (rr s a).1 with reset := (default : Rl).reset, before := (default : Rl).before } := by
      obtain ⟨h1, h2⟩ := rr_reset s a
      generalize (rr s a).1 = x at h1 h2
      obtain ⟨x0, x1, x2, x3, x4⟩ := x
      simp only at h1 h2
      rw [h1, h2]
      rfl
    rw [← this]
theorem chain_bad {s : ByteArray} {i a : Nat} {L : List Rl} (h : Chain s i a L) (hk : L ≠ [] → (tk s a).kind = 3) (he : (rr s a).2.2 ≠ 0) : ∀ st out, Pre s st i → rd s ⟨st, i, default, out⟩ = ([], (rr s a).2.2, (rr s a).2.1) := fun st out hp => by
  rcases h with ⟨rfl, h⟩ | ⟨hne, st', hst, h⟩
  · rw [h st out hp]
    exact (rr_rd (.inl rfl) (rh_rest s i).1).1 he
  · rw [h st out hp]
    exact (rr_rd (.inr ⟨by omega, hk hne⟩) rfl).1 he
/-- a chain's end -/
theorem chain_end {s : ByteArray} {i a : Nat} {L : List Rl} (h : Chain s i a L) (hL : L ≠ []) (ha : a ≤ s.size) (hk : (tk s a).kind ≠ 3) : ∃ st', Whole s st' a ∧ ∀ st out, Pre s st i → rd s ⟨st, i, default, out⟩ = rd s ⟨st', a, default, out ++ L⟩ := by
  rcases h with ⟨rfl, h⟩ | ⟨hne, st', hst, h⟩
  · exact absurd rfl hL
  · refine ⟨st', ⟨ha, by omega, fun h1 h7 => ?_⟩, h⟩
    generalize (tk s a).kind = k at *
    unfold thn
    repeat' split
    all_goals first | rfl | (exfalso; omega)

end Go.Proofs.Ytpclldccjpncdaa
