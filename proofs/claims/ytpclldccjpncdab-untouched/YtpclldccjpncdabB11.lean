import Derived.Test.YtpclldccjpncdabB10
namespace Go.Proofs.Ytpclldccjpncdab
open Go.RowKit

def thnI (st k : Nat) : Int := match thn st k with
  | none => -1
  | some x => (x : Nat)
theorem tk_k7 (s : ByteArray) (i : Nat) : 1 ≤ (tk s i).kind ∧ (tk s i).kind ≤ 7 := by
  have := tkA_kind s (skp s i)
  unfold tk
  omega
theorem thn_range {st k st' : Nat} (h : thn st k = some st') : st' = 1 ∨ st' = 2 ∨ st' = 3 ∨ st' = 4 ∨ st' = 5 ∨ st' = 6 ∨ st' = 7 ∨ st' = 8 := by
  unfold thn at h
  repeat' split at h
  all_goals first
    | (injection h with h; omega)
    | (cases h; done)
theorem thn_6 {st k : Nat} (h : thn st k = some 6) : st = 5 := by
  unfold thn at h
  repeat' split at h
  all_goals first
    | assumption
    | (injection h with h; omega)
    | (cases h; done)
theorem thn_7 {st k : Nat} (h : thn st k = some 7) : st = 6 := by
  unfold thn at h
  repeat' split at h
  all_goals first
    | assumption
    | (injection h with h; omega)
    | (cases h; done)
theorem tk_fin7 {s : ByteArray} {i : Nat} (h : (tk s i).kind = 7) : (tk s i).fin = (tk s i).at' := by
  have h1 := tkA_end.1 h
  unfold tk tkA
  rw [if_pos h1]
def rlF (x : Rl) : Nat → Value := fun j => #[Value.string x.reset, .int .i64 x.before, .int .i64 x.level, .string x.text, .string x.more].getD j undef
theorem own_setN {w : World} {base : Nat} {e : TypeId} {size g cap n : Nat} {xs : List Value} (h : w.ownsRow base e size (.slice (some ⟨g, 0, none⟩) n cap) n xs) {q : Nat} (x : Value) : (w.setCell ⟨g, q, none⟩ x).ownsRow base e size (.slice (some ⟨g, 0, none⟩) n cap) n (xs.set q x) := by
  obtain ⟨hl, h2⟩ := h
  rcases h2 with ⟨hv, _⟩ | ⟨g', cap', cur, hv, hbg, hg, hnc, hcm, hcs, htake⟩
  · cases hv
  · cases hv
    refine ⟨by simpa using hl, .inr ⟨g, cap, cur.setIfInBounds q x, rfl, hbg, ?_, hnc, hcm, by simpa using hcs, ?_⟩⟩
    · simp [World.setCell, Array.getElem?_modify, hg]
    · rw [← htake, Array.toList_setIfInBounds, List.take_set]
theorem own_frozenN {w : World} {base : Nat} {e : TypeId} {size g cap n : Nat} {xs : List Value} (h : w.ownsRow base e size (.slice (some ⟨g, 0, none⟩) n cap) n xs) (q : Nat) : w.frozen? ⟨g, q, none⟩ = false := by
  obtain ⟨hl, h2⟩ := h
  rcases h2 with ⟨hv, _⟩ | ⟨g', cap', cur, hv, hbg, hg, hnc, hcm, hcs, htake⟩
  · cases hv
  · cases hv
    simp [World.frozen?, hg]
theorem rulC_more (y : List Rl) (x : Rl) (m : ByteArray) : (rulC (y ++ [x])).set (y.length * 5 + 4) (.string m) = rulC (setMore (y ++ [x]) m) := by
  rw [setMore_snoc, rulC_snoc, rulC_snoc, List.set_append_right _ _ (by rw [rulC_len]; omega), rulC_len, Nat.add_sub_cancel_left]
  rfl

end Go.Proofs.Ytpclldccjpncdab

namespace Go.Proofs.Ytpclldccjpncdab
open Go.RowKit

/-- the weights of a node of the list, behind one with the weights p, s, t -/
def wgt (p s t : Int) (x : Sp) : Sp :=
  if x.old = true then x
  else if x.str = 1 then { x with p := p + 1, s := 8, t := 8 }
  else if x.str = 2 then { x with p := p, s := s + 1, t := 8 }
  else if x.str = 3 then { x with p := p, s := s, t := t + 1 }
  else x
def okW (p s t : Int) (y : Sp) : Bool := aboveB y.p y.s y.t p s t && decide (stI p s t y.p y.s y.t = y.str) && nodeB y.p y.s y.t
/-- the list with its weights; none: there is no room -/
def weigh : List Sp → Int → Int → Int → Option (List Sp)
  | [], _, _, _ => some []
  | x :: r, p, s, t => if okW p s t (wgt p s t x) = true then (weigh r (wgt p s t x).p (wgt p s t x).s (wgt p s t x).t).map (wgt p s t x :: ·) else none
theorem set_mid {α : Type} (a b : List α) (k : Nat) (v : α) (_hk : k < b.length) : (a ++ b).set (a.length + k) v = a ++ b.set k v := by
  rw [List.set_append_right _ _ (by omega), Nat.add_sub_cancel_left]
theorem spsC_set (d : List Sp) (x : Sp) (r : List Sp) (p s t : Int) : (((spsC (d ++ x :: r)).set (d.length * 6 + 3) (.int .i64 p)).set (d.length * 6 + 4) (.int .i64 s)).set (d.length * 6 + 5) (.int .i64 t) = spsC (d ++ { x with p := p, s := s, t := t } :: r) := by
  have e : ∀ y : Sp, spsC (d ++ y :: r) = spsC d ++ (y.cs ++ spsC r) := fun y => by rw [spsC_app]; rfl
  rw [e, e, ← spsC_len d, set_mid _ _ 3 _ (by rw [List.length_append]; show 3 < 6 + _; omega), set_mid _ _ 4 _ (by rw [List.length_set, List.length_append]; show 4 < 6 + _; omega), set_mid _ _ 5 _ (by rw [List.length_set, List.length_set, List.length_append]; show 5 < 6 + _; omega)]
  rfl
theorem OnlyRow.row6 {g : Nat} {w w' : World} (h : OnlyRow g w w') {b : Nat} {t : TypeId} {n : Nat} {f : Nat → Value} (hr : w.rowIs b t n f) (hb : b ≠ g) : w'.rowIs b t n f := h.row hr hb
def spF (x : Sp) : Nat → Value := fun j => #[Value.int .i64 x.name, .int .i64 x.str, .bool x.old, .int .i64 x.p, .int .i64 x.s, .int .i64 x.t].getD j undef
def ndF (p s t : Int) : Nat → Value := fun j => #[Value.int .i64 p, .int .i64 s, .int .i64 t].getD j undef

end Go.Proofs.Ytpclldccjpncdab

namespace Go.Proofs.Ytpclldccjpncdab
open Go.RowKit

theorem less_trans : ∀ a b c : List UInt8, Op.bytesLess a b = true → Op.bytesLess b c = true → Op.bytesLess a c = true
  | a, b, [], _, h => by cases b <;> simp [Op.bytesLess] at h
  | a, [], c :: cs, h, _ => by cases a <;> simp [Op.bytesLess] at h
  | [], b :: bs, c :: cs, _, _ => by simp [Op.bytesLess]
  | a :: l, b :: bs, c :: cs, h, h' => by
    have ih := less_trans l bs cs
    simp only [Op.bytesLess, Bool.or_eq_true, Bool.and_eq_true, decide_eq_true_eq, beq_iff_eq, UInt8.lt_iff_toNat_lt, ← UInt8.toNat_inj] at h h' ⊢
    rcases h with h | ⟨h1, h2⟩ <;> rcases h' with h' | ⟨h3, h4⟩
    · exact .inl (by omega)
    · exact .inl (by omega)
    · exact .inl (by omega)
    · exact .inr ⟨by omega, ih h2 h4⟩
theorem lessB_trans {a b c : ByteArray} (h : lessB a b = true) (h' : lessB b c = true) : lessB a c = true := less_trans _ _ _ h h'

end Go.Proofs.Ytpclldccjpncdab

namespace Go.Proofs.Ytpclldccjpncdab
open Go.RowKit

/-! compiling, as the entries lie in whatever order -/
theorem lessB_irr (a : ByteArray) : lessB a a = false := less_no _ _ (.inr rfl)
theorem lessB_asym {a b : ByteArray} (h : lessB a b = true) : lessB b a = false := less_no _ _ (.inl h)
theorem lessB_tri {a b : ByteArray} (h : lessB a b = false) (hn : a ≠ b) : lessB b a = true := less_yes _ _ ⟨h, fun e => hn (bytes_eq.1 e)⟩
theorem lessB_ne {a b : ByteArray} (h : lessB a b = true) : a ≠ b := fun e => by rw [e, lessB_irr] at h; cases h

def txE (es : List En) (j : Nat) : ByteArray := (es.getD j default).tx
def kE (es : List En) (j : Nat) : Nat := (es.getD j default).zs.length
def zE (es : List En) (j i : Nat) : Int := (es.getD j default).zs.getD i 0
theorem getD_at {α : Type} [Inhabited α] {l : List α} {i : Nat} (h : i < l.length) : l.getD i default = l[i] := by
  rw [List.getD_eq_getElem?_getD, List.getElem?_eq_getElem h]; rfl
theorem isText_mem {es : List En} {u : ByteArray} : isText es.length (txE es) u ↔ ∃ e ∈ es, e.tx = u := by
  constructor
  · rintro ⟨i, hi, ht⟩
    exact ⟨es[i], List.getElem_mem hi, by rw [← ht, txE, getD_at hi]⟩
  · rintro ⟨e, he, ht⟩
    obtain ⟨i, hi, rfl⟩ := List.getElem_of_mem he
    exact ⟨i, hi, by rw [txE, getD_at hi]; exact ht⟩
/-- the nodes of an entry -/
def look (es : List En) (u : ByteArray) : List Int := match es.find? (fun e => decide (e.tx = u)) with
  | some e => e.zs
  | none => []
def OnceE (es : List En) : Prop := es.Pairwise fun a b => a.tx ≠ b.tx
theorem once_perm {es es' : List En} (h : es.Perm es') : OnceE es ↔ OnceE es' := h.pairwise_iff (fun hab => Ne.symm hab)
theorem look_mem {es : List En} (ho : OnceE es) {e : En} (he : e ∈ es) : look es e.tx = e.zs := by
  unfold look
  cases hf : es.find? (fun x => decide (x.tx = e.tx)) with
  | none =>
    rw [List.find?_eq_none] at hf
    exact absurd (by simp) (hf e he)
  | some x =>
    have hx := List.mem_of_find?_eq_some hf
    have ht : x.tx = e.tx := by simpa using List.find?_some hf
    have : x = e := by
      by_cases hxe : x = e
      · exact hxe
      · exfalso
        obtain ⟨i, hi, rfl⟩ := List.getElem_of_mem hx
        obtain ⟨j, hj, rfl⟩ := List.getElem_of_mem he
        have hp := List.pairwise_iff_getElem.1 ho
        rcases Nat.lt_trichotomy i j with hij | hij | hij
        · exact hp i j hi hj hij ht
        · subst hij
          exact hxe rfl
        · exact hp j i hj hi hij ht.symm
    rw [this]
theorem look_perm {es es' : List En} (h : es.Perm es') (ho : OnceE es) (u : ByteArray) : look es u = look es' u := by
  by_cases hu : ∃ e ∈ es, e.tx = u
  · obtain ⟨e, he, rfl⟩ := hu
    rw [look_mem ho he, look_mem ((once_perm h).1 ho) (h.mem_iff.1 he)]
  · have h1 : es.find? (fun e => decide (e.tx = u)) = none := by
      rw [List.find?_eq_none]
      intro x hx hh
      exact hu ⟨x, hx, by simpa using hh⟩
    have h2 : es'.find? (fun e => decide (e.tx = u)) = none := by
      rw [List.find?_eq_none]
      intro x hx hh
      exact hu ⟨x, h.mem_iff.2 hx, by simpa using hh⟩
    unfold look
    rw [h1, h2]
/-- the numbers of the first q pieces of a text -/
noncomputable def numsQ (es : List En) (s : ByteArray) (q : Nat) : List Int := (List.range q).flatMap fun j => look es (piece es.length (txE es) s j)
open Classical in
/-- the numbers of the nodes of a text; none: it has no pieces -/
noncomputable def numsE (es : List En) (s : ByteArray) : Option (List Int) := if h : ∃ q, Cut es.length (txE es) s q ∧ pos es.length (txE es) s q = s.size then some (numsQ es s h.choose) else none
theorem numsE_some {es : List En} {s : ByteArray} {q : Nat} (hc : Cut es.length (txE es) s q) (hp : pos es.length (txE es) s q = s.size) : numsE es s = some (numsQ es s q) := by
  have h : ∃ q, Cut es.length (txE es) s q ∧ pos es.length (txE es) s q = s.size := ⟨q, hc, hp⟩
  unfold numsE
  rw [dif_pos h, h.choose_spec.1.uniq hc]
theorem numsE_none {es : List En} {s : ByteArray} {q : Nat} (hc : Cut es.length (txE es) s q) (hp : pos es.length (txE es) s q ≠ s.size) : numsE es s = none := by
  unfold numsE
  rw [dif_neg]
  rintro ⟨q', hc', hp'⟩
  rw [hc'.uniq hc] at hp'
  exact hp hp'
theorem lenAt_same {m m' : Nat} {tx tx' : Nat → ByteArray} (h : ∀ u, isText m tx u ↔ isText m' tx' u) (s : ByteArray) (p : Nat) : lenAt m tx s p = lenAt m' tx' s p := by
  unfold lenAt
  rw [(funext fun u => propext (h u) : isText m tx = isText m' tx')]
theorem pos_same {m m' : Nat} {tx tx' : Nat → ByteArray} (h : ∀ u, isText m tx u ↔ isText m' tx' u) (s : ByteArray) : ∀ q, pos m tx s q = pos m' tx' s q
  | 0 => rfl
  | q + 1 => by
    show pos m tx s q + lenAt m tx s (pos m tx s q) = pos m' tx' s q + lenAt m' tx' s (pos m' tx' s q)
    rw [pos_same h s q, lenAt_same h]
theorem piece_same {m m' : Nat} {tx tx' : Nat → ByteArray} (h : ∀ u, isText m tx u ↔ isText m' tx' u) (s : ByteArray) (j : Nat) : piece m tx s j = piece m' tx' s j := by
  unfold piece
  rw [pos_same h, lenAt_same h]
theorem cut_same {m m' : Nat} {tx tx' : Nat → ByteArray} (h : ∀ u, isText m tx u ↔ isText m' tx' u) (s : ByteArray) (q : Nat) : Cut m tx s q ↔ Cut m' tx' s q := by
  constructor
  · rintro ⟨h1, h2⟩
    exact ⟨fun j hj => by rw [← lenAt_same h, ← pos_same h]; exact h1 j hj, by rw [← lenAt_same h, ← pos_same h]; exact h2⟩
  · rintro ⟨h1, h2⟩
    exact ⟨fun j hj => by rw [lenAt_same h, pos_same h]; exact h1 j hj, by rw [lenAt_same h, pos_same h]; exact h2⟩
theorem perm_text {es es' : List En} (h : es.Perm es') (u : ByteArray) : isText es.length (txE es) u ↔ isText es'.length (txE es') u := by
  rw [isText_mem, isText_mem]
  constructor
  · rintro ⟨e, he, ht⟩
    exact ⟨e, h.mem_iff.1 he, ht⟩
  · rintro ⟨e, he, ht⟩
    exact ⟨e, h.mem_iff.2 he, ht⟩
theorem numsQ_perm {es es' : List En} (h : es.Perm es') (ho : OnceE es) (s : ByteArray) (q : Nat) : numsQ es s q = numsQ es' s q := by
  unfold numsQ
  congr 1
  funext j
  rw [piece_same (perm_text h), look_perm h ho]
theorem numsE_perm {es es' : List En} (h : es.Perm es') (ho : OnceE es) (s : ByteArray) : numsE es s = numsE es' s := by
  by_cases hq : ∃ q, Cut es.length (txE es) s q ∧ pos es.length (txE es) s q = s.size
  · obtain ⟨q, hc, hp⟩ := hq
    rw [numsE_some hc hp, numsE_some ((cut_same (perm_text h) s q).1 hc) (by rw [← pos_same (perm_text h)]; exact hp), numsQ_perm h ho]
  · have hq' : ¬ ∃ q, Cut es'.length (txE es') s q ∧ pos es'.length (txE es') s q = s.size := by
      rintro ⟨q, hc, hp⟩
      exact hq ⟨q, (cut_same (perm_text h) s q).2 hc, by rw [pos_same (perm_text h)]; exact hp⟩
    unfold numsE
    rw [dif_neg hq, dif_neg hq']
theorem look_idx {es : List En} {u : ByteArray} (h : isText es.length (txE es) u) : look es u = (es.getD (idx es.length (txE es) u) default).zs := by
  obtain ⟨h1, h2, h3⟩ := idx_spec h
  have : es.find? (fun e => decide (e.tx = u)) = some es[idx es.length (txE es) u] := by
    rw [List.find?_eq_some_iff_getElem]
    refine ⟨?_, _, h1, rfl, fun j hj => ?_⟩
    · rw [txE, getD_at h1] at h2
      simpa using h2
    · have := h3 j hj
      rw [txE, getD_at (by omega)] at this
      simpa using this
  unfold look
  rw [this, getD_at h1]

/-! a new entry -/
/-- in the order of the texts -/
def insE (es : List En) (e : En) : List En := es.takeWhile (fun x => lessB x.tx e.tx) ++ e :: (match es.dropWhile (fun x => lessB x.tx e.tx) with
  | [] => []
  | y :: r => if y.tx = e.tx then r else y :: r)
/-- at the end -/
def repE (es : List En) (e : En) : List En := if (∃ x ∈ es, x.tx = e.tx) then es.map (fun x => if x.tx = e.tx then e else x) else es ++ [e]
def SortE (es : List En) : Prop := es.Pairwise fun a b => lessB a.tx b.tx = true
theorem sort_once {es : List En} (h : SortE es) : OnceE es := h.imp fun h => lessB_ne h
theorem drop_greater {es : List En} (h : SortE es) (e : En) : ∀ x ∈ (match es.dropWhile (fun x => lessB x.tx e.tx) with
  | [] => []
  | y :: r => if y.tx = e.tx then r else y :: r), lessB e.tx x.tx = true := by
  intro x hx
  have hs : (es.dropWhile (fun x => lessB x.tx e.tx)).Pairwise fun a b => lessB a.tx b.tx = true := List.Pairwise.sublist (List.dropWhile_sublist _) h
  cases hd : es.dropWhile (fun x => lessB x.tx e.tx) with
  | nil => rw [hd] at hx; cases hx
  | cons y r =>
    rw [hd] at hx hs
    simp only at hx
    have hy : lessB y.tx e.tx = false := by
      have hne : es.dropWhile (fun x => lessB x.tx e.tx) ≠ [] := by rw [hd]; simp
      have := List.head_dropWhile_not (fun x : En => lessB x.tx e.tx) hne
      simp only [hd, List.head_cons] at this
      exact this
    rw [List.pairwise_cons] at hs
    by_cases hye : y.tx = e.tx
    · rw [if_pos hye] at hx
      have := hs.1 x hx
      rw [hye] at this
      exact this
    · rw [if_neg hye] at hx
      have hey := lessB_tri hy hye
      rcases List.mem_cons.1 hx with rfl | hx
      · exact hey
      · exact lessB_trans hey (hs.1 x hx)
theorem take_less (es : List En) (e : En) : ∀ x ∈ es.takeWhile (fun x => lessB x.tx e.tx), lessB x.tx e.tx = true := fun x hx => by
  induction es with
  | nil => cases hx
  | cons a l ih =>
    rw [List.takeWhile_cons] at hx
    split at hx
    · next ha =>
      rcases List.mem_cons.1 hx with rfl | hx
      · exact ha
      · exact ih hx
    · cases hx
theorem insE_sort {es : List En} (h : SortE es) (e : En) : SortE (insE es e) := by
  have hg := drop_greater h e
  have ht := take_less es e
  unfold insE SortE
  rw [List.pairwise_append]
  refine ⟨List.Pairwise.sublist (List.takeWhile_sublist _) h, ?_, fun a ha b hb => ?_⟩
  · rw [List.pairwise_cons]
    refine ⟨hg, ?_⟩
    have hs : (es.dropWhile (fun x => lessB x.tx e.tx)).Pairwise fun a b => lessB a.tx b.tx = true := List.Pairwise.sublist (List.dropWhile_sublist _) h
    split
    · exact List.Pairwise.nil
    · next y r hd =>
      rw [hd] at hs
      split
      · exact (List.pairwise_cons.1 hs).2
      · exact hs
  · rcases List.mem_cons.1 hb with rfl | hb
    · exact ht a ha
    · exact lessB_trans (ht a ha) (hg b hb)
theorem insE_perm {es : List En} (h : SortE es) (e : En) : (insE es e).Perm (e :: es.filter fun x => decide (x.tx ≠ e.tx)) := by
  have hg := drop_greater h e
  have ht := take_less es e
  have hes := List.takeWhile_append_dropWhile (p := fun x : En => lessB x.tx e.tx) (l := es)
  unfold insE
  refine List.perm_middle.trans (List.Perm.cons _ ?_)
  have hT : (es.takeWhile (fun x => lessB x.tx e.tx)).filter (fun x => decide (x.tx ≠ e.tx)) = es.takeWhile (fun x => lessB x.tx e.tx) := List.filter_eq_self.2 fun x hx => by
    have := lessB_ne (ht x hx)
    simpa using this
  have hD : (es.dropWhile (fun x => lessB x.tx e.tx)).filter (fun x => decide (x.tx ≠ e.tx)) = (match es.dropWhile (fun x => lessB x.tx e.tx) with
  | [] => []
  | y :: r => if y.tx = e.tx then r else y :: r) := by
    cases hd : es.dropWhile (fun x => lessB x.tx e.tx) with
    | nil => rfl
    | cons y r =>
      rw [hd] at hg
      simp only at hg ⊢
      by_cases hye : y.tx = e.tx
      · rw [if_pos hye] at hg ⊢
        rw [List.filter_cons_of_neg (by simpa using hye)]
        exact List.filter_eq_self.2 fun x hx => by
          have := lessB_ne (hg x hx)
          simpa using this.symm
      · rw [if_neg hye] at hg ⊢
        exact List.filter_eq_self.2 fun x hx => by
          have := lessB_ne (hg x hx)
          simpa using this.symm
  conv => rhs; rw [← hes, List.filter_append, hT, hD]
theorem repE_perm {es : List En} (h : OnceE es) (e : En) : (repE es e).Perm (e :: es.filter fun x => decide (x.tx ≠ e.tx)) := by
  unfold repE
  split
  · next hx =>
    induction es with
    | nil => obtain ⟨_, hx, _⟩ := hx; cases hx
    | cons a l ih =>
      unfold OnceE at h
      rw [List.pairwise_cons] at h
      rw [List.map_cons]
      by_cases ha : a.tx = e.tx
      · rw [if_pos ha, List.filter_cons_of_neg (by simpa using ha)]
        have h1 : l.map (fun x => if x.tx = e.tx then e else x) = l := by
          conv => rhs; rw [← List.map_id l]
          refine List.map_congr_left fun x hx => ?_
          rw [if_neg]
          · rfl
          · rw [← ha]; exact (h.1 x hx).symm
        have h2 : l.filter (fun x => decide (x.tx ≠ e.tx)) = l := List.filter_eq_self.2 fun x hx => by
          have := (h.1 x hx).symm
          rw [ha] at this
          simpa using this
        rw [h1, h2]
      · rw [if_neg ha, List.filter_cons_of_pos (by simpa using ha)]
        refine (List.Perm.cons _ (ih h.2 ?_)).trans (List.Perm.swap _ _ _)
        obtain ⟨x, hx, hxe⟩ := hx
        rcases List.mem_cons.1 hx with rfl | hx
        · exact absurd hxe ha
        · exact ⟨x, hx, hxe⟩
  · next hx =>
    have h2 : es.filter (fun x => decide (x.tx ≠ e.tx)) = es := List.filter_eq_self.2 fun x hx' => by
      have : x.tx ≠ e.tx := fun hh => hx ⟨x, hx', hh⟩
      simpa using this
    rw [h2]
    exact List.perm_append_comm
theorem ins_rep {es E : List En} (hp : es.Perm E) (hs : SortE E) (e : En) : (repE es e).Perm (insE E e) := by
  have ho : OnceE es := (once_perm hp).2 (sort_once hs)
  exact (repE_perm ho e).trans ((List.Perm.cons _ (hp.filter _)).trans (insE_perm hs e).symm)

/-! a rule -/
/-- the state behind a rule, or the error -/
noncomputable def ruleE (upd : List En → En → List En) (K : Wk) (r : Rl) : Except Int Wk :=
  match numsE K.es r.more with
  | none => .error 10
  | some more =>
    match (if r.reset.size ≠ 0 then (numsE K.es r.reset).map (fun l => (l.dropLast, l.getLastD 0)) else some (K.stem, K.anchor)) with
    | none => .error 10
    | some (stem, anchor) =>
      if r.before ≠ 0 ∧ (r.level ≠ r.before ∨ startS K.ls anchor r.before < 0) then .error 11
      else
        let K1 : Wk := { K with stem := stem, anchor := anchor }
        let K2 := if 0 < r.level then putS K1 (if r.before = 0 then behindS K.ls anchor r.level else (startS K.ls anchor r.before).toNat) r.level else K1
        if 4 < (K2.stem ++ [K2.anchor] ++ more).length then .error 12
        else if 48 < K2.ls.length ∨ 48 < (upd K2.es ⟨r.text, K2.stem ++ [K2.anchor] ++ more⟩).length then .error 13
        else .ok { K2 with es := upd K2.es ⟨r.text, K2.stem ++ [K2.anchor] ++ more⟩ }
/-- the same but for the order of the entries -/
structure Alike (K K' : Wk) : Prop where
  ls : K.ls = K'.ls
  stem : K.stem = K'.stem
  anchor : K.anchor = K'.anchor
  names : K.names = K'.names
  perm : K.es.Perm K'.es
  sort : SortE K'.es
theorem putS_alike {K K' : Wk} (h : Alike K K') (a : Nat) (lev : Int) : Alike (putS K a lev) (putS K' a lev) := by
  refine ⟨?_, h.stem, h.names, ?_, h.perm, h.sort⟩
  · show K.ls.take a ++ [Sp.mk K.names lev false 0 0 0] ++ K.ls.drop a = K'.ls.take a ++ [Sp.mk K'.names lev false 0 0 0] ++ K'.ls.drop a
    rw [h.ls, h.names]
  · show K.names + 1 = K'.names + 1
    rw [h.names]
def AlikeR (a b : Except Int Wk) : Prop := match a, b with
  | .error e, .error f => e = f
  | .ok K, .ok K' => Alike K K'
  | _, _ => False
theorem ruleE_alike {K K' : Wk} (h : Alike K K') (r : Rl) : AlikeR (ruleE repE K r) (ruleE insE K' r) := by
  have ho : OnceE K.es := (once_perm h.perm).2 (sort_once h.sort)
  unfold ruleE
  rw [numsE_perm h.perm ho, numsE_perm h.perm ho, h.stem, h.anchor, h.ls]
  cases numsE K'.es r.more with
  | none => exact rfl
  | some more =>
    simp only
    split
    · exact rfl
    · next stem anchor _ =>
      by_cases hb : r.before ≠ 0 ∧ (r.level ≠ r.before ∨ startS K'.ls anchor r.before < 0)
      · rw [if_pos hb, if_pos hb]
        exact rfl
      · rw [if_neg hb, if_neg hb]
        have hA : Alike (if 0 < r.level then putS { K with ls := K'.ls, stem := stem, anchor := anchor } (if r.before = 0 then behindS K'.ls anchor r.level else (startS K'.ls anchor r.before).toNat) r.level else { K with ls := K'.ls, stem := stem, anchor := anchor }) (if 0 < r.level then putS { K' with stem := stem, anchor := anchor } (if r.before = 0 then behindS K'.ls anchor r.level else (startS K'.ls anchor r.before).toNat) r.level else { K' with stem := stem, anchor := anchor }) := by
          have h1 : Alike { K with ls := K'.ls, stem := stem, anchor := anchor } { K' with stem := stem, anchor := anchor } := ⟨rfl, rfl, rfl, h.names, h.perm, h.sort⟩
          split
          · exact putS_alike h1 _ _
          · exact h1
        generalize (if 0 < r.level then putS { K with ls := K'.ls, stem := stem, anchor := anchor } (if r.before = 0 then behindS K'.ls anchor r.level else (startS K'.ls anchor r.before).toNat) r.level else { K with ls := K'.ls, stem := stem, anchor := anchor }) = K2 at hA ⊢
        generalize (if 0 < r.level then putS { K' with stem := stem, anchor := anchor } (if r.before = 0 then behindS K'.ls anchor r.level else (startS K'.ls anchor r.before).toNat) r.level else { K' with stem := stem, anchor := anchor }) = K2' at hA ⊢
        have hp := ins_rep hA.perm hA.sort ⟨r.text, K2'.stem ++ [K2'.anchor] ++ more⟩
        rw [hA.stem, hA.anchor, hA.ls, hp.length_eq]
        split
        · exact rfl
        · split
          · exact rfl
          · exact ⟨rfl, rfl, rfl, hA.names, hp, insE_sort hA.sort _⟩
/-- all rules; an error with the number of its rule -/
noncomputable def rulesE (upd : List En → En → List En) : Wk → List Rl → Nat → Except (Int × Nat) Wk
  | K, [], _ => .ok K
  | K, r :: l, i => match ruleE upd K r with
    | .error e => .error (e, i)
    | .ok K' => rulesE upd K' l (i + 1)
def AlikeS (a b : Except (Int × Nat) Wk) : Prop := match a, b with
  | .error e, .error f => e = f
  | .ok K, .ok K' => Alike K K'
  | _, _ => False
theorem rulesE_alike : ∀ (l : List Rl) (K K' : Wk) (i : Nat), Alike K K' → AlikeS (rulesE repE K l i) (rulesE insE K' l i)
  | [], K, K', i, h => h
  | r :: l, K, K', i, h => by
    have hr := ruleE_alike h r
    unfold rulesE
    revert hr
    cases ruleE repE K r with
    | error e =>
      cases ruleE insE K' r with
      | error f => intro hr; have hr : e = f := hr; subst hr; exact rfl
      | ok _ => intro hr; exact hr.elim
    | ok K2 =>
      cases ruleE insE K' r with
      | error f => intro hr; exact hr.elim
      | ok K2' => intro hr; exact rulesE_alike l K2 K2' (i + 1) hr

end Go.Proofs.Ytpclldccjpncdab
