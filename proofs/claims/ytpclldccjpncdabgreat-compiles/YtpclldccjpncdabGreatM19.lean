import Derived.Test.YtpclldccjpncdabGreatM18
namespace Go.Proofs.YtpclldccjpncdabGreat
open Go.RowKit

/-! compiling, as the entries lie in whatever order -/
theorem lessB_irr (a : ByteArray) : lessB a a = false := less_no _ _ (.inr rfl)
theorem lessB_asym {a b : ByteArray} (h : lessB a b = true) : lessB b a = false := less_no _ _ (.inl h)
theorem lessB_tri {a b : ByteArray} (h : lessB a b = false) (hn : a ≠ b) : lessB b a = true := less_yes _ _ ⟨h, fun e => hn (bytes_eq.1 e)⟩
theorem lessB_ne {a b : ByteArray} (h : lessB a b = true) : a ≠ b := fun e => by rw [e, lessB_irr] at h; cases h

def txE (es : List En) (j : Nat) : ByteArray := (es.getD j default).tx
def kE (es : List En) (j : Nat) : Nat := (es.getD j default).zs.length
def zE (es : List En) (j i : Nat) : Int := (es.getD j default).zs.getD i 0
theorem getD_at {α : Type} [Inhabited α] {l : List α} {i : Nat} (h : i < l.length) : l.getD i default = l[i] := by
  rw [List.getD_eq_getElem?_getD, List.getElem?_eq_getElem h]; rfl
theorem isText_mem {es : List En} {u : ByteArray} : isText es.length (txE es) u ↔ ∃ e ∈ es, e.tx = u := by
  constructor
  · rintro ⟨i, hi, ht⟩
    exact ⟨es[i], List.getElem_mem hi, by rw [← ht, txE, getD_at hi]⟩
  · rintro ⟨e, he, ht⟩
    obtain ⟨i, hi, rfl⟩ := List.getElem_of_mem he
    exact ⟨i, hi, by rw [txE, getD_at hi]; exact ht⟩
/-- the nodes of an entry -/
def look (es : List En) (u : ByteArray) : List Int := match es.find? (fun e => decide (e.tx = u)) with
  | some e => e.zs
  | none => []
def OnceE (es : List En) : Prop := es.Pairwise fun a b => a.tx ≠ b.tx
theorem once_perm {es es' : List En} (h : es.Perm es') : OnceE es ↔ OnceE es' := h.pairwise_iff (fun hab => Ne.symm hab)
theorem look_mem {es : List En} (ho : OnceE es) {e : En} (he : e ∈ es) : look es e.tx = e.zs := by
  unfold look
  cases hf : es.find? (fun x => decide (x.tx = e.tx)) with
  | none =>
    rw [List.find?_eq_none] at hf
    exact absurd (by simp) (hf e he)
  | some x =>
    have hx := List.mem_of_find?_eq_some hf
    have ht : x.tx = e.tx := by simpa using List.find?_some hf
    have : x = e := by
      by_cases hxe : x = e
      · exact hxe
      · exfalso
        obtain ⟨i, hi, rfl⟩ := List.getElem_of_mem hx
        obtain ⟨j, hj, rfl⟩ := List.getElem_of_mem he
        have hp := List.pairwise_iff_getElem.1 ho
        rcases Nat.lt_trichotomy i j with hij | hij | hij
        · exact hp i j hi hj hij ht
        · subst hij
          exact hxe rfl
        · exact hp j i hj hi hij ht.symm
    rw [this]
theorem look_perm {es es' : List En} (h : es.Perm es') (ho : OnceE es) (u : ByteArray) : look es u = look es' u := by
  by_cases hu : ∃ e ∈ es, e.tx = u
  · obtain ⟨e, he, rfl⟩ := hu
    rw [look_mem ho he, look_mem ((once_perm h).1 ho) (h.mem_iff.1 he)]
  · have h1 : es.find? (fun e => decide (e.tx = u)) = none := by
      rw [List.find?_eq_none]
      intro x hx hh
      exact hu ⟨x, hx, by simpa using hh⟩
    have h2 : es'.find? (fun e => decide (e.tx = u)) = none := by
      rw [List.find?_eq_none]
      intro x hx hh
      exact hu ⟨x, h.mem_iff.2 hx, by simpa using hh⟩
    unfold look
    rw [h1, h2]
/-- the numbers of the first q pieces of a text -/
noncomputable def numsQ (es : List En) (s : ByteArray) (q : Nat) : List Int := (List.range q).flatMap fun j => look es (piece es.length (txE es) s j)
open Classical in
/-- the numbers of the nodes of a text; none: it has no pieces -/
noncomputable def numsE (es : List En) (s : ByteArray) : Option (List Int) := if h : ∃ q, Cut es.length (txE es) s q ∧ pos es.length (txE es) s q = s.size then some (numsQ es s h.choose) else none
theorem numsE_some {es : List En} {s : ByteArray} {q : Nat} (hc : Cut es.length (txE es) s q) (hp : pos es.length (txE es) s q = s.size) : numsE es s = some (numsQ es s q) := by
  have h : ∃ q, Cut es.length (txE es) s q ∧ pos es.length (txE es) s q = s.size := ⟨q, hc, hp⟩
  unfold numsE
  rw [dif_pos h, h.choose_spec.1.uniq hc]
theorem numsE_none {es : List En} {s : ByteArray} {q : Nat} (hc : Cut es.length (txE es) s q) (hp : pos es.length (txE es) s q ≠ s.size) : numsE es s = none := by
  unfold numsE
  rw [dif_neg]
  rintro ⟨q', hc', hp'⟩
  rw [hc'.uniq hc] at hp'
  exact hp hp'
theorem lenAt_same {m m' : Nat} {tx tx' : Nat → ByteArray} (h : ∀ u, isText m tx u ↔ isText m' tx' u) (s : ByteArray) (p : Nat) : lenAt m tx s p = lenAt m' tx' s p := by
  unfold lenAt
  rw [(funext fun u => propext (h u) : isText m tx = isText m' tx')]
theorem pos_same {m m' : Nat} {tx tx' : Nat → ByteArray} (h : ∀ u, isText m tx u ↔ isText m' tx' u) (s : ByteArray) : ∀ q, pos m tx s q = pos m' tx' s q
  | 0 => rfl
  | q + 1 => by
    show pos m tx s q + lenAt m tx s (pos m tx s q) = pos m' tx' s q + lenAt m' tx' s (pos m' tx' s q)
    rw [pos_same h s q, lenAt_same h]
theorem piece_same {m m' : Nat} {tx tx' : Nat → ByteArray} (h : ∀ u, isText m tx u ↔ isText m' tx' u) (s : ByteArray) (j : Nat) : piece m tx s j = piece m' tx' s j := by
  unfold piece
  rw [pos_same h, lenAt_same h]
theorem cut_same {m m' : Nat} {tx tx' : Nat → ByteArray} (h : ∀ u, isText m tx u ↔ isText m' tx' u) (s : ByteArray) (q : Nat) : Cut m tx s q ↔ Cut m' tx' s q := by
  constructor
  · rintro ⟨h1, h2⟩
    exact ⟨fun j hj => by rw [← lenAt_same h, ← pos_same h]; exact h1 j hj, by rw [← lenAt_same h, ← pos_same h]; exact h2⟩
  · rintro ⟨h1, h2⟩
    exact ⟨fun j hj => by rw [lenAt_same h, pos_same h]; exact h1 j hj, by rw [lenAt_same h, pos_same h]; exact h2⟩
theorem perm_text {es es' : List En} (h : es.Perm es') (u : ByteArray) : isText es.length (txE es) u ↔ isText es'.length (txE es') u := by
  rw [isText_mem, isText_mem]
  constructor
  · rintro ⟨e, he, ht⟩
    exact ⟨e, h.mem_iff.1 he, ht⟩
  · rintro ⟨e, he, ht⟩
    exact ⟨e, h.mem_iff.2 he, ht⟩
theorem numsQ_perm {es es' : List En} (h : es.Perm es') (ho : OnceE es) (s : ByteArray) (q : Nat) : numsQ es s q = numsQ es' s q := by
  unfold numsQ
  congr 1
  funext j
  rw [piece_same (perm_text h), look_perm h ho]
theorem numsE_perm {es es' : List En} (h : es.Perm es') (ho : OnceE es) (s : ByteArray) : numsE es s = numsE es' s := by
  by_cases hq : ∃ q, Cut es.length (txE es) s q ∧ pos es.length (txE es) s q = s.size
  · obtain ⟨q, hc, hp⟩ := hq
    rw [numsE_some hc hp, numsE_some ((cut_same (perm_text h) s q).1 hc) (by rw [← pos_same (perm_text h)]; exact hp), numsQ_perm h ho]
  · have hq' : ¬ ∃ q, Cut es'.length (txE es') s q ∧ pos es'.length (txE es') s q = s.size := by
      rintro ⟨q, hc, hp⟩
      exact hq ⟨q, (cut_same (perm_text h) s q).2 hc, by rw [pos_same (perm_text h)]; exact hp⟩
    unfold numsE
    rw [dif_neg hq, dif_neg hq']
theorem look_idx {es : List En} {u : ByteArray} (h : isText es.length (txE es) u) : look es u = (es.getD (idx es.length (txE es) u) default).zs := by
  obtain ⟨h1, h2, h3⟩ := idx_spec h
  have : es.find? (fun e => decide (e.tx = u)) = some es[idx es.length (txE es) u] := by
    rw [List.find?_eq_some_iff_getElem]
    refine ⟨?_, _, h1, rfl, fun j hj => ?_⟩
    · rw [txE, getD_at h1] at h2
      simpa using h2
    · have := h3 j hj
      rw [txE, getD_at (by omega)] at this
      simpa using this
  unfold look
  rw [this, getD_at h1]

/-! a new entry -/
/-- in the order of the texts -/
def insE (es : List En) (e : En) : List En := es.takeWhile (fun x => lessB x.tx e.tx) ++ e :: (match es.dropWhile (fun x => lessB x.tx e.tx) with
  | [] => []
  | y :: r => if y.tx = e.tx then r else y :: r)
/-- at the end -/
def repE (es : List En) (e : En) : List En := if (∃ x ∈ es, x.tx = e.tx) then es.map (fun x => if x.tx = e.tx then e else x) else es ++ [e]
def SortE (es : List En) : Prop := es.Pairwise fun a b => lessB a.tx b.tx = true
theorem sort_once {es : List En} (h : SortE es) : OnceE es := h.imp fun h => lessB_ne h
theorem drop_greater {es : List En} (h : SortE es) (e : En) : ∀ x ∈ (match es.dropWhile (fun x => lessB x.tx e.tx) with
  | [] => []
  | y :: r => if y.tx = e.tx then r else y :: r), lessB e.tx x.tx = true := by
  intro x hx
  have hs : (es.dropWhile (fun x => lessB x.tx e.tx)).Pairwise fun a b => lessB a.tx b.tx = true := List.Pairwise.sublist (List.dropWhile_sublist _) h
  cases hd : es.dropWhile (fun x => lessB x.tx e.tx) with
  | nil => rw [hd] at hx; cases hx
  | cons y r =>
    rw [hd] at hx hs
    simp only at hx
    have hy : lessB y.tx e.tx = false := by
      have hne : es.dropWhile (fun x => lessB x.tx e.tx) ≠ [] := by rw [hd]; simp
      have := List.head_dropWhile_not (fun x : En => lessB x.tx e.tx) hne
      simp only [hd, List.head_cons] at this
      exact this
    rw [List.pairwise_cons] at hs
    by_cases hye : y.tx = e.tx
    · rw [if_pos hye] at hx
      have := hs.1 x hx
      rw [hye] at this
      exact this
    · rw [if_neg hye] at hx
      have hey := lessB_tri hy hye
      rcases List.mem_cons.1 hx with rfl | hx
      · exact hey
      · exact lessB_trans hey (hs.1 x hx)
theorem take_less (es : List En) (e : En) : ∀ x ∈ es.takeWhile (fun x => lessB x.tx e.tx), lessB x.tx e.tx = true := fun x hx => by
  induction es with
  | nil => cases hx
  | cons a l ih =>
    rw [List.takeWhile_cons] at hx
    split at hx
    · next ha =>
      rcases List.mem_cons.1 hx with rfl | hx
      · exact ha
      · exact ih hx
    · cases hx
theorem insE_sort {es : List En} (h : SortE es) (e : En) : SortE (insE es e) := by
  have hg := drop_greater h e
  have ht := take_less es e
  unfold insE SortE
  rw [List.pairwise_append]
  refine ⟨List.Pairwise.sublist (List.takeWhile_sublist _) h, ?_, fun a ha b hb => ?_⟩
  · rw [List.pairwise_cons]
    refine ⟨hg, ?_⟩
    have hs : (es.dropWhile (fun x => lessB x.tx e.tx)).Pairwise fun a b => lessB a.tx b.tx = true := List.Pairwise.sublist (List.dropWhile_sublist _) h
    split
    · exact List.Pairwise.nil
    · next y r hd =>
      rw [hd] at hs
      split
      · exact (List.pairwise_cons.1 hs).2
      · exact hs
  · rcases List.mem_cons.1 hb with rfl | hb
    · exact ht a ha
    · exact lessB_trans (ht a ha) (hg b hb)
theorem insE_perm {es : List En} (h : SortE es) (e : En) : (insE es e).Perm (e :: es.filter fun x => decide (x.tx ≠ e.tx)) := by
  have hg := drop_greater h e
  have ht := take_less es e
  have hes := List.takeWhile_append_dropWhile (p := fun x : En => lessB x.tx e.tx) (l := es)
  unfold insE
  refine List.perm_middle.trans (List.Perm.cons _ ?_)
  have hT : (es.takeWhile (fun x => lessB x.tx e.tx)).filter (fun x => decide (x.tx ≠ e.tx)) = es.takeWhile (fun x => lessB x.tx e.tx) := List.filter_eq_self.2 fun x hx => by
    have := lessB_ne (ht x hx)
    simpa using this
  have hD : (es.dropWhile (fun x => lessB x.tx e.tx)).filter (fun x => decide (x.tx ≠ e.tx)) = (match es.dropWhile (fun x => lessB x.tx e.tx) with
  | [] => []
  | y :: r => if y.tx = e.tx then r else y :: r) := by
    cases hd : es.dropWhile (fun x => lessB x.tx e.tx) with
    | nil => rfl
    | cons y r =>
      rw [hd] at hg
      simp only at hg ⊢
      by_cases hye : y.tx = e.tx
      · rw [if_pos hye] at hg ⊢
        rw [List.filter_cons_of_neg (by simpa using hye)]
        exact List.filter_eq_self.2 fun x hx => by
          have := lessB_ne (hg x hx)
          simpa using this.symm
      · rw [if_neg hye] at hg ⊢
        exact List.filter_eq_self.2 fun x hx => by
          have := lessB_ne (hg x hx)
          simpa using this.symm
  conv => rhs; rw [← hes, List.filter_append, hT, hD]
theorem repE_perm {es : List En} (h : OnceE es) (e : En) : (repE es e).Perm (e :: es.filter fun x => decide (x.tx ≠ e.tx)) := by
  unfold repE
  split
  · next hx =>
    induction es with
    | nil => obtain ⟨_, hx, _⟩ := hx; cases hx
    | cons a l ih =>
      unfold OnceE at h
      rw [List.pairwise_cons] at h
      rw [List.map_cons]
      by_cases ha : a.tx = e.tx
      · rw [if_pos ha, List.filter_cons_of_neg (by simpa using ha)]
        have h1 : l.map (fun x => if x.tx = e.tx then e else x) = l := by
          conv => rhs; rw [← List.map_id l]
          refine List.map_congr_left fun x hx => ?_
          rw [if_neg]
          · rfl
          · rw [← ha]; exact (h.1 x hx).symm
        have h2 : l.filter (fun x => decide (x.tx ≠ e.tx)) = l := List.filter_eq_self.2 fun x hx => by
          have := (h.1 x hx).symm
          rw [ha] at this
          simpa using this
        rw [h1, h2]
      · rw [if_neg ha, List.filter_cons_of_pos (by simpa using ha)]
        refine (List.Perm.cons _ (ih h.2 ?_)).trans (List.Perm.swap _ _ _)
        obtain ⟨x, hx, hxe⟩ := hx
        rcases List.mem_cons.1 hx with rfl | hx
        · exact absurd hxe ha
        · exact ⟨x, hx, hxe⟩
  · next hx =>
    have h2 : es.filter (fun x => decide (x.tx ≠ e.tx)) = es := List.filter_eq_self.2 fun x hx' => by
      have : x.tx ≠ e.tx := fun hh => hx ⟨x, hx', hh⟩
      simpa using this
    rw [h2]
    exact List.perm_append_comm
theorem ins_rep {es E : List En} (hp : es.Perm E) (hs : SortE E) (e : En) : (repE es e).Perm (insE E e) := by
  have ho : OnceE es := (once_perm hp).2 (sort_once hs)
  exact (repE_perm ho e).trans ((List.Perm.cons _ (hp.filter _)).trans (insE_perm hs e).symm)

/-! a rule -/
/-- the state behind a rule, or the error -/
noncomputable def ruleE (upd : List En → En → List En) (K : Wk) (r : Rl) : Except Int Wk :=
  match numsE K.es r.more with
  | none => .error 10
  | some more =>
    match (if r.reset.size ≠ 0 then (numsE K.es r.reset).map (fun l => (l.dropLast, l.getLastD 0)) else some (K.stem, K.anchor)) with
    | none => .error 10
    | some (stem, anchor) =>
      if r.before ≠ 0 ∧ (r.level ≠ r.before ∨ startS K.ls anchor r.before < 0) then .error 11
      else
        let K1 : Wk := { K with stem := stem, anchor := anchor }
        let K2 := if 0 < r.level then putS K1 (if r.before = 0 then behindS K.ls anchor r.level else (startS K.ls anchor r.before).toNat) r.level else K1
        if 4 < (K2.stem ++ [K2.anchor] ++ more).length then .error 12
        else if 48 < K2.ls.length ∨ 48 < (upd K2.es ⟨r.text, K2.stem ++ [K2.anchor] ++ more⟩).length then .error 13
        else .ok { K2 with es := upd K2.es ⟨r.text, K2.stem ++ [K2.anchor] ++ more⟩ }
/-- the same but for the order of the entries -/
structure Alike (K K' : Wk) : Prop where
  ls : K.ls = K'.ls
  stem : K.stem = K'.stem
  anchor : K.anchor = K'.anchor
  names : K.names = K'.names
  perm : K.es.Perm K'.es
  sort : SortE K'.es
theorem putS_alike {K K' : Wk} (h : Alike K K') (a : Nat) (lev : Int) : Alike (putS K a lev) (putS K' a lev) := by
  refine ⟨?_, h.stem, h.names, ?_, h.perm, h.sort⟩
  · show K.ls.take a ++ [Sp.mk K.names lev false 0 0 0] ++ K.ls.drop a = K'.ls.take a ++ [Sp.mk K'.names lev false 0 0 0] ++ K'.ls.drop a
    rw [h.ls, h.names]
  · show K.names + 1 = K'.names + 1
    rw [h.names]
def AlikeR (a b : Except Int Wk) : Prop := match a, b with
  | .error e, .error f => e = f
  | .ok K, .ok K' => Alike K K'
  | _, _ => False
theorem ruleE_alike {K K' : Wk} (h : Alike K K') (r : Rl) : AlikeR (ruleE repE K r) (ruleE insE K' r) := by
  have ho : OnceE K.es := (once_perm h.perm).2 (sort_once h.sort)
  unfold ruleE
  rw [numsE_perm h.perm ho, numsE_perm h.perm ho, h.stem, h.anchor, h.ls]
  cases numsE K'.es r.more with
  | none => exact rfl
  | some more =>
    simp only
    split
    · exact rfl
    · next stem anchor _ =>
      by_cases hb : r.before ≠ 0 ∧ (r.level ≠ r.before ∨ startS K'.ls anchor r.before < 0)
      · rw [if_pos hb, if_pos hb]
        exact rfl
      · rw [if_neg hb, if_neg hb]
        have hA : Alike (if 0 < r.level then putS { K with ls := K'.ls, stem := stem, anchor := anchor } (if r.before = 0 then behindS K'.ls anchor r.level else (startS K'.ls anchor r.before).toNat) r.level else { K with ls := K'.ls, stem := stem, anchor := anchor }) (if 0 < r.level then putS { K' with stem := stem, anchor := anchor } (if r.before = 0 then behindS K'.ls anchor r.level else (startS K'.ls anchor r.before).toNat) r.level else { K' with stem := stem, anchor := anchor }) := by
          have h1 : Alike { K with ls := K'.ls, stem := stem, anchor := anchor } { K' with stem := stem, anchor := anchor } := ⟨rfl, rfl, rfl, h.names, h.perm, h.sort⟩
          split
          · exact putS_alike h1 _ _
          · exact h1
        generalize (if 0 < r.level then putS { K with ls := K'.ls, stem := stem, anchor := anchor } (if r.before = 0 then behindS K'.ls anchor r.level else (startS K'.ls anchor r.before).toNat) r.level else { K with ls := K'.ls, stem := stem, anchor := anchor }) = K2 at hA ⊢
        generalize (if 0 < r.level then putS { K' with stem := stem, anchor := anchor } (if r.before = 0 then behindS K'.ls anchor r.level else (startS K'.ls anchor r.before).toNat) r.level else { K' with stem := stem, anchor := anchor }) = K2' at hA ⊢
        have hp := ins_rep hA.perm hA.sort ⟨r.text, K2'.stem ++ [K2'.anchor] ++ more⟩
        rw [hA.stem, hA.anchor, hA.ls, hp.length_eq]
        split
        · exact rfl
        · split
          · exact rfl
          · exact ⟨rfl, rfl, rfl, hA.names, hp, insE_sort hA.sort _⟩
/-- all rules; an error with the number of its rule -/
noncomputable def rulesE (upd : List En → En → List En) : Wk → List Rl → Nat → Except (Int × Nat) Wk
  | K, [], _ => .ok K
  | K, r :: l, i => match ruleE upd K r with
    | .error e => .error (e, i)
    | .ok K' => rulesE upd K' l (i + 1)
def AlikeS (a b : Except (Int × Nat) Wk) : Prop := match a, b with
  | .error e, .error f => e = f
  | .ok K, .ok K' => Alike K K'
  | _, _ => False
theorem rulesE_alike : ∀ (l : List Rl) (K K' : Wk) (i : Nat), Alike K K' → AlikeS (rulesE repE K l i) (rulesE insE K' l i)
  | [], K, K', i, h => h
  | r :: l, K, K', i, h => by
    have hr := ruleE_alike h r
    unfold rulesE
    revert hr
    cases ruleE repE K r with
    | error e =>
      cases ruleE insE K' r with
      | error f => intro hr; have hr : e = f := hr; subst hr; exact rfl
      | ok _ => intro hr; exact hr.elim
    | ok K2 =>
      cases ruleE insE K' r with
      | error f => intro hr; exact hr.elim
      | ok K2' => intro hr; exact rulesE_alike l K2 K2' (i + 1) hr

end Go.Proofs.YtpclldccjpncdabGreat

namespace Go.Proofs.YtpclldccjpncdabGreat
open Go.RowKit

/-! what stays true from rule to rule -/
structure GoodK (K : Wk) : Prop where
  len : K.names = (K.ls.length : Nat)
  ls : K.ls.length ≤ 48
  es : K.es.length ≤ 48
  str : ∀ x ∈ K.ls, x.str = 1 ∨ x.str = 2 ∨ x.str = 3
  name : ∀ z, 0 ≤ z → z < K.names → ∃ x ∈ K.ls, x.name = z
  ent : ∀ e ∈ K.es, (1 ≤ e.tx.size ∧ e.tx.size ≤ 3) ∧ (1 ≤ e.zs.length ∧ e.zs.length ≤ 4) ∧ ∀ z ∈ e.zs, 0 ≤ z ∧ z < K.names
  once : OnceE K.es
structure Anch (K : Wk) : Prop where
  anchor : 0 ≤ K.anchor ∧ K.anchor < K.names
  stem : ∀ z ∈ K.stem, 0 ≤ z ∧ z < K.names
  len : K.stem.length ≤ 100
theorem plc_in {l : List Sp} {nm : Int} (h : ∃ x ∈ l, x.name = nm) : 0 ≤ plc l nm ∧ plc l nm < l.length := by
  have hl := plc_le l nm
  refine ⟨?_, hl.2⟩
  unfold plc
  split
  · omega
  · next hn =>
    rw [List.findIdx?_eq_none_iff] at hn
    obtain ⟨x, hx, he⟩ := h
    have := hn x hx
    rw [he] at this
    simp at this
theorem GoodK.txE {K : Wk} (h : GoodK K) : ∀ i, i < K.es.length → 1 ≤ (txE K.es i).size ∧ (txE K.es i).size ≤ 3 := fun i hi => by
  unfold Go.Proofs.YtpclldccjpncdabGreat.txE
  rw [getD_at hi]
  exact (h.ent _ (List.getElem_mem hi)).1
theorem GoodK.kE {K : Wk} (h : GoodK K) : ∀ i, i < K.es.length → 1 ≤ kE K.es i ∧ kE K.es i ≤ 4 := fun i hi => by
  unfold Go.Proofs.YtpclldccjpncdabGreat.kE
  rw [getD_at hi]
  exact (h.ent _ (List.getElem_mem hi)).2.1
theorem look_in {es : List En} {u : ByteArray} (h : isText es.length (txE es) u) : ∃ e ∈ es, e.tx = u ∧ look es u = e.zs := by
  obtain ⟨h1, h2, _⟩ := idx_spec h
  refine ⟨es[idx es.length (txE es) u], List.getElem_mem h1, ?_, ?_⟩
  · rw [txE, getD_at h1] at h2
    exact h2
  · rw [look_idx h, getD_at h1]
/-- what the numbers of a text are -/
theorem numsQ_all {K : Wk} (h : GoodK K) (s : ByteArray) : ∀ q, (∀ j, j < q → 0 < lenAt K.es.length (txE K.es) s (pos K.es.length (txE K.es) s j)) → (numsQ K.es s q).length ≤ 4 * q ∧ q ≤ (numsQ K.es s q).length ∧ ∀ z ∈ numsQ K.es s q, 0 ≤ z ∧ z < K.names
  | 0, _ => by simp [numsQ]
  | q + 1, hq => by
    obtain ⟨a, b, c⟩ := numsQ_all h s q fun j hj => hq j (by omega)
    obtain ⟨e, he, _, hl⟩ := look_in (lenAt_text (hq q (by omega)))
    have hE := h.ent e he
    have hs : numsQ K.es s (q + 1) = numsQ K.es s q ++ e.zs := by
      unfold numsQ
      rw [List.range_succ, List.flatMap_append, List.flatMap_singleton]
      exact congrArg _ hl
    rw [hs, List.length_append]
    refine ⟨by omega, by omega, fun z hz => ?_⟩
    rcases List.mem_append.1 hz with hz | hz
    · exact c z hz
    · exact hE.2.2 z hz
theorem numsE_all {K : Wk} (h : GoodK K) {s : ByteArray} {l : List Int} (hl : numsE K.es s = some l) : l.length ≤ 4 * s.size ∧ (s.size ≠ 0 → l ≠ []) ∧ ∀ z ∈ l, 0 ≤ z ∧ z < K.names := by
  unfold numsE at hl
  split at hl
  · next hq =>
    obtain ⟨hc, hp⟩ := hq.choose_spec
    generalize hq.choose = q at hl hc hp
    injection hl with hl
    obtain ⟨a, b, c⟩ := numsQ_all h s q hc.go
    have hg := pos_ge q hc.go
    rw [hl] at a b c
    refine ⟨by omega, fun h0 e => ?_, c⟩
    rw [e] at b
    have : q = 0 := by simpa using b
    rw [this] at hp
    exact h0 hp.symm
  · cases hl
theorem putS_good {K : Wk} (h : GoodK K) {a : Nat} {lev : Int} (ha : a ≤ K.ls.length) (hl : lev = 1 ∨ lev = 2 ∨ lev = 3) (h48 : (putS K a lev).ls.length ≤ 48) : GoodK (putS K a lev) := by
  have hlen : (putS K a lev).ls.length = K.ls.length + 1 := by
    show (K.ls.take a ++ [Sp.mk K.names lev false 0 0 0] ++ K.ls.drop a).length = _
    simp
    omega
  have hmem : ∀ x, x ∈ (putS K a lev).ls ↔ x = Sp.mk K.names lev false 0 0 0 ∨ x ∈ K.ls := fun x => by
    show x ∈ K.ls.take a ++ [Sp.mk K.names lev false 0 0 0] ++ K.ls.drop a ↔ _
    conv => rhs; rw [← List.take_append_drop a K.ls]
    simp only [List.mem_append, List.mem_singleton]
    constructor
    · rintro ((h | h) | h)
      · exact .inr (.inl h)
      · exact .inl h
      · exact .inr (.inr h)
    · rintro (h | (h | h))
      · exact .inl (.inr h)
      · exact .inl (.inl h)
      · exact .inr h
  refine ⟨?_, h48, h.es, fun x hx => ?_, fun z h0 hz => ?_, fun e he => ?_, h.once⟩
  · rw [hlen]
    show K.names + 1 = _
    rw [h.len]
    omega
  · rcases (hmem x).1 hx with rfl | hx
    · exact hl
    · exact h.str x hx
  · have hz : z < K.names + 1 := hz
    by_cases e : z = K.names
    · exact ⟨_, (hmem _).2 (.inl rfl), e.symm⟩
    · obtain ⟨x, hx, hn⟩ := h.name z h0 (by omega)
      exact ⟨x, (hmem x).2 (.inr hx), hn⟩
  · have he := h.ent e he
    refine ⟨he.1, he.2.1, fun z hz => ?_⟩
    have := he.2.2 z hz
    show 0 ≤ z ∧ z < K.names + 1
    omega
theorem mem_of_upd {es : List En} {e x : En} (h : x ∈ e :: es.filter fun x => decide (x.tx ≠ e.tx)) : x = e ∨ x ∈ es := by
  rcases List.mem_cons.1 h with h | h
  · exact .inl h
  · exact .inr (List.mem_filter.1 h).1
theorem once_upd {es : List En} (h : OnceE es) (e : En) : OnceE (e :: es.filter fun x => decide (x.tx ≠ e.tx)) := by
  unfold OnceE
  rw [List.pairwise_cons]
  refine ⟨fun x hx => ?_, List.Pairwise.sublist List.filter_sublist h⟩
  rw [List.mem_filter] at hx
  have := hx.2
  simp at this
  exact fun hh => this hh.symm
/-- an update of the entries -/
def UpdE (upd : List En → En → List En) (es : List En) : Prop := ∀ e, (upd es e).Perm (e :: es.filter fun x => decide (x.tx ≠ e.tx))
theorem stt_lt (l : List Sp) (lev : Int) (i : Nat) : stt l lev i < (i : Nat) ∨ i = 0 := by
  have := stt_le l lev i
  cases i with
  | zero => exact .inr rfl
  | succ i =>
    left
    unfold stt
    split
    · split <;> omega
    · have := stt_le l lev i
      omega
theorem startS_lt (l : List Sp) (an lev : Int) : startS l an lev < (l.length : Nat) := by
  unfold startS
  have h := plc_le l an
  rcases stt_lt l lev (plc l an + 1).toNat with h1 | h1
  · omega
  · rw [h1]
    unfold stt
    omega
theorem behindS_le (l : List Sp) (an lev : Int) : behindS l an lev ≤ l.length := by
  have := plc_le l an
  exact beh_le (by omega)
theorem upd_good {K2 : Wk} {x : En} {es' : List En} (hK2 : GoodK K2) (hp : es'.Perm (x :: K2.es.filter fun y => decide (y.tx ≠ x.tx))) (h48 : es'.length ≤ 48) (hx : (1 ≤ x.tx.size ∧ x.tx.size ≤ 3) ∧ (1 ≤ x.zs.length ∧ x.zs.length ≤ 4) ∧ ∀ z ∈ x.zs, 0 ≤ z ∧ z < K2.names) : GoodK { K2 with es := es' } :=
  ⟨hK2.len, hK2.ls, h48, hK2.str, hK2.name, fun e he => by
    rcases mem_of_upd (hp.mem_iff.1 he) with rfl | he
    · exact hx
    · exact hK2.ent e he, (once_perm hp).2 (once_upd hK2.once x)⟩
theorem ruleE_good {upd : List En → En → List En} {K K' : Wk} {r : Rl} (h : GoodK K) (hu : UpdE upd K.es) (hr : r.ok) (ha : r.reset.size ≠ 0 ∨ Anch K) (he : ruleE upd K r = .ok K') : GoodK K' ∧ Anch K' := by
  unfold ruleE at he
  cases hm : numsE K.es r.more with
  | none => rw [hm] at he; cases he
  | some more =>
    obtain ⟨_, _, hmz⟩ := numsE_all h hm
    rw [hm] at he
    simp only at he
    cases hs : (if r.reset.size ≠ 0 then (numsE K.es r.reset).map (fun l => (l.dropLast, l.getLastD 0)) else some (K.stem, K.anchor)) with
    | none => rw [hs] at he; cases he
    | some sa =>
      obtain ⟨stem, anchor⟩ := sa
      rw [hs] at he
      simp only at he
      have hA : Anch { K with stem := stem, anchor := anchor } := by
        by_cases h0 : r.reset.size ≠ 0
        · rw [if_pos h0] at hs
          cases hn : numsE K.es r.reset with
          | none => rw [hn] at hs; cases hs
          | some l =>
            rw [hn] at hs
            simp only [Option.map_some, Option.some.injEq, Prod.mk.injEq] at hs
            obtain ⟨rfl, rfl⟩ := hs
            obtain ⟨b1, b2, b3⟩ := numsE_all h hn
            have hl := b2 h0
            have hr6 := hr.2.2.1
            refine ⟨?_, fun z hz => b3 z (List.dropLast_subset l hz), ?_⟩
            · exact b3 _ (by
                rw [List.getLastD_eq_getLast?, List.getLast?_eq_some_getLast hl]
                exact List.getLast_mem hl)
            · show l.dropLast.length ≤ 100
              rw [List.length_dropLast]
              omega
        · rw [if_neg h0] at hs
          simp only [Option.some.injEq, Prod.mk.injEq] at hs
          obtain ⟨rfl, rfl⟩ := hs
          exact ha.resolve_left h0
      have hG : GoodK { K with stem := stem, anchor := anchor } := ⟨h.len, h.ls, h.es, h.str, h.name, h.ent, h.once⟩
      by_cases hb : r.before ≠ 0 ∧ (r.level ≠ r.before ∨ startS K.ls anchor r.before < 0)
      · rw [if_pos hb] at he; cases he
      · rw [if_neg hb] at he
        have hat : (if r.before = 0 then behindS K.ls anchor r.level else (startS K.ls anchor r.before).toNat) ≤ K.ls.length := by
          split
          · exact behindS_le _ _ _
          · have := startS_lt K.ls anchor r.before
            omega
        obtain ⟨K2, hK2⟩ : ∃ K2, K2 = (if 0 < r.level then putS { K with stem := stem, anchor := anchor } (if r.before = 0 then behindS K.ls anchor r.level else (startS K.ls anchor r.before).toNat) r.level else { K with stem := stem, anchor := anchor }) := ⟨_, rfl⟩
        rw [← hK2] at he
        by_cases h4 : 4 < (K2.stem ++ [K2.anchor] ++ more).length
        · rw [if_pos h4] at he; cases he
        · rw [if_neg h4] at he
          by_cases h48 : 48 < K2.ls.length ∨ 48 < (upd K2.es ⟨r.text, K2.stem ++ [K2.anchor] ++ more⟩).length
          · rw [if_pos h48] at he; cases he
          · rw [if_neg h48] at he
            injection he with he
            subst he
            have hlev := hr.2.2.2.1
            have hE2 : K2.es = K.es := by rw [hK2]; split <;> rfl
            have hnm : K.names ≤ K2.names := by
              rw [hK2]; split
              · show K.names ≤ K.names + 1; omega
              · exact Int.le_refl _
            have hG2 : GoodK K2 ∧ Anch K2 := by
              have hle : K2.ls.length ≤ 48 := by omega
              have hnn : (0 : Int) ≤ K.names := by rw [h.len]; omega
              rw [hK2] at hle ⊢
              split
              · next hl =>
                rw [if_pos hl] at hle
                refine ⟨putS_good hG hat (by omega) hle, ?_, ?_, hA.len⟩
                · show 0 ≤ K.names ∧ K.names < K.names + 1
                  omega
                · intro z hz
                  have := hA.stem z hz
                  show 0 ≤ z ∧ z < K.names + 1
                  have : z < K.names := this.2
                  omega
              · exact ⟨hG, hA⟩
            refine ⟨upd_good hG2.1 (by rw [hE2]; exact hu _) (by omega) ⟨hr.1, ⟨?_, Nat.le_of_not_lt h4⟩, ?_⟩, ⟨hG2.2.anchor, hG2.2.stem, hG2.2.len⟩⟩
            · show 1 ≤ (K2.stem ++ [K2.anchor] ++ more).length
              simp
              omega
            · intro z hz
              simp only [List.mem_append, List.mem_singleton] at hz
              rcases hz with (hz | hz) | hz
              · exact hG2.2.stem z hz
              · rw [hz]; exact hG2.2.anchor
              · have := hmz z hz
                omega
theorem upd_ins {es : List En} (h : SortE es) : UpdE insE es := fun e => insE_perm h e
theorem upd_rep {es : List En} (h : OnceE es) : UpdE repE es := fun e => repE_perm h e

end Go.Proofs.YtpclldccjpncdabGreat

namespace Go.Proofs.YtpclldccjpncdabGreat
open Go.RowKit

/-- the node before the i-th -/
def prv (f : Nat → Int) (i : Nat) : Int := if i = 0 then 0 else f (i - 1)
def spB (L : Lay) (i : Nat) : Sp := ⟨(i : Nat), stI (prv L.p i) (prv L.s i) (prv L.t i) (L.p i) (L.s i) (L.t i), true, L.p i, L.s i, L.t i⟩
def lsB (L : Lay) (i : Nat) : List Sp := (List.range i).map (spB L)
theorem lsB_snoc (L : Lay) (i : Nat) : lsB L (i + 1) = lsB L i ++ [spB L i] := by simp [lsB, List.range_succ]
theorem lsB_len (L : Lay) (i : Nat) : (lsB L i).length = i := by simp [lsB]
def enB (L : Lay) (j : Nat) : En := ⟨L.tx j, (List.range (L.k j)).map (L.z j)⟩
def esB (L : Lay) (i : Nat) : List En := (List.range i).map (enB L)
theorem esB_snoc (L : Lay) (i : Nat) : esB L (i + 1) = esB L i ++ [enB L i] := by simp [esB, List.range_succ]
theorem esB_len (L : Lay) (i : Nat) : (esB L i).length = i := by simp [esB]
theorem esB_at (L : Lay) {i j : Nat} (h : j < i) : (esB L i).getD j default = enB L j := by
  rw [getD_at (by rw [esB_len]; exact h)]
  simp [esB]
/-- the table's own list -/
def begS (L : Lay) : Wk := ⟨lsB L L.n, esB L L.m, [], 0, (L.n : Nat)⟩
theorem stI_vals (p s t p' s' t' : Int) : stI p s t p' s' t' = 1 ∨ stI p s t p' s' t' = 2 ∨ stI p s t p' s' t' = 3 := by
  unfold stI
  split
  · simp
  · split <;> simp
theorem err_entries {L : Lay} (h : L.err = 0) : entriesOk L.m L.tx L.k L.z L.n := by
  unfold Lay.err at h
  split at h
  · omega
  · split at h
    · omega
    · split at h
      · omega
      · next h3 => simpa [entriesB] using h3
theorem err_nodes {L : Lay} (h : L.err = 0) : nodesOk L.n L.p L.s L.t := by
  unfold Lay.err at h
  split at h
  · omega
  · split at h
    · omega
    · next h2 => simpa [nodesB] using h2
theorem rise_all {m : Nat} {tx : Nat → ByteArray} (h : ∀ i, i < m → 0 < i → lessB (tx (i - 1)) (tx i) = true) : ∀ j, j < m → ∀ i, i < j → lessB (tx i) (tx j) = true
  | 0, _, i, hi => by omega
  | j + 1, hj, i, hi => by
    have h1 := h (j + 1) hj (by omega)
    rw [Nat.add_sub_cancel] at h1
    by_cases e : i = j
    · rw [e]; exact h1
    · exact lessB_trans (rise_all h j (by omega) i (by omega)) h1
theorem esB_sort {L : Lay} (h : L.err = 0) : SortE (esB L L.m) := by
  have hr := rise_all (fun i hi h0 => (err_entries h i hi).2 h0)
  unfold SortE esB
  rw [List.pairwise_map, List.pairwise_iff_getElem]
  intro i j hi hj hij
  simp only [List.length_range] at hi hj
  simp only [List.getElem_range]
  exact hr j hj i hij
theorem begS_good {L : Lay} (h : L.err = 0) : GoodK (begS L) := by
  have hok := err_zero h
  refine ⟨?_, ?_, ?_, fun x hx => ?_, fun z h0 hz => ?_, fun e he => ?_, sort_once (esB_sort h)⟩
  · show ((L.n : Nat) : Int) = ((lsB L L.n).length : Nat)
    rw [lsB_len]
  · show (lsB L L.n).length ≤ 48
    rw [lsB_len]; exact hok.n
  · show (esB L L.m).length ≤ 48
    rw [esB_len]; exact hok.m
  · have hx : x ∈ (List.range L.n).map (spB L) := hx
    rw [List.mem_map] at hx
    obtain ⟨i, _, rfl⟩ := hx
    exact stI_vals (prv L.p i) (prv L.s i) (prv L.t i) (L.p i) (L.s i) (L.t i)
  · have hz : z < (L.n : Nat) := hz
    refine ⟨spB L z.toNat, ?_, ?_⟩
    · show _ ∈ (List.range L.n).map (spB L)
      rw [List.mem_map]
      exact ⟨z.toNat, by rw [List.mem_range]; omega, rfl⟩
    · show ((z.toNat : Nat) : Int) = z
      omega
  · have he : e ∈ (List.range L.m).map (enB L) := he
    rw [List.mem_map] at he
    obtain ⟨i, hi, rfl⟩ := he
    rw [List.mem_range] at hi
    have hki : ((List.range (L.k i)).map (L.z i)).length = L.k i := by simp
    refine ⟨hok.tx i hi, ?_, fun z hz => ?_⟩
    · show 1 ≤ ((List.range (L.k i)).map (L.z i)).length ∧ ((List.range (L.k i)).map (L.z i)).length ≤ 4
      rw [hki]; exact hok.k i hi
    · have hz : z ∈ (List.range (L.k i)).map (L.z i) := hz
      rw [List.mem_map] at hz
      obtain ⟨j, hj, rfl⟩ := hz
      rw [List.mem_range] at hj
      exact hok.z i hi j hj
/-- what Compile gives: the list with its weights and the entries, or an error and a place -/
noncomputable def compE (L : Lay) (s : ByteArray) : Except (Int × Nat) (List Sp × List En) :=
  if L.err ≠ 0 then .error (L.err, 0)
  else if (rdAll s).2.1 ≠ 0 then .error (rdAll s).2
  else match rulesE insE (begS L) (rdAll s).1 0 with
    | .error x => .error x
    | .ok K => match weigh K.ls 0 0 0 with
      | none => .error (14, 0)
      | some ls' => .ok (ls', K.es.map fun e => ⟨e.tx, e.zs.map (plc K.ls)⟩)
theorem rulesE_good : ∀ (l : List Rl) (K K' : Wk) (i : Nat), GoodK K → SortE K.es → (∀ r ∈ l, r.ok) → ((∀ r, l.head? = some r → r.reset.size ≠ 0) ∨ Anch K) → rulesE insE K l i = .ok K' → GoodK K' ∧ SortE K'.es
  | [], K, K', i, hg, hs, _, _, h => by
    injection h with h
    rw [← h]; exact ⟨hg, hs⟩
  | r :: l, K, K', i, hg, hs, hr, ha, h => by
    unfold rulesE at h
    cases hq : ruleE insE K r with
    | error e => rw [hq] at h; cases h
    | ok K2 =>
      rw [hq] at h
      obtain ⟨g2, a2⟩ := ruleE_good hg (upd_ins hs) (hr r (by simp)) (ha.imp (fun h => h r rfl) id) hq
      have hs2 : SortE K2.es := by
        unfold ruleE at hq
        repeat' (first | split at hq | (simp only at hq))
        all_goals first
          | (cases hq; done)
          | (injection hq with hq; rw [← hq]; split <;> exact insE_sort hs _)
          | (injection hq with hq; rw [← hq]; exact insE_sort hs _)
      exact rulesE_good l K2 K' (i + 1) g2 hs2 (fun x hx => hr x (by simp [hx])) (.inr a2) h

end Go.Proofs.YtpclldccjpncdabGreat
