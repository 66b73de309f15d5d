import Derived.Test.YtpclldccjpncdabGreatM29
import Derived.OrdersHeld
namespace Go.Proofs.YtpclldccjpncdabGreat
open Go.RowKit

/-! what stays true from rule to rule -/
structure GoodK (K : Wk) : Prop where
  len : K.names = (K.ls.length : Nat)
  ls : K.ls.length ≤ 48
  es : K.es.length ≤ 48
  str : ∀ x ∈ K.ls, x.str = 1 ∨ x.str = 2 ∨ x.str = 3
  name : ∀ z, 0 ≤ z → z < K.names → ∃ x ∈ K.ls, x.name = z
  ent : ∀ e ∈ K.es, (1 ≤ e.tx.size ∧ e.tx.size ≤ 3) ∧ (1 ≤ e.zs.length ∧ e.zs.length ≤ 4) ∧ ∀ z ∈ e.zs, 0 ≤ z ∧ z < K.names
  once : OnceE K.es
structure Anch (K : Wk) : Prop where
  anchor : 0 ≤ K.anchor ∧ K.anchor < K.names
  stem : ∀ z ∈ K.stem, 0 ≤ z ∧ z < K.names
  len : K.stem.length ≤ 100
theorem plc_in {l : List Sp} {nm : Int} (h : ∃ x ∈ l, x.name = nm) : 0 ≤ plc l nm ∧ plc l nm < l.length := by
  have hl := plc_le l nm
  refine ⟨?_, hl.2⟩
  unfold plc
  split
  · omega
  · next hn =>
    rw [List.findIdx?_eq_none_iff] at hn
    obtain ⟨x, hx, he⟩ := h
    have := hn x hx
    rw [he] at this
    simp at this
theorem GoodK.txE {K : Wk} (h : GoodK K) : ∀ i, i < K.es.length → 1 ≤ (txE K.es i).size ∧ (txE K.es i).size ≤ 3 := fun i hi => by
  unfold Go.Proofs.YtpclldccjpncdabGreat.txE
  rw [getD_at hi]
  exact (h.ent _ (List.getElem_mem hi)).1
theorem GoodK.kE {K : Wk} (h : GoodK K) : ∀ i, i < K.es.length → 1 ≤ kE K.es i ∧ kE K.es i ≤ 4 := fun i hi => by
  unfold Go.Proofs.YtpclldccjpncdabGreat.kE
  rw [getD_at hi]
  exact (h.ent _ (List.getElem_mem hi)).2.1
theorem look_in {es : List En} {u : ByteArray} (h : isText es.length (txE es) u) : ∃ e ∈ es, e.tx = u ∧ look es u = e.zs := by
  obtain ⟨h1, h2, _⟩ := idx_spec h
  refine ⟨es[idx es.length (txE es) u], List.getElem_mem h1, ?_, ?_⟩
  · rw [txE, getD_at h1] at h2
    exact h2
  · rw [look_idx h, getD_at h1]
/-- what the numbers of a text are -/
theorem numsQ_all {K : Wk} (h : GoodK K) (s : ByteArray) : ∀ q, (∀ j, j < q → 0 < lenAt K.es.length (txE K.es) s (pos K.es.length (txE K.es) s j)) → (numsQ K.es s q).length ≤ 4 * q ∧ q ≤ (numsQ K.es s q).length ∧ ∀ z ∈ numsQ K.es s q, 0 ≤ z ∧ z < K.names
  | 0, _ => by simp [numsQ]
  | q + 1, hq => by
    obtain ⟨a, b, c⟩ := numsQ_all h s q fun j hj => hq j (by omega)
    obtain ⟨e, he, _, hl⟩ := look_in (lenAt_text (hq q (by omega)))
    have hE := h.ent e he
    have hs : numsQ K.es s (q + 1) = numsQ K.es s q ++ e.zs := by
      unfold numsQ
      rw [List.range_succ, List.flatMap_append, List.flatMap_singleton]
      exact congrArg _ hl
    rw [hs, List.length_append]
    refine ⟨by omega, by omega, fun z hz => ?_⟩
    rcases List.mem_append.1 hz with hz | hz
    · exact c z hz
    · exact hE.2.2 z hz
theorem numsE_all {K : Wk} (h : GoodK K) {s : ByteArray} {l : List Int} (hl : numsE K.es s = some l) : l.length ≤ 4 * s.size ∧ (s.size ≠ 0 → l ≠ []) ∧ ∀ z ∈ l, 0 ≤ z ∧ z < K.names := by
  unfold numsE at hl
  split at hl
  · next hq =>
    obtain ⟨hc, hp⟩ := hq.choose_spec
    generalize hq.choose = q at hl hc hp
    injection hl with hl
    obtain ⟨a, b, c⟩ := numsQ_all h s q hc.go
    have hg := pos_ge q hc.go
    rw [hl] at a b c
    refine ⟨by omega, fun h0 e => ?_, c⟩
    rw [e] at b
    have : q = 0 := by simpa using b
    rw [this] at hp
    exact h0 hp.symm
  · cases hl
theorem putS_good {K : Wk} (h : GoodK K) {a : Nat} {lev : Int} (ha : a ≤ K.ls.length) (hl : lev = 1 ∨ lev = 2 ∨ lev = 3) (h48 : (putS K a lev).ls.length ≤ 48) : GoodK (putS K a lev) := by
  have hlen : (putS K a lev).ls.length = K.ls.length + 1 := by
    show (K.ls.take a ++ [Sp.mk K.names lev false 0 0 0] ++ K.ls.drop a).length = _
    simp
    omega
  have hmem : ∀ x, x ∈ (putS K a lev).ls ↔ x = Sp.mk K.names lev false 0 0 0 ∨ x ∈ K.ls := fun x => by
    show x ∈ K.ls.take a ++ [Sp.mk K.names lev false 0 0 0] ++ K.ls.drop a ↔ _
    conv => rhs; rw [← List.take_append_drop a K.ls]
    simp only [List.mem_append, List.mem_singleton]
    constructor
    · rintro ((h | h) | h)
      · exact .inr (.inl h)
      · exact .inl h
      · exact .inr (.inr h)
    · rintro (h | (h | h))
      · exact .inl (.inr h)
      · exact .inl (.inl h)
      · exact .inr h
  refine ⟨?_, h48, h.es, fun x hx => ?_, fun z h0 hz => ?_, fun e he => ?_, h.once⟩
  · rw [hlen]
    show K.names + 1 = _
    rw [h.len]
    omega
  · rcases (hmem x).1 hx with rfl | hx
    · exact hl
    · exact h.str x hx
  · have hz : z < K.names + 1 := hz
    by_cases e : z = K.names
    · exact ⟨_, (hmem _).2 (.inl rfl), e.symm⟩
    · obtain ⟨x, hx, hn⟩ := h.name z h0 (by omega)
      exact ⟨x, (hmem x).2 (.inr hx), hn⟩
  · have he := h.ent e he
    refine ⟨he.1, he.2.1, fun z hz => ?_⟩
    have := he.2.2 z hz
    show 0 ≤ z ∧ z < K.names + 1
    omega
theorem mem_of_upd {es : List En} {e x : En} (h : x ∈ e :: es.filter fun x => decide (x.tx ≠ e.tx)) : x = e ∨ x ∈ es := by
  rcases List.mem_cons.1 h with h | h
  · exact .inl h
  · exact .inr (List.mem_filter.1 h).1
theorem once_upd {es : List En} (h : OnceE es) (e : En) : OnceE (e :: es.filter fun x => decide (x.tx ≠ e.tx)) := by
  unfold OnceE
  rw [List.pairwise_cons]
  refine ⟨fun x hx => ?_, List.Pairwise.sublist List.filter_sublist h⟩
  rw [List.mem_filter] at hx
  have := hx.2
  simp at this
  exact fun hh => this hh.symm
/-- an update of the entries -/
def UpdE (upd : List En → En → List En) (es : List En) : Prop := ∀ e, (upd es e).Perm (e :: es.filter fun x => decide (x.tx ≠ e.tx))
theorem stt_lt (l : List Sp) (lev : Int) (i : Nat) : stt l lev i < (i : Nat) ∨ i = 0 := by
  have := stt_le l lev i
  cases i with
  | zero => exact .inr rfl
  | succ i =>
    left
    unfold stt
    split
    · split <;> omega
    · have := stt_le l lev i
      omega
theorem startS_lt (l : List Sp) (an lev : Int) : startS l an lev < (l.length : Nat) := by
  unfold startS
  have h := plc_le l an
  rcases stt_lt l lev (plc l an + 1).toNat with h1 | h1
  · omega
  · rw [h1]
    unfold stt
    omega
theorem behindS_le (l : List Sp) (an lev : Int) : behindS l an lev ≤ l.length := by
  have := plc_le l an
  exact beh_le (by omega)
theorem upd_good {K2 : Wk} {x : En} {es' : List En} (hK2 : GoodK K2) (hp : es'.Perm (x :: K2.es.filter fun y => decide (y.tx ≠ x.tx))) (h48 : es'.length ≤ 48) (hx : (1 ≤ x.tx.size ∧ x.tx.size ≤ 3) ∧ (1 ≤ x.zs.length ∧ x.zs.length ≤ 4) ∧ ∀ z ∈ x.zs, 0 ≤ z ∧ z < K2.names) : GoodK { K2 with es := es' } :=
  ⟨hK2.len, hK2.ls, h48, hK2.str, hK2.name, fun e he => by
    rcases mem_of_upd (hp.mem_iff.1 he) with rfl | he
    · exact hx
    · exact hK2.ent e he, (once_perm hp).2 (once_upd hK2.once x)⟩
theorem ruleE_good {upd : List En → En → List En} {K K' : Wk} {r : Rl} (h : GoodK K) (hu : UpdE upd K.es) (hr : r.ok) (ha : r.reset.size ≠ 0 ∨ Anch K) (he : ruleE upd K r = .ok K') : GoodK K' ∧ Anch K' := by
  unfold ruleE at he
  cases hm : numsE K.es r.more with
  | none => rw [hm] at he; cases he
  | some more =>
    obtain ⟨_, _, hmz⟩ := numsE_all h hm
    rw [hm] at he
    simp only at he
    cases hs : (if r.reset.size ≠ 0 then (numsE K.es r.reset).map (fun l => (l.dropLast, l.getLastD 0)) else some (K.stem, K.anchor)) with
    | none => rw [hs] at he; cases he
    | some sa =>
      obtain ⟨stem, anchor⟩ := sa
      rw [hs] at he
      simp only at he
      have hA : Anch { K with stem := stem, anchor := anchor } := by
        by_cases h0 : r.reset.size ≠ 0
        · rw [if_pos h0] at hs
          cases hn : numsE K.es r.reset with
          | none => rw [hn] at hs; cases hs
          | some l =>
            rw [hn] at hs
            simp only [Option.map_some, Option.some.injEq, Prod.mk.injEq] at hs
            obtain ⟨rfl, rfl⟩ := hs
            obtain ⟨b1, b2, b3⟩ := numsE_all h hn
            have hl := b2 h0
            have hr6 := hr.2.2.1
            refine ⟨?_, fun z hz => b3 z (List.dropLast_subset l hz), ?_⟩
            · exact b3 _ (by
                rw [List.getLastD_eq_getLast?, List.getLast?_eq_some_getLast hl]
                exact List.getLast_mem hl)
            · show l.dropLast.length ≤ 100
              rw [List.length_dropLast]
              omega
        · rw [if_neg h0] at hs
          simp only [Option.some.injEq, Prod.mk.injEq] at hs
          obtain ⟨rfl, rfl⟩ := hs
          exact ha.resolve_left h0
      have hG : GoodK { K with stem := stem, anchor := anchor } := ⟨h.len, h.ls, h.es, h.str, h.name, h.ent, h.once⟩
      by_cases hb : r.before ≠ 0 ∧ (r.level ≠ r.before ∨ startS K.ls anchor r.before < 0)
      · rw [if_pos hb] at he; cases he
      · rw [if_neg hb] at he
        have hat : (if r.before = 0 then behindS K.ls anchor r.level else (startS K.ls anchor r.before).toNat) ≤ K.ls.length := by
          split
          · exact behindS_le _ _ _
          · have := startS_lt K.ls anchor r.before
            omega
        obtain ⟨K2, hK2⟩ : ∃ K2, K2 = (if 0 < r.level then putS { K with stem := stem, anchor := anchor } (if r.before = 0 then behindS K.ls anchor r.level else (startS K.ls anchor r.before).toNat) r.level else { K with stem := stem, anchor := anchor }) := ⟨_, rfl⟩
        rw [← hK2] at he
        by_cases h4 : 4 < (K2.stem ++ [K2.anchor] ++ more).length
        · rw [if_pos h4] at he; cases he
        · rw [if_neg h4] at he
          by_cases h48 : 48 < K2.ls.length ∨ 48 < (upd K2.es ⟨r.text, K2.stem ++ [K2.anchor] ++ more⟩).length
          · rw [if_pos h48] at he; cases he
          · rw [if_neg h48] at he
            injection he with he
            subst he
            have hlev := hr.2.2.2.1
            have hE2 : K2.es = K.es := by rw [hK2]; split <;> rfl
            have hnm : K.names ≤ K2.names := by
              rw [hK2]; split
              · show K.names ≤ K.names + 1; omega
              · exact Int.le_refl _
            have hG2 : GoodK K2 ∧ Anch K2 := by
              have hle : K2.ls.length ≤ 48 := by omega
              have hnn : (0 : Int) ≤ K.names := by rw [h.len]; omega
              rw [hK2] at hle ⊢
              split
              · next hl =>
                rw [if_pos hl] at hle
                refine ⟨putS_good hG hat (by omega) hle, ?_, ?_, hA.len⟩
                · show 0 ≤ K.names ∧ K.names < K.names + 1
                  omega
                · intro z hz
                  have := hA.stem z hz
                  show 0 ≤ z ∧ z < K.names + 1
                  have : z < K.names := this.2
                  omega
              · exact ⟨hG, hA⟩
            refine ⟨upd_good hG2.1 (by rw [hE2]; exact hu _) (by omega) ⟨hr.1, ⟨?_, Nat.le_of_not_lt h4⟩, ?_⟩, ⟨hG2.2.anchor, hG2.2.stem, hG2.2.len⟩⟩
            · show 1 ≤ (K2.stem ++ [K2.anchor] ++ more).length
              simp
              omega
            · intro z hz
              simp only [List.mem_append, List.mem_singleton] at hz
              rcases hz with (hz | hz) | hz
              · exact hG2.2.stem z hz
              · rw [hz]; exact hG2.2.anchor
              · have := hmz z hz
                omega
theorem upd_ins {es : List En} (h : SortE es) : UpdE insE es := fun e => insE_perm h e
theorem upd_rep {es : List En} (h : OnceE es) : UpdE repE es := fun e => repE_perm h e

end Go.Proofs.YtpclldccjpncdabGreat

namespace Go.Proofs.YtpclldccjpncdabGreat
open Go.RowKit

/-- the node before the i-th -/
def prv (f : Nat → Int) (i : Nat) : Int := if i = 0 then 0 else f (i - 1)
def spB (L : Lay) (i : Nat) : Sp := ⟨(i : Nat), stI (prv L.p i) (prv L.s i) (prv L.t i) (L.p i) (L.s i) (L.t i), true, L.p i, L.s i, L.t i⟩
def lsB (L : Lay) (i : Nat) : List Sp := (List.range i).map (spB L)
theorem lsB_snoc (L : Lay) (i : Nat) : lsB L (i + 1) = lsB L i ++ [spB L i] := by simp [lsB, List.range_succ]
theorem lsB_len (L : Lay) (i : Nat) : (lsB L i).length = i := by simp [lsB]
def enB (L : Lay) (j : Nat) : En := ⟨L.tx j, (List.range (L.k j)).map (L.z j)⟩
def esB (L : Lay) (i : Nat) : List En := (List.range i).map (enB L)
theorem esB_snoc (L : Lay) (i : Nat) : esB L (i + 1) = esB L i ++ [enB L i] := by simp [esB, List.range_succ]
theorem esB_len (L : Lay) (i : Nat) : (esB L i).length = i := by simp [esB]
theorem esB_at (L : Lay) {i j : Nat} (h : j < i) : (esB L i).getD j default = enB L j := by
  rw [getD_at (by rw [esB_len]; exact h)]
  simp [esB]
/-- the table's own list -/
def begS (L : Lay) : Wk := ⟨lsB L L.n, esB L L.m, [], 0, (L.n : Nat)⟩
theorem stI_vals (p s t p' s' t' : Int) : stI p s t p' s' t' = 1 ∨ stI p s t p' s' t' = 2 ∨ stI p s t p' s' t' = 3 := by
  unfold stI
  split
  · simp
  · split <;> simp
theorem err_entries {L : Lay} (h : L.err = 0) : entriesOk L.m L.tx L.k L.z L.n := by
  unfold Lay.err at h
  split at h
  · omega
  · split at h
    · omega
    · split at h
      · omega
      · next h3 => simpa [entriesB] using h3
theorem err_nodes {L : Lay} (h : L.err = 0) : nodesOk L.n L.p L.s L.t := by
  unfold Lay.err at h
  split at h
  · omega
  · split at h
    · omega
    · next h2 => simpa [nodesB] using h2
theorem rise_all {m : Nat} {tx : Nat → ByteArray} (h : ∀ i, i < m → 0 < i → lessB (tx (i - 1)) (tx i) = true) : ∀ j, j < m → ∀ i, i < j → lessB (tx i) (tx j) = true
  | 0, _, i, hi => by omega
  | j + 1, hj, i, hi => by
    have h1 := h (j + 1) hj (by omega)
    rw [Nat.add_sub_cancel] at h1
    by_cases e : i = j
    · rw [e]; exact h1
    · exact lessB_trans (rise_all h j (by omega) i (by omega)) h1
theorem esB_sort {L : Lay} (h : L.err = 0) : SortE (esB L L.m) := by
  have hr := rise_all (fun i hi h0 => (err_entries h i hi).2 h0)
  unfold SortE esB
  rw [List.pairwise_map, List.pairwise_iff_getElem]
  intro i j hi hj hij
  simp only [List.length_range] at hi hj
  simp only [List.getElem_range]
  exact hr j hj i hij
theorem begS_good {L : Lay} (h : L.err = 0) : GoodK (begS L) := by
  have hok := err_zero h
  refine ⟨?_, ?_, ?_, fun x hx => ?_, fun z h0 hz => ?_, fun e he => ?_, sort_once (esB_sort h)⟩
  · show ((L.n : Nat) : Int) = ((lsB L L.n).length : Nat)
    rw [lsB_len]
  · show (lsB L L.n).length ≤ 48
    rw [lsB_len]; exact hok.n
  · show (esB L L.m).length ≤ 48
    rw [esB_len]; exact hok.m
  · have hx : x ∈ (List.range L.n).map (spB L) := hx
    rw [List.mem_map] at hx
    obtain ⟨i, _, rfl⟩ := hx
    exact stI_vals (prv L.p i) (prv L.s i) (prv L.t i) (L.p i) (L.s i) (L.t i)
  · have hz : z < (L.n : Nat) := hz
    refine ⟨spB L z.toNat, ?_, ?_⟩
    · show _ ∈ (List.range L.n).map (spB L)
      rw [List.mem_map]
      exact ⟨z.toNat, by rw [List.mem_range]; omega, rfl⟩
    · show ((z.toNat : Nat) : Int) = z
      omega
  · have he : e ∈ (List.range L.m).map (enB L) := he
    rw [List.mem_map] at he
    obtain ⟨i, hi, rfl⟩ := he
    rw [List.mem_range] at hi
    have hki : ((List.range (L.k i)).map (L.z i)).length = L.k i := by simp
    refine ⟨hok.tx i hi, ?_, fun z hz => ?_⟩
    · show 1 ≤ ((List.range (L.k i)).map (L.z i)).length ∧ ((List.range (L.k i)).map (L.z i)).length ≤ 4
      rw [hki]; exact hok.k i hi
    · have hz : z ∈ (List.range (L.k i)).map (L.z i) := hz
      rw [List.mem_map] at hz
      obtain ⟨j, hj, rfl⟩ := hz
      rw [List.mem_range] at hj
      exact hok.z i hi j hj
/-- what Compile gives: the list with its weights and the entries, or an error and a place -/
noncomputable def compE (L : Lay) (s : ByteArray) : Except (Int × Nat) (List Sp × List En) :=
  if L.err ≠ 0 then .error (L.err, 0)
  else if (rdAll s).2.1 ≠ 0 then .error (rdAll s).2
  else match rulesE insE (begS L) (rdAll s).1 0 with
    | .error x => .error x
    | .ok K => match weigh K.ls 0 0 0 with
      | none => .error (14, 0)
      | some ls' => .ok (ls', K.es.map fun e => ⟨e.tx, e.zs.map (plc K.ls)⟩)
theorem rulesE_good : ∀ (l : List Rl) (K K' : Wk) (i : Nat), GoodK K → SortE K.es → (∀ r ∈ l, r.ok) → ((∀ r, l.head? = some r → r.reset.size ≠ 0) ∨ Anch K) → rulesE insE K l i = .ok K' → GoodK K' ∧ SortE K'.es
  | [], K, K', i, hg, hs, _, _, h => by
    injection h with h
    rw [← h]; exact ⟨hg, hs⟩
  | r :: l, K, K', i, hg, hs, hr, ha, h => by
    unfold rulesE at h
    cases hq : ruleE insE K r with
    | error e => rw [hq] at h; cases h
    | ok K2 =>
      rw [hq] at h
      obtain ⟨g2, a2⟩ := ruleE_good hg (upd_ins hs) (hr r (by simp)) (ha.imp (fun h => h r rfl) id) hq
      have hs2 : SortE K2.es := by
        unfold ruleE at hq
        repeat' (first | split at hq | (simp only at hq))
        all_goals first
          | (cases hq; done)
          | (injection hq with hq; rw [← hq]; split <;> exact insE_sort hs _)
          | (injection hq with hq; rw [← hq]; exact insE_sort hs _)
      exact rulesE_good l K2 K' (i + 1) g2 hs2 (fun x hx => hr x (by simp [hx])) (.inr a2) h

end Go.Proofs.YtpclldccjpncdabGreat

namespace Go.Proofs.YtpclldccjpncdabGreat
open Go

variable {P : Program} {ops : Array Oper} {Q : Exit → Act → World → Prop} {md : Region.Mode} {S : World → Prop}
/-- all orders, where S is held until the last operation z, which writes what S speaks of -/
def wpTill (P : Program) (md : Region.Mode) (ops : Array Oper) (Q : Exit → Act → World → Prop) (S : World → Prop) (z : Nat) : Nat → Array Bool → Act → World → Prop
  | 0, listed, a, w => Region.ready md ops listed = [] ∧ Q .normal a w
  | fuel + 1, listed, a, w => (Region.ready md ops listed = [] → Q .normal a w) ∧
      ∀ i ∈ Region.ready md ops listed, wpOp P ops Q i (fun a' w' => (i ≠ z → S w') ∧ wpTill P md ops Q S z fuel (listed.setIfInBounds i true) a' w') a w
theorem till_any {z : Nat} : ∀ (fuel : Nat) (listed : Array Bool) (a : Act) (w : World), wpTill P md ops Q S z fuel listed a w → wpAny P md ops Q fuel listed a w
  | 0, _, _, _, h => h
  | fuel + 1, _, _, _, h => by
    refine ⟨h.1, fun i hi => ?_⟩
    exact wpOp_mono (fun a' w' hk => till_any fuel _ a' w' hk.2) (h.2 i hi)
theorem set_swap (l : Array Bool) (i j : Nat) : (l.setIfInBounds i true).setIfInBounds j true = (l.setIfInBounds j true).setIfInBounds i true := by
  apply Array.ext
  · simp
  · intro k h1 h2
    have h3 : k < l.size := by simpa using h1
    rw [Array.getElem_setIfInBounds (by simpa using h3), Array.getElem_setIfInBounds h3, Array.getElem_setIfInBounds (by simpa using h3), Array.getElem_setIfInBounds h3]
    by_cases hi : i = k <;> by_cases hj : j = k <;> simp [hi, hj]
theorem till_take {i z : Nat} {oi oz : Oper} {v : Value} (hi : ops[i]? = some oi) (hz : ops[z]? = some oz) (hw : ∃ e ∈ oz.after, Region.binds md e = true ∧ e.on = i) (hsel : ∀ (j : Nat) (o : Oper) cs b, ops[j]? = some o → o.op ≠ .select cs b) (hQ : ∀ c a w, Q (.panic c) (a.put oi.dst v) w → Q (.panic c) a w) :
    ∀ (fuel : Nat) (listed : Array Bool) (a : Act) (w : World), (∀ j oj, ops[j]? = some oj → j ≠ i → listed.getD j true = false → (∀ e ∈ oj.after, Region.binds md e = true → e.on ≠ i) → oi.apart ops oj = true) → i ∈ Region.ready md ops listed → YieldsIf P ops S oi v a → S w → wpTill P md ops Q S z fuel (listed.setIfInBounds i true) (a.put oi.dst v) w → wpTill P md ops Q S z (fuel + 1) listed a w := by
  intro fuel
  induction fuel with
  | zero =>
    intro listed a w _ hir hy hS h
    refine ⟨fun h0 => (by rw [h0] at hir; cases hir), fun j hj => ?_⟩
    by_cases hji : j = i
    · subst hji
      exact hy.wpOp hi hS ⟨fun _ => hS, h⟩
    · have := ready_mono hj hji
      rw [h.1] at this
      cases this
  | succ f ih =>
    intro listed a w hfree hir hy hS h
    refine ⟨fun h0 => (by rw [h0] at hir; cases hir), fun j hj => ?_⟩
    by_cases hji : j = i
    · subst hji
      exact hy.wpOp hi hS ⟨fun _ => hS, h⟩
    · obtain ⟨hun, oj, hoj, hall⟩ := mem_ready.1 hj
      have hiu := (mem_ready.1 hir).1
      have hno : ∀ e ∈ oj.after, Region.binds md e = true → e.on ≠ i := fun e he hb hon => by
        have h1 := hall e he hb
        rw [hon] at h1
        rw [Array.getD_eq_getD_getElem?] at h1 hiu
        cases hg : listed[i]? with
        | none => rw [hg] at h1; cases h1
        | some b =>
          rw [hg] at h1 hiu
          have e1 : b = true := h1
          have e2 : b = false := hiu
          rw [e1] at e2
          cases e2
      have hjz : j ≠ z := fun e => by
        subst e
        rw [hoj] at hz
        injection hz with hz
        obtain ⟨e, he, hb, hon⟩ := hw
        rw [← hz] at he
        exact hno e he hb hon
      have hput := wpOp_putIf hoj (hfree j oj hoj hji hun hno) (fun cs b => hsel i oi cs b hi) (fun cs b => hsel j oj cs b hoj) hQ hy (h.2 j (ready_mono hj hji))
      refine wpOp_mono (fun a' w' hk => ?_) hput
      obtain ⟨hy', hS', hx⟩ := hk
      have hSw := hS' hjz
      rw [set_swap] at hx
      refine ⟨fun _ => hSw, ih _ a' w' (fun j2 o2 h2 hne hun2 hno2 => ?_) (ready_mono hir (Ne.symm hji)) hy' hSw hx⟩
      refine hfree j2 o2 h2 hne ?_ hno2
      rw [Array.getD_eq_getD_getElem?] at hun2 ⊢
      rw [Array.getElem?_setIfInBounds] at hun2
      by_cases hjj : j = j2
      · rw [if_pos hjj] at hun2
        split at hun2
        · cases hun2
        · cases hun2
      · rw [if_neg hjj] at hun2
        exact hun2

theorem till_step {i z : Nat} {oi oz : Oper} {d : Option Tmp} {v : Value} {fuel : Nat} {listed : Array Bool} {a : Act} {w : World} (hi : ops[i]? = some oi) (hz : ops[z]? = some oz) (hw : (oz.after.toList.any fun e => Region.binds md e && e.on == i) = true) (hs : Region.noSelect ops = true) (hf : Region.free md ops listed i = true) (hr : (Region.ready md ops listed).contains i = true)
    (hQ : ∀ c a w, Q (.panic c) (a.put oi.dst v) w → Q (.panic c) a w) (hy : YieldsIf P ops S oi v a) (hS : S w) (hd : oi.dst = d) (h : wpTill P md ops Q S z fuel (listed.setIfInBounds i true) (a.put d v) w) : wpTill P md ops Q S z (fuel + 1) listed a w := by
  subst hd
  refine till_take hi hz ?_ (Region.noSelect_spec hs) hQ fuel listed a w (Region.free_spec hi hf) (by simpa using hr) hy hS h
  obtain ⟨e, he, hb⟩ := List.any_eq_true.1 hw
  rw [Bool.and_eq_true] at hb
  exact ⟨e, Array.mem_toList_iff.1 he, hb.1, by simpa using hb.2⟩
theorem till_one {i z : Nat} {o : Oper} {fuel : Nat} {listed : Array Bool} {a : Act} {w : World} (hi : ops[i]? = some o) (hr : Region.ready md ops listed = [i])
    (h : if Region.wanted o (yielded ops a.tmps) = true then Oper.wp P o a w (fun a' w' => (i ≠ z → S w') ∧ wpTill P md ops Q S z fuel (listed.setIfInBounds i true) a' w') Q else (i ≠ z → S w) ∧ wpTill P md ops Q S z fuel (listed.setIfInBounds i true) (a.put o.dst undef) w) : wpTill P md ops Q S z (fuel + 1) listed a w := by
  refine ⟨fun h0 => (by rw [hr] at h0; cases h0), fun j hj => ?_⟩
  rw [hr, List.mem_singleton] at hj
  subst hj
  unfold wpOp
  rw [hi]
  simp only
  by_cases hwt : Region.wanted o (yielded ops a.tmps) = true
  · rw [if_pos hwt] at h ⊢
    exact .inl h
  · rw [if_neg hwt] at h ⊢
    exact h
theorem till_done {z : Nat} {listed : Array Bool} {a : Act} {w : World} (hr : Region.ready md ops listed = []) (h : Q .normal a w) (fuel : Nat) : wpTill P md ops Q S z fuel listed a w := by
  cases fuel with
  | zero => exact ⟨hr, h⟩
  | succ f => exact ⟨fun _ => h, fun i hi => by rw [hr] at hi; cases hi⟩
theorem region_till {id : Nat} {a : Act} {w : World} (S : World → Prop) (z : Nat) (hm : P.follows .mixedOrders = true) (h : wpTill P .any ops Q S z ops.size (Array.replicate ops.size false) a { w with drawn := w.drawn + 1 }) : (Code.region id ops true).wp P Q a w := wp_region_any hm (till_any _ _ _ _ h)

end Go.Proofs.YtpclldccjpncdabGreat
