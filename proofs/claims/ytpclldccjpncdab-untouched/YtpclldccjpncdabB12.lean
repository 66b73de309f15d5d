import Derived.Test.YtpclldccjpncdabB11
namespace Go.Proofs.Ytpclldccjpncdab
open Go.RowKit

/-! what stays true from rule to rule -/
structure GoodK (K : Wk) : Prop where
  len : K.names = (K.ls.length : Nat)
  ls : K.ls.length ≤ 48
  es : K.es.length ≤ 48
  str : ∀ x ∈ K.ls, x.str = 1 ∨ x.str = 2 ∨ x.str = 3
  name : ∀ z, 0 ≤ z → z < K.names → ∃ x ∈ K.ls, x.name = z
  ent : ∀ e ∈ K.es, (1 ≤ e.tx.size ∧ e.tx.size ≤ 3) ∧ (1 ≤ e.zs.length ∧ e.zs.length ≤ 4) ∧ ∀ z ∈ e.zs, 0 ≤ z ∧ z < K.names
  once : OnceE K.es
structure Anch (K : Wk) : Prop where
  anchor : 0 ≤ K.anchor ∧ K.anchor < K.names
  stem : ∀ z ∈ K.stem, 0 ≤ z ∧ z < K.names
  len : K.stem.length ≤ 100
theorem plc_in {l : List Sp} {nm : Int} (h : ∃ x ∈ l, x.name = nm) : 0 ≤ plc l nm ∧ plc l nm < l.length := by
  have hl := plc_le l nm
  refine ⟨?_, hl.2⟩
  unfold plc
  split
  · omega
  · next hn =>
    rw [List.findIdx?_eq_none_iff] at hn
    obtain ⟨x, hx, he⟩ := h
    have := hn x hx
    rw [he] at this
    simp at this
theorem GoodK.txE {K : Wk} (h : GoodK K) : ∀ i, i < K.es.length → 1 ≤ (txE K.es i).size ∧ (txE K.es i).size ≤ 3 := fun i hi => by
  unfold Go.Proofs.Ytpclldccjpncdab.txE
  rw [getD_at hi]
  exact (h.ent _ (List.getElem_mem hi)).1
theorem GoodK.kE {K : Wk} (h : GoodK K) : ∀ i, i < K.es.length → 1 ≤ kE K.es i ∧ kE K.es i ≤ 4 := fun i hi => by
  unfold Go.Proofs.Ytpclldccjpncdab.kE
  rw [getD_at hi]
  exact (h.ent _ (List.getElem_mem hi)).2.1
theorem look_in {es : List En} {u : ByteArray} (h : isText es.length (txE es) u) : ∃ e ∈ es, e.tx = u ∧ look es u = e.zs := by
  obtain ⟨h1, h2, _⟩ := idx_spec h
  refine ⟨es[idx es.length (txE es) u], List.getElem_mem h1, ?_, ?_⟩
  · rw [txE, getD_at h1] at h2
    exact h2
  · rw [look_idx h, getD_at h1]
/-- what the numbers of a text are -/
theorem numsQ_all {K : Wk} (h : GoodK K) (s : ByteArray) : ∀ q, (∀ j, j < q → 0 < lenAt K.es.length (txE K.es) s (pos K.es.length (txE K.es) s j)) → (numsQ K.es s q).length ≤ 4 * q ∧ q ≤ (numsQ K.es s q).length ∧ ∀ z ∈ numsQ K.es s q, 0 ≤ z ∧ z < K.names
  | 0, _ => by simp [numsQ]
  | q + 1, hq => by
    obtain ⟨a, b, c⟩ := numsQ_all h s q fun j hj => hq j (by omega)
    obtain ⟨e, he, _, hl⟩ := look_in (lenAt_text (hq q (by omega)))
    have hE := h.ent e he
    have hs : numsQ K.es s (q + 1) = numsQ K.es s q ++ e.zs := by
      unfold numsQ
      rw [List.range_succ, List.flatMap_append, List.flatMap_singleton]
      exact congrArg _ hl
    rw [hs, List.length_append]
    refine ⟨by omega, by omega, fun z hz => ?_⟩
    rcases List.mem_append.1 hz with hz | hz
    · exact c z hz
    · exact hE.2.2 z hz
theorem numsE_all {K : Wk} (h : GoodK K) {s : ByteArray} {l : List Int} (hl : numsE K.es s = some l) : l.length ≤ 4 * s.size ∧ (s.size ≠ 0 → l ≠ []) ∧ ∀ z ∈ l, 0 ≤ z ∧ z < K.names := by
  unfold numsE at hl
  split at hl
  · next hq =>
    obtain ⟨hc, hp⟩ := hq.choose_spec
    generalize hq.choose = q at hl hc hp
    injection hl with hl
    obtain ⟨a, b, c⟩ := numsQ_all h s q hc.go
    have hg := pos_ge q hc.go
    rw [hl] at a b c
    refine ⟨by omega, fun h0 e => ?_, c⟩
    rw [e] at b
    have : q = 0 := by simpa using b
    rw [this] at hp
    exact h0 hp.symm
  · cases hl
theorem putS_good {K : Wk} (h : GoodK K) {a : Nat} {lev : Int} (ha : a ≤ K.ls.length) (hl : lev = 1 ∨ lev = 2 ∨ lev = 3) (h48 : (putS K a lev).ls.length ≤ 48) : GoodK (putS K a lev) := by
  have hlen : (putS K a lev).ls.length = K.ls.length + 1 := by
    show (K.ls.take a ++ [Sp.mk K.names lev false 0 0 0] ++ K.ls.drop a).length = _
    simp
    omega
  have hmem : ∀ x, x ∈ (putS K a lev).ls ↔ x = Sp.mk K.names lev false 0 0 0 ∨ x ∈ K.ls := fun x => by
    show x ∈ K.ls.take a ++ [Sp.mk K.names lev false 0 0 0] ++ K.ls.drop a ↔ _
    conv => rhs; rw [← List.take_append_drop a K.ls]
    simp only [List.mem_append, List.mem_singleton]
    constructor
    · rintro ((h | h) | h)
      · exact .inr (.inl h)
      · exact .inl h
      · exact .inr (.inr h)
    · rintro (h | (h | h))
      · exact .inl (.inr h)
      · exact .inl (.inl h)
      · exact .inr h
  refine ⟨?_, h48, h.es, fun x hx => ?_, fun z h0 hz => ?_, fun e he => ?_, h.once⟩
  · rw [hlen]
    show K.names + 1 = _
    rw [h.len]
    omega
  · rcases (hmem x).1 hx with rfl | hx
    · exact hl
    · exact h.str x hx
  · have hz : z < K.names + 1 := hz
    by_cases e : z = K.names
    · exact ⟨_, (hmem _).2 (.inl rfl), e.symm⟩
    · obtain ⟨x, hx, hn⟩ := h.name z h0 (by omega)
      exact ⟨x, (hmem x).2 (.inr hx), hn⟩
  · have he := h.ent e he
    refine ⟨he.1, he.2.1, fun z hz => ?_⟩
    have := he.2.2 z hz
    show 0 ≤ z ∧ z < K.names + 1
    omega
theorem mem_of_upd {es : List En} {e x : En} (h : x ∈ e :: es.filter fun x => decide (x.tx ≠ e.tx)) : x = e ∨ x ∈ es := by
  rcases List.mem_cons.1 h with h | h
  · exact .inl h
  · exact .inr (List.mem_filter.1 h).1
theorem once_upd {es : List En} (h : OnceE es) (e : En) : OnceE (e :: es.filter fun x => decide (x.tx ≠ e.tx)) := by
  unfold OnceE
  rw [List.pairwise_cons]
  refine ⟨fun x hx => ?_, List.Pairwise.sublist List.filter_sublist h⟩
  rw [List.mem_filter] at hx
  have := hx.2
  simp at this
  exact fun hh => this hh.symm
/-- an update of the entries -/
def UpdE (upd : List En → En → List En) (es : List En) : Prop := ∀ e, (upd es e).Perm (e :: es.filter fun x => decide (x.tx ≠ e.tx))
theorem stt_lt (l : List Sp) (lev : Int) (i : Nat) : stt l lev i < (i : Nat) ∨ i = 0 := by
  have := stt_le l lev i
  cases i with
  | zero => exact .inr rfl
  | succ i =>
    left
    unfold stt
    split
    · split <;> omega
    · have := stt_le l lev i
      omega
theorem startS_lt (l : List Sp) (an lev : Int) : startS l an lev < (l.length : Nat) := by
  unfold startS
  have h := plc_le l an
  rcases stt_lt l lev (plc l an + 1).toNat with h1 | h1
  · omega
  · rw [h1]
    unfold stt
    omega
theorem behindS_le (l : List Sp) (an lev : Int) : behindS l an lev ≤ l.length := by
  have := plc_le l an
  exact beh_le (by omega)
theorem upd_good {K2 : Wk} {x : En} {es' : List En} (hK2 : GoodK K2) (hp : es'.Perm (x :: K2.es.filter fun y => decide (y.tx ≠ x.tx))) (h48 : es'.length ≤ 48) (hx : (1 ≤ x.tx.size ∧ x.tx.size ≤ 3) ∧ (1 ≤ x.zs.length ∧ x.zs.length ≤ 4) ∧ ∀ z ∈ x.zs, 0 ≤ z ∧ z < K2.names) : GoodK { K2 with es := es' } :=
  ⟨hK2.len, hK2.ls, h48, hK2.str, hK2.name, fun e he => by
    rcases mem_of_upd (hp.mem_iff.1 he) with rfl | he
    · exact hx
    · exact hK2.ent e he, (once_perm hp).2 (once_upd hK2.once x)⟩
theorem ruleE_good {upd : List En → En → List En} {K K' : Wk} {r : Rl} (h : GoodK K) (hu : UpdE upd K.es) (hr : r.ok) (ha : r.reset.size ≠ 0 ∨ Anch K) (he : ruleE upd K r = .ok K') : GoodK K' ∧ Anch K' := by
  unfold ruleE at he
  cases hm : numsE K.es r.more with
  | none => rw [hm] at he; cases he
  | some more =>
    obtain ⟨_, _, hmz⟩ := numsE_all h hm
    rw [hm] at he
    simp only at he
    cases hs : (if r.reset.size ≠ 0 then (numsE K.es r.reset).map (fun l => (l.dropLast, l.getLastD 0)) else some (K.stem, K.anchor)) with
    | none => rw [hs] at he; cases he
    | some sa =>
      obtain ⟨stem, anchor⟩ := sa
      rw [hs] at he
      simp only at he
      have hA : Anch { K with stem := stem, anchor := anchor } := by
        by_cases h0 : r.reset.size ≠ 0
        · rw [if_pos h0] at hs
          cases hn : numsE K.es r.reset with
          | none => rw [hn] at hs; cases hs
          | some l =>
            rw [hn] at hs
            simp only [Option.map_some, Option.some.injEq, Prod.mk.injEq] at hs
            obtain ⟨rfl, rfl⟩ := hs
            obtain ⟨b1, b2, b3⟩ := numsE_all h hn
            have hl := b2 h0
            have hr6 := hr.2.2.1
            refine ⟨?_, fun z hz => b3 z (List.dropLast_subset l hz), ?_⟩
            · exact b3 _ (by
                rw [List.getLastD_eq_getLast?, List.getLast?_eq_some_getLast hl]
                exact List.getLast_mem hl)
            · show l.dropLast.length ≤ 100
              rw [List.length_dropLast]
              omega
        · rw [if_neg h0] at hs
          simp only [Option.some.injEq, Prod.mk.injEq] at hs
          obtain ⟨rfl, rfl⟩ := hs
          exact ha.resolve_left h0
      have hG : GoodK { K with stem := stem, anchor := anchor } := ⟨h.len, h.ls, h.es, h.str, h.name, h.ent, h.once⟩
      by_cases hb : r.before ≠ 0 ∧ (r.level ≠ r.before ∨ startS K.ls anchor r.before < 0)
      · rw [if_pos hb] at he; cases he
      · rw [if_neg hb] at he
        have hat : (if r.before = 0 then behindS K.ls anchor r.level else (startS K.ls anchor r.before).toNat) ≤ K.ls.length := by
          split
          · exact behindS_le _ _ _
          · have := startS_lt K.ls anchor r.before
            omega
        obtain ⟨K2, hK2⟩ : ∃ K2, K2 = (if 0 < r.level then putS { K with stem := stem, anchor := anchor } (if r.before = 0 then behindS K.ls anchor r.level else (startS K.ls anchor r.before).toNat) r.level else { K with stem := stem, anchor := anchor }) := ⟨_, rfl⟩
        rw [← hK2] at he
        by_cases h4 : 4 < (K2.stem ++ [K2.anchor] ++ more).length
        · rw [if_pos h4] at he; cases he
        · rw [if_neg h4] at he
          by_cases h48 : 48 < K2.ls.length ∨ 48 < (upd K2.es ⟨r.text, K2.stem ++ [K2.anchor] ++ more⟩).length
          · rw [if_pos h48] at he; cases he
          · rw [if_neg h48] at he
            injection he with he
            subst he
            have hlev := hr.2.2.2.1
            have hE2 : K2.es = K.es := by rw [hK2]; split <;> rfl
            have hnm : K.names ≤ K2.names := by
              rw [hK2]; split
              · show K.names ≤ K.names + 1; omega
              · exact Int.le_refl _
            have hG2 : GoodK K2 ∧ Anch K2 := by
              have hle : K2.ls.length ≤ 48 := by omega
              have hnn : (0 : Int) ≤ K.names := by rw [h.len]; omega
              rw [hK2] at hle ⊢
              split
              · next hl =>
                rw [if_pos hl] at hle
                refine ⟨putS_good hG hat (by omega) hle, ?_, ?_, hA.len⟩
                · show 0 ≤ K.names ∧ K.names < K.names + 1
                  omega
                · intro z hz
                  have := hA.stem z hz
                  show 0 ≤ z ∧ z < K.names + 1
                  have : z < K.names := this.2
                  omega
              · exact ⟨hG, hA⟩
            refine ⟨upd_good hG2.1 (by rw [hE2]; exact hu _) (by omega) ⟨hr.1, ⟨?_, Nat.le_of_not_lt h4⟩, ?_⟩, ⟨hG2.2.anchor, hG2.2.stem, hG2.2.len⟩⟩
            · show 1 ≤ (K2.stem ++ [K2.anchor] ++ more).length
              simp
              omega
            · intro z hz
              simp only [List.mem_append, List.mem_singleton] at hz
              rcases hz with (hz | hz) | hz
              · exact hG2.2.stem z hz
              · rw [hz]; exact hG2.2.anchor
              · have := hmz z hz
                omega
theorem upd_ins {es : List En} (h : SortE es) : UpdE insE es := fun e => insE_perm h e
theorem upd_rep {es : List En} (h : OnceE es) : UpdE repE es := fun e => repE_perm h e

end Go.Proofs.Ytpclldccjpncdab

namespace Go.Proofs.Ytpclldccjpncdab
open Go.RowKit

/-- the node before the i-th -/
def prv (f : Nat → Int) (i : Nat) : Int := if i = 0 then 0 else f (i - 1)
def spB (L : Lay) (i : Nat) : Sp := ⟨(i : Nat), stI (prv L.p i) (prv L.s i) (prv L.t i) (L.p i) (L.s i) (L.t i), true, L.p i, L.s i, L.t i⟩
def lsB (L : Lay) (i : Nat) : List Sp := (List.range i).map (spB L)
theorem lsB_snoc (L : Lay) (i : Nat) : lsB L (i + 1) = lsB L i ++ [spB L i] := by simp [lsB, List.range_succ]
theorem lsB_len (L : Lay) (i : Nat) : (lsB L i).length = i := by simp [lsB]
def enB (L : Lay) (j : Nat) : En := ⟨L.tx j, (List.range (L.k j)).map (L.z j)⟩
def esB (L : Lay) (i : Nat) : List En := (List.range i).map (enB L)
theorem esB_snoc (L : Lay) (i : Nat) : esB L (i + 1) = esB L i ++ [enB L i] := by simp [esB, List.range_succ]
theorem esB_len (L : Lay) (i : Nat) : (esB L i).length = i := by simp [esB]
theorem esB_at (L : Lay) {i j : Nat} (h : j < i) : (esB L i).getD j default = enB L j := by
  rw [getD_at (by rw [esB_len]; exact h)]
  simp [esB]
/-- the table's own list -/
def begS (L : Lay) : Wk := ⟨lsB L L.n, esB L L.m, [], 0, (L.n : Nat)⟩
theorem stI_vals (p s t p' s' t' : Int) : stI p s t p' s' t' = 1 ∨ stI p s t p' s' t' = 2 ∨ stI p s t p' s' t' = 3 := by
  unfold stI
  split
  · simp
  · split <;> simp
theorem err_entries {L : Lay} (h : L.err = 0) : entriesOk L.m L.tx L.k L.z L.n := by
  unfold Lay.err at h
  split at h
  · omega
  · split at h
    · omega
    · split at h
      · omega
      · next h3 => simpa [entriesB] using h3
theorem err_nodes {L : Lay} (h : L.err = 0) : nodesOk L.n L.p L.s L.t := by
  unfold Lay.err at h
  split at h
  · omega
  · split at h
    · omega
    · next h2 => simpa [nodesB] using h2
theorem rise_all {m : Nat} {tx : Nat → ByteArray} (h : ∀ i, i < m → 0 < i → lessB (tx (i - 1)) (tx i) = true) : ∀ j, j < m → ∀ i, i < j → lessB (tx i) (tx j) = true
  | 0, _, i, hi => by omega
  | j + 1, hj, i, hi => by
    have h1 := h (j + 1) hj (by omega)
    rw [Nat.add_sub_cancel] at h1
    by_cases e : i = j
    · rw [e]; exact h1
    · exact lessB_trans (rise_all h j (by omega) i (by omega)) h1
theorem esB_sort {L : Lay} (h : L.err = 0) : SortE (esB L L.m) := by
  have hr := rise_all (fun i hi h0 => (err_entries h i hi).2 h0)
  unfold SortE esB
  rw [List.pairwise_map, List.pairwise_iff_getElem]
  intro i j hi hj hij
  simp only [List.length_range] at hi hj
  simp only [List.getElem_range]
  exact hr j hj i hij
theorem begS_good {L : Lay} (h : L.err = 0) : GoodK (begS L) := by
  have hok := err_zero h
  refine ⟨?_, ?_, ?_, fun x hx => ?_, fun z h0 hz => ?_, fun e he => ?_, sort_once (esB_sort h)⟩
  · show ((L.n : Nat) : Int) = ((lsB L L.n).length : Nat)
    rw [lsB_len]
  · show (lsB L L.n).length ≤ 48
    rw [lsB_len]; exact hok.n
  · show (esB L L.m).length ≤ 48
    rw [esB_len]; exact hok.m
  · have hx : x ∈ (List.range L.n).map (spB L) := hx
    rw [List.mem_map] at hx
    obtain ⟨i, _, rfl⟩ := hx
    exact stI_vals (prv L.p i) (prv L.s i) (prv L.t i) (L.p i) (L.s i) (L.t i)
  · have hz : z < (L.n : Nat) := hz
    refine ⟨spB L z.toNat, ?_, ?_⟩
    · show _ ∈ (List.range L.n).map (spB L)
      rw [List.mem_map]
      exact ⟨z.toNat, by rw [List.mem_range]; omega, rfl⟩
    · show ((z.toNat : Nat) : Int) = z
      omega
  · have he : e ∈ (List.range L.m).map (enB L) := he
    rw [List.mem_map] at he
    obtain ⟨i, hi, rfl⟩ := he
    rw [List.mem_range] at hi
    have hki : ((List.range (L.k i)).map (L.z i)).length = L.k i := by simp
    refine ⟨hok.tx i hi, ?_, fun z hz => ?_⟩
    · show 1 ≤ ((List.range (L.k i)).map (L.z i)).length ∧ ((List.range (L.k i)).map (L.z i)).length ≤ 4
      rw [hki]; exact hok.k i hi
    · have hz : z ∈ (List.range (L.k i)).map (L.z i) := hz
      rw [List.mem_map] at hz
      obtain ⟨j, hj, rfl⟩ := hz
      rw [List.mem_range] at hj
      exact hok.z i hi j hj
/-- what Compile gives: the list with its weights and the entries, or an error and a place -/
noncomputable def compE (L : Lay) (s : ByteArray) : Except (Int × Nat) (List Sp × List En) :=
  if L.err ≠ 0 then .error (L.err, 0)
  else if (rdAll s).2.1 ≠ 0 then .error (rdAll s).2
  else match rulesE insE (begS L) (rdAll s).1 0 with
    | .error x => .error x
    | .ok K => match weigh K.ls 0 0 0 with
      | none => .error (14, 0)
      | some ls' => .ok (ls', K.es.map fun e => ⟨e.tx, e.zs.map (plc K.ls)⟩)
theorem rulesE_good : ∀ (l : List Rl) (K K' : Wk) (i : Nat), GoodK K → SortE K.es → (∀ r ∈ l, r.ok) → ((∀ r, l.head? = some r → r.reset.size ≠ 0) ∨ Anch K) → rulesE insE K l i = .ok K' → GoodK K' ∧ SortE K'.es
  | [], K, K', i, hg, hs, _, _, h => by
    injection h with h
    rw [← h]; exact ⟨hg, hs⟩
  | r :: l, K, K', i, hg, hs, hr, ha, h => by
    unfold rulesE at h
    cases hq : ruleE insE K r with
    | error e => rw [hq] at h; cases h
    | ok K2 =>
      rw [hq] at h
      obtain ⟨g2, a2⟩ := ruleE_good hg (upd_ins hs) (hr r (by simp)) (ha.imp (fun h => h r rfl) id) hq
      have hs2 : SortE K2.es := by
        unfold ruleE at hq
        repeat' (first | split at hq | (simp only at hq))
        all_goals first
          | (cases hq; done)
          | (injection hq with hq; rw [← hq]; split <;> exact insE_sort hs _)
          | (injection hq with hq; rw [← hq]; exact insE_sort hs _)
      exact rulesE_good l K2 K' (i + 1) g2 hs2 (fun x hx => hr x (by simp [hx])) (.inr a2) h

end Go.Proofs.Ytpclldccjpncdab

namespace Go.Proofs.Ytpclldccjpncdab
open Go.RowKit

/-! the program's own draft, as it lies in memory: read, never written into -/
def Sp.cm (x : Sp) : List Value := [.int .i64 x.name, .int .i64 x.str, .bool (!x.old), .int .i64 x.p, .int .i64 x.s, .int .i64 x.t]
def memC (l : List Sp) : List Value := l.flatMap Sp.cm
theorem memC_app (l l' : List Sp) : memC (l ++ l') = memC l ++ memC l' := by simp [memC]
theorem memC_len : ∀ l : List Sp, (memC l).length = l.length * 6
  | [] => rfl
  | x :: l => by
    have := memC_len l
    show (x.cm ++ memC l).length = _
    rw [List.length_append, this, List.length_cons]
    show 6 + _ = _
    omega
theorem memC_at : ∀ (l : List Sp) (i : Nat), i < l.length → ∀ k, k < 6 → (memC l)[i * 6 + k]? = (l.getD i default).cm[k]?
  | [], i, h, _, _ => by simp at h
  | x :: l, 0, _, k, hk => by
    show (x.cm ++ memC l)[0 * 6 + k]? = _
    rw [List.getElem?_append_left (by show _ < 6; omega), Nat.zero_mul, Nat.zero_add]
    rfl
  | x :: l, i + 1, h, k, hk => by
    have h' : i < l.length := by simpa using h
    show (x.cm ++ memC l)[(i + 1) * 6 + k]? = _
    rw [List.getElem?_append_right (by show 6 ≤ _; omega)]
    rw [show (i + 1) * 6 + k - x.cm.length = i * 6 + k by show _ - 6 = _; omega, memC_at l i h' k hk]
    rfl
structure MemIn (B : Nat) (w : World) (la : Option Addr) (gv : Nat) (l : List Sp) : Prop where
  addr : 0 < l.length → la = some ⟨gv, 0, none⟩
  lt : 0 < l.length → gv < B
  name : ∀ i, i < l.length → w.cell? ⟨gv, i * 6, none⟩ = some (.int .i64 (l.getD i default).name)
  str : ∀ i, i < l.length → w.cell? ⟨gv, i * 6 + 1, none⟩ = some (.int .i64 (l.getD i default).str)
  new : ∀ i, i < l.length → w.cell? ⟨gv, i * 6 + 2, none⟩ = some (.bool (!(l.getD i default).old))
  p : ∀ i, i < l.length → w.cell? ⟨gv, i * 6 + 3, none⟩ = some (.int .i64 (l.getD i default).p)
  s : ∀ i, i < l.length → w.cell? ⟨gv, i * 6 + 4, none⟩ = some (.int .i64 (l.getD i default).s)
  t : ∀ i, i < l.length → w.cell? ⟨gv, i * 6 + 5, none⟩ = some (.int .i64 (l.getD i default).t)
theorem MemIn.same {B : Nat} {w w' : World} {la : Option Addr} {gv : Nat} {l : List Sp} (h : MemIn B w la gv l) (hs : 0 < l.length → ∀ o, w'.cell? ⟨gv, o, none⟩ = w.cell? ⟨gv, o, none⟩) : MemIn B w' la gv l :=
  ⟨h.addr, h.lt, fun i hi => (hs (by omega) _).trans (h.name i hi), fun i hi => (hs (by omega) _).trans (h.str i hi), fun i hi => (hs (by omega) _).trans (h.new i hi), fun i hi => (hs (by omega) _).trans (h.p i hi), fun i hi => (hs (by omega) _).trans (h.s i hi), fun i hi => (hs (by omega) _).trans (h.t i hi)⟩
theorem MemIn.below {B : Nat} {w w' : World} {la : Option Addr} {gv : Nat} {l : List Sp} (h : MemIn B w la gv l) (hb : Below B w w') : MemIn B w' la gv l := h.same fun h0 _ => hb.cell (by exact h.lt h0)
theorem MemIn.mono {B B' : Nat} {w : World} {la : Option Addr} {gv : Nat} {l : List Sp} (h : MemIn B w la gv l) (hB : B ≤ B') : MemIn B' w la gv l := ⟨h.addr, fun h0 => Nat.lt_of_lt_of_le (h.lt h0) hB, h.name, h.str, h.new, h.p, h.s, h.t⟩
theorem mem_in {w : World} {base : Nat} {la : Option Addr} {n lc : Nat} {l : List Sp} (hn : n = l.length) (ho : w.ownsRow base 97 6 (.slice la n lc) n (memC l)) : ∃ gv, MemIn w.heap.size w la gv l := by
  subst hn
  obtain ⟨vo, vc, gv, hv, ha, hc⟩ := ownC_cells ho
  injection hv with hv1 _ _
  have cell : ∀ i, i < l.length → ∀ k u, k < 6 → (l.getD i default).cm[k]? = some u → w.cell? ⟨gv, i * 6 + k, none⟩ = some u := fun i hi k u hk hu => hc _ u (by omega) (by rw [memC_at l i hi k hk]; exact hu)
  exact ⟨gv, fun h => by rw [hv1]; exact (ha h).1, fun h => (ha h).2.1, fun i hi => cell i hi 0 _ (by omega) rfl, fun i hi => cell i hi 1 _ (by omega) rfl, fun i hi => cell i hi 2 _ (by omega) rfl, fun i hi => cell i hi 3 _ (by omega) rfl, fun i hi => cell i hi 4 _ (by omega) rfl, fun i hi => cell i hi 5 _ (by omega) rfl⟩

/-! a list of numbers that a slice reads -/
def slA (v : Value) : Option Addr := match v with
  | .slice a _ _ => a
  | _ => none
def slC (v : Value) : Nat := match v with
  | .slice _ _ c => c
  | _ => 0
def aB (a : Option Addr) : Nat := match a with | some a => a.block | none => 0
def aO (a : Option Addr) : Nat := match a with | some a => a.off | none => 0
structure SlIn (B : Nat) (w : World) (v : Value) (zs : List Int) : Prop where
  shape : v = .slice (slA v) zs.length (slC v)
  ints : IntsIn B w (slA v) zs.length (aB (slA v)) (aO (slA v)) (fun i => zs.getD i 0)
theorem SlIn.below {B : Nat} {w w' : World} {v : Value} {zs : List Int} (h : SlIn B w v zs) (hb : Below B w w') : SlIn B w' v zs := ⟨h.shape, h.ints.below hb⟩
theorem SlIn.mono {B B' : Nat} {w : World} {v : Value} {zs : List Int} (h : SlIn B w v zs) (hB : B ≤ B') : SlIn B' w v zs := ⟨h.shape, h.ints.mono hB⟩
theorem SlIn.of {B : Nat} {w : World} {a : Option Addr} {c b o : Nat} {zs : List Int} (h : IntsIn B w a zs.length b o (fun i => zs.getD i 0)) : SlIn B w (.slice a zs.length c) zs := by
  refine ⟨rfl, fun h0 => ?_, fun h0 => ?_, fun i hi => ?_, h.le⟩
  · have := h.addr h0
    show a = some ⟨aB a, aO a, none⟩
    rw [this]; rfl
  · have h1 := h.addr h0
    have h2 := h.lt h0
    show aB a < B
    rw [h1]; exact h2
  · have h1 := h.addr (by omega)
    have h2 := h.cell i hi
    show w.cell? ⟨aB a, aO a + i, none⟩ = _
    rw [h1]; exact h2
theorem IntsIn.congr {B : Nat} {w : World} {ao : Option Addr} {k b off : Nat} {z z' : Nat → Int} (h : IntsIn B w ao k b off z) (hz : ∀ i, i < k → z i = z' i) : IntsIn B w ao k b off z' := ⟨h.addr, h.lt, fun i hi => by rw [← hz i hi]; exact h.cell i hi, h.le⟩
theorem SlIn.own {w : World} {base : Nat} {v : Value} {n : Nat} {zs : List Int} (hn : n = zs.length) (h1000 : zs.length ≤ 1000) (ho : w.ownsRow base 3 1 v n (zs.map (Value.int .i64))) : SlIn w.heap.size w v zs := by
  subst hn
  obtain ⟨vo, vc, gv, rfl, ha, hc⟩ := ownC_cells ho
  refine SlIn.of (b := gv) (o := 0) ⟨fun h0 => (ha h0).1, fun h0 => (ha h0).2.1, fun i hi => ?_, by omega⟩
  rw [Nat.zero_add]
  refine hc i _ (by omega) ?_
  rw [List.getElem?_map, List.getElem?_eq_getElem hi, List.getD_eq_getElem?_getD, List.getElem?_eq_getElem hi]
  rfl

/-! entries: each with the slice of its numbers -/
abbrev Em := En × Value
structure EmIn (B : Nat) (w : World) (ea : Option Addr) (eb eo : Nat) (em : List Em) : Prop where
  addr : 0 < em.length → ea = some ⟨eb, eo, none⟩
  lt : 0 < em.length → eb < B
  text : ∀ i, i < em.length → w.cell? ⟨eb, eo + i * 2, none⟩ = some (.string (em.getD i default).1.tx)
  list : ∀ i, i < em.length → w.cell? ⟨eb, eo + i * 2 + 1, none⟩ = some (em.getD i default).2
  ints : ∀ x ∈ em, SlIn B w x.2 x.1.zs
theorem EmIn.below {B : Nat} {w w' : World} {ea : Option Addr} {eb eo : Nat} {em : List Em} (h : EmIn B w ea eb eo em) (hb : Below B w w') : EmIn B w' ea eb eo em :=
  ⟨h.addr, h.lt, fun i hi => (hb.cell (by exact h.lt (by omega))).trans (h.text i hi), fun i hi => (hb.cell (by exact h.lt (by omega))).trans (h.list i hi), fun x hx => (h.ints x hx).below hb⟩
theorem EmIn.mono {B B' : Nat} {w : World} {ea : Option Addr} {eb eo : Nat} {em : List Em} (h : EmIn B w ea eb eo em) (hB : B ≤ B') : EmIn B' w ea eb eo em :=
  ⟨h.addr, fun h0 => Nat.lt_of_lt_of_le (h.lt h0) hB, h.text, h.list, fun x hx => (h.ints x hx).mono hB⟩
def esM (em : List Em) : List En := em.map (·.1)
theorem esM_at {em : List Em} {i : Nat} (h : i < em.length) : (esM em).getD i default = (em.getD i default).1 := by
  rw [getD_at (by rw [esM, List.length_map]; exact h), getD_at h]
  simp [esM]
def laM (em : List Em) (i : Nat) : Option Addr := slA (em.getD i default).2
def lcM (em : List Em) (i : Nat) : Nat := slC (em.getD i default).2
theorem EmIn.entries {B : Nat} {w : World} {ea : Option Addr} {eb eo : Nat} {em : List Em} (h : EmIn B w ea eb eo em) (hm : em.length ≤ 1000) : EntriesIn B w ea (esM em).length eb eo (txE (esM em)) (laM em) (kE (esM em)) (lcM em) (fun i => aB (laM em i)) (fun i => aO (laM em i)) (zE (esM em)) := by
  have hl : (esM em).length = em.length := List.length_map _
  rw [hl]
  refine ⟨h.addr, h.lt, fun i hi => ?_, fun i hi => ?_, fun i hi => ?_, by omega⟩
  · unfold txE
    rw [esM_at hi]; exact h.text i hi
  · have h1 := h.list i hi
    have h2 := (h.ints (em.getD i default) (by rw [getD_at hi]; exact List.getElem_mem hi)).shape
    unfold kE laM lcM
    rw [esM_at hi, h1]
    exact congrArg some h2
  · have h2 := (h.ints (em.getD i default) (by rw [getD_at hi]; exact List.getElem_mem hi)).ints
    unfold kE laM zE
    rw [esM_at hi]
    exact h2
/-- the entries of a table -/
def emB (L : Lay) : List Em := (List.range L.m).map fun j => (enB L j, .slice (L.la j) (L.k j) (L.lc j))
theorem emB_len (L : Lay) : (emB L).length = L.m := by simp [emB]
theorem esM_emB (L : Lay) : esM (emB L) = esB L L.m := by simp [esM, emB, esB]
theorem emB_at (L : Lay) {i : Nat} (h : i < L.m) : (emB L).getD i default = (enB L i, .slice (L.la i) (L.k i) (L.lc i)) := by
  rw [getD_at (by rw [emB_len]; exact h)]
  simp [emB]
theorem emB_in {L : Lay} {B : Nat} {w : World} (h : EntriesIn B w L.ea L.m L.eb L.eo L.tx L.la L.k L.lc L.lb L.lo L.z) : EmIn B w L.ea L.eb L.eo (emB L) := by
  refine ⟨?_, ?_, ?_, ?_, fun x hx => ?_⟩
  · rw [emB_len]; exact h.addr
  · rw [emB_len]; exact h.lt
  · rw [emB_len]
    intro i hi
    rw [emB_at L hi]; exact h.text i hi
  · rw [emB_len]
    intro i hi
    rw [emB_at L hi]; exact h.list i hi
  · rw [emB, List.mem_map] at hx
    obtain ⟨j, hj, rfl⟩ := hx
    rw [List.mem_range] at hj
    have hk : (enB L j).zs.length = L.k j := by simp [enB]
    have hi := h.ints j hj
    show SlIn B w (.slice (L.la j) (L.k j) (L.lc j)) (enB L j).zs
    rw [← hk] at hi ⊢
    refine SlIn.of (hi.congr fun i hi => ?_)
    rw [hk] at hi
    simp [enB, hi]

end Go.Proofs.Ytpclldccjpncdab

namespace Go.Proofs.Ytpclldccjpncdab
open Go.RowKit

theorem strengthP_any (p s t p' s' t' : Int) (w : World) :
    Calls Try.prog 57 #[.agg #[.int .i64 p, .int .i64 s, .int .i64 t], .agg #[.int .i64 p', .int .i64 s', .int .i64 t']] w fun e w' => e = .returned (.int .i64 (stI p' s' t' p s t)) ∧ Below w.heap.size w w' := by
  obtain ⟨r, hr⟩ : ∃ r, r = stI p' s' t' p s t := ⟨_, rfl⟩
  have HR : Hid (r = stI p' s' t' p s t) := hr
  rw [← hr]
  clear hr
  by_cases h1 : p = p'
  · subst h1
    by_cases h2 : s = s'
    · subst h2
      have HE : Hid (r = 3) := by show _ = _; rw [HR.out, stI, if_neg (by simp), if_neg (by simp)]
      clear HR
      go_enter Try.func57, Try.ntmps57
      go_wp2
      go_ret
      exact ⟨by rw [HE.out]; rfl, below_then (below_one _) (below_one _)⟩
    · have h2' : (s == s') = false := beq_eq_false_iff_ne.2 h2
      have HE : Hid (r = 2) := by show _ = _; rw [HR.out, stI, if_neg (by simp), if_pos (fun e => h2 e.symm)]
      clear HR
      go_enter Try.func57, Try.ntmps57
      go_wp2
      go_ret
      exact ⟨by rw [HE.out]; rfl, below_then (below_one _) (below_one _)⟩
  · have h1' : (p == p') = false := beq_eq_false_iff_ne.2 h1
    have HE : Hid (r = 1) := by show _ = _; rw [HR.out, stI, if_pos (fun e => h1 e.symm)]
    clear HR
    go_enter Try.func57, Try.ntmps57
    go_wp2
    go_ret
    exact ⟨by rw [HE.out]; rfl, below_then (below_one _) (below_one _)⟩

set_option maxRecDepth 100000 in
set_option maxHeartbeats 1000000 in
theorem placeOf_any (la : Option Addr) (lc gv : Nat) (l : List Sp) (nm : Int) (w : World) (hl : l.length ≤ 1000) (hin : ∃ x ∈ l, x.name = nm) (h : MemIn w.heap.size w la gv l) :
    Calls Try.prog 66 #[.slice la l.length lc, .int .i64 nm] w fun e w' => e = .returned (.int .i64 (plc l nm)) ∧ w' = w := by
  obtain ⟨r, hr⟩ : ∃ r, r = plc l nm := ⟨_, rfl⟩
  have HR : Hid (r = plc l nm) := hr
  rw [← hr]
  clear hr
  have HL : Hid (MemIn w.heap.size w la gv l) := h
  clear h
  obtain ⟨n, hn⟩ : ∃ n, n = l.length := ⟨_, rfl⟩
  have HN : Hid (n = l.length) := hn
  rw [← hn] at hl ⊢
  clear hn
  have HX : Hid (∃ x ∈ l, x.name = nm) := hin
  clear hin
  go_enter Try.func66, Try.ntmps66
  go_wp2
  go_loopw [5] (fun iv wr => ∃ i : Nat, Hid (∀ j, j < i → (l.getD j default).name ≠ nm) ∧ i ≤ n ∧ iv = .int .i64 (i : Nat) ∧ wr = w) (fun iv _ => n - (intOf iv).toNat)
  case atStart => exact ⟨0, fun j hj => by omega, Nat.zero_le _, rfl, rfl⟩
  case round =>
    obtain ⟨i, HJ, hi, rfl, hw⟩ := hrel
    obtain rfl := hw.symm
    clear hw
    have hlt : i < n := by
      by_cases hlt : i < n
      · exact hlt
      · exfalso
        obtain ⟨x, hx, he⟩ := HX.out
        obtain ⟨j, hj, rfl⟩ := List.getElem_of_mem hx
        have hnn := HN.out
        exact HJ.out j (by omega) (by rw [getD_at hj]; exact he)
    have hlt' : i < l.length := by rw [← HN.out]; exact hlt
    have ha := HL.out.addr (by omega)
    subst ha
    have c0 := HL.out.name i hlt'
    obtain ⟨x, hx⟩ : ∃ x, x = (l.getD i default).name := ⟨_, rfl⟩
    rw [← hx] at c0
    by_cases hxn : x = nm
    · have HE : Hid (r = (i : Nat)) := by show _ = _; rw [HR.out]; exact plc_at hlt' (by rw [← hx]; exact hxn) HJ.out
      subst hxn
      clear hx hlt'
      go_wp2
      go_ret
      exact ⟨by rw [HE.out]; rfl, rfl⟩
    · have HJ' : Hid (∀ j, j < i + 1 → (l.getD j default).name ≠ nm) := fun j hj => by
        by_cases e : j = i
        · rw [e, ← hx]; exact hxn
        · exact HJ.out j (by omega)
      have hxn' : (x == nm) = false := beq_eq_false_iff_ne.2 hxn
      clear hx hxn hlt'
      go_wp2
      go_roundw
      case rel => exact ⟨i + 1, HJ', by omega, by go_num, by trivial⟩
      case measure => simp [intOf]; omega

set_option maxRecDepth 100000 in
set_option maxHeartbeats 1000000 in
theorem placeBehind_any (la : Option Addr) (lc gv : Nat) (l : List Sp) (nm lev : Int) (w : World) (hl : l.length ≤ 1000) (hin : ∃ x ∈ l, x.name = nm) (h : MemIn w.heap.size w la gv l) :
    Calls Try.prog 77 #[.slice la l.length lc, .int .i64 nm, .int .i64 lev] w fun e w' => e = .returned (.int .i64 (behindS l nm lev : Nat)) ∧ w' = w := by
  obtain ⟨r, hr⟩ : ∃ r, r = behindS l nm lev := ⟨_, rfl⟩
  have HR : Hid (r = behindS l nm lev) := hr
  rw [← hr]
  clear hr
  have hp := plc_in hin
  obtain ⟨p, hpp⟩ : ∃ p : Nat, plc l nm = (p : Nat) := ⟨(plc l nm).toNat, by omega⟩
  have HC : Hid (∀ w, MemIn w.heap.size w la gv l → Calls Try.prog 66 #[.slice la l.length lc, .int .i64 nm] w fun e w' => e = .returned (.int .i64 ((p : Nat) : Int)) ∧ w' = w) := fun w h => by
    rw [← hpp]; exact placeOf_any la lc gv l nm w hl hin h
  have hpl : p < l.length := by omega
  have HR' : Hid (r = beh l lev (p + 1)) := by
    show _ = _
    rw [HR.out, behindS, hpp]
    congr 1
  clear HR hp hpp hin
  have HL : Hid (MemIn w.heap.size w la gv l) := h
  clear h
  obtain ⟨n, hn⟩ : ∃ n, n = l.length := ⟨_, rfl⟩
  have HN : Hid (n = l.length) := hn
  rw [← hn] at hl hpl HC ⊢
  clear hn
  go_enter Try.func77, Try.ntmps77
  go_wp2_with fail
  refine (HC.out _ HL.out).mono ?_
  rintro e w1 ⟨rfl, hw⟩
  obtain rfl := hw.symm
  clear hw
  go_wp2
  go_loopw [7] (fun iv wr => ∃ i : Nat, Hid (r = beh l lev i) ∧ i ≤ n ∧ iv = .int .i64 (i : Nat) ∧ wr = w) (fun iv _ => n - (intOf iv).toNat)
  case atStart => exact ⟨p + 1, HR', by omega, by go_num, rfl⟩
  case round =>
    obtain ⟨i, HB, hi, rfl, hw⟩ := hrel
    obtain rfl := hw.symm
    clear hw
    by_cases hlt : i < n
    · have hlt' : i < l.length := by rw [← HN.out]; exact hlt
      have ha := HL.out.addr (by omega)
      subst ha
      have c0 := HL.out.str i hlt'
      obtain ⟨x, hx⟩ : ∃ x, x = (l.getD i default).str := ⟨_, rfl⟩
      rw [← hx] at c0
      by_cases hxn : lev < x
      · have HB' : Hid (r = beh l lev (i + 1)) := by show _ = _; rw [HB.out, beh, if_pos ⟨hlt', by rw [← hx]; exact hxn⟩]
        clear hx hlt'
        go_wp2
        go_roundw
        case rel => exact ⟨i + 1, HB', by omega, by go_num, by trivial⟩
        case measure => simp [intOf]; omega
      · have HE : Hid (r = i) := by show _ = _; rw [HB.out, beh, if_neg (fun hh => hxn (by rw [hx]; exact hh.2))]
        clear hx hlt'
        have hxn' : x ≤ lev := by omega
        go_wp2
        go_ret
        exact ⟨by rw [HE.out]; rfl, rfl⟩
    · have HE : Hid (r = i) := by show _ = _; rw [HB.out, beh, if_neg (fun hh => by have := HN.out; omega)]
      go_wp2
      go_ret
      exact ⟨by rw [HE.out]; rfl, rfl⟩

set_option maxRecDepth 100000 in
set_option maxHeartbeats 1000000 in
theorem placeBefore_any (la : Option Addr) (lc gv : Nat) (l : List Sp) (nm lev : Int) (w : World) (hl : l.length ≤ 1000) (hin : ∃ x ∈ l, x.name = nm) (h : MemIn w.heap.size w la gv l) :
    Calls Try.prog 78 #[.slice la l.length lc, .int .i64 nm, .int .i64 lev] w fun e w' => e = .returned (.tuple #[.int .i64 (if startS l nm lev < 0 then 0 else startS l nm lev), .bool (decide (0 ≤ startS l nm lev))]) ∧ w' = w := by
  have hp := plc_in hin
  obtain ⟨p, hpp⟩ : ∃ p : Nat, plc l nm = (p : Nat) := ⟨(plc l nm).toNat, by omega⟩
  obtain ⟨r, hr⟩ : ∃ r, r = startS l nm lev := ⟨_, rfl⟩
  have HR : Hid (r = stt l lev (p + 1)) := by
    show _ = _
    rw [hr, startS, hpp]
    congr 1
  obtain ⟨ra, hra⟩ : ∃ x, x = (if startS l nm lev < 0 then 0 else startS l nm lev) := ⟨_, rfl⟩
  obtain ⟨rb, hrb⟩ : ∃ x, x = decide (0 ≤ startS l nm lev) := ⟨_, rfl⟩
  have HNO : Hid (r < 0 → ra = 0 ∧ rb = false) := fun h => by rw [hra, hrb, ← hr]; exact ⟨if_pos h, by simp; omega⟩
  have HYES : Hid (0 ≤ r → ra = r ∧ rb = true) := fun h => by rw [hra, hrb, ← hr]; exact ⟨if_neg (by omega), by simp; omega⟩
  rw [← hra, ← hrb]
  clear hr hra hrb
  have HC : Hid (∀ w, MemIn w.heap.size w la gv l → Calls Try.prog 66 #[.slice la l.length lc, .int .i64 nm] w fun e w' => e = .returned (.int .i64 ((p : Nat) : Int)) ∧ w' = w) := fun w h => by
    rw [← hpp]; exact placeOf_any la lc gv l nm w hl hin h
  have hpl : p < l.length := by omega
  clear hp hpp hin
  have HL : Hid (MemIn w.heap.size w la gv l) := h
  clear h
  obtain ⟨n, hn⟩ : ∃ n, n = l.length := ⟨_, rfl⟩
  have HN : Hid (n = l.length) := hn
  rw [← hn] at hl hpl HC ⊢
  clear hn
  go_enter Try.func78, Try.ntmps78
  go_wp2_with fail
  refine (HC.out _ HL.out).mono ?_
  rintro e w1 ⟨rfl, hw⟩
  obtain rfl := hw.symm
  clear hw
  have hpl' : ((p : Nat) : Int) < (n : Int) := by omega
  go_wp2
  go_loopw [8] (fun iv wr => ∃ i : Nat, Hid (r = stt l lev i) ∧ i ≤ p + 1 ∧ iv = .int .i64 ((i : Int) - 1) ∧ wr = w) (fun iv _ => (intOf iv + 1).toNat)
  case atStart => exact ⟨p + 1, HR, Nat.le_refl _, by go_num, rfl⟩
  case round =>
    obtain ⟨i, HB, hi, rfl, hw⟩ := hrel
    obtain rfl := hw.symm
    clear hw
    cases i with
    | zero =>
      have HE : Hid (r < 0) := by show _ < _; rw [HB.out]; unfold stt; omega
      go_wp2
      go_ret2
      exact ⟨by rw [(HNO.out HE.out).1, (HNO.out HE.out).2]; rfl, rfl⟩
    | succ i =>
      have hlt' : i < l.length := by rw [← HN.out]; omega
      have ha := HL.out.addr (by omega)
      subst ha
      have c0 := HL.out.str i hlt'
      obtain ⟨x, hx⟩ : ∃ x, x = (l.getD i default).str := ⟨_, rfl⟩
      rw [← hx] at c0
      have e1 : (((i + 1 : Nat) : Int) - 1) = (i : Nat) := by omega
      rw [e1]
      have hin' : (i : Int) < (n : Int) := by omega
      by_cases hxn : lev < x
      · have HB' : Hid (r = stt l lev i) := by show _ = _; rw [HB.out, stt, if_neg (by rw [← hx]; omega)]
        clear hx hlt' e1
        go_wp2
        go_roundw
        case rel => exact ⟨i, HB', by omega, by go_num, by trivial⟩
        case measure => simp [intOf]
      · have hxn' : x ≤ lev := by omega
        by_cases hxe : x = lev
        · have HE : Hid (r = (i : Nat)) := by show _ = _; rw [HB.out, stt, if_pos (by rw [← hx]; exact hxn'), if_pos (by rw [← hx]; exact hxe)]
          clear hx hlt' e1
          subst hxe
          go_wp2
          go_ret2
          exact ⟨by rw [(HYES.out (by rw [HE.out]; omega)).1, (HYES.out (by rw [HE.out]; omega)).2, HE.out]; rfl, rfl⟩
        · have HE : Hid (r < 0) := by show _ < _; rw [HB.out, stt, if_pos (by rw [← hx]; exact hxn'), if_neg (by rw [← hx]; exact hxe)]; omega
          have hxe' : (x == lev) = false := beq_eq_false_iff_ne.2 hxe
          have hxe2 : (x != lev) = true := by simp [hxe]
          clear hx hlt' e1 hxe
          go_wp2
          go_ret2
          exact ⟨by rw [(HNO.out HE.out).1, (HNO.out HE.out).2]; rfl, rfl⟩

end Go.Proofs.Ytpclldccjpncdab
