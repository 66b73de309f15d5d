import Derived.Test.YtpclldccjpncdaaEncW
import Derived.Test.YtpclldccjpncdaaDecS
namespace Go.Proofs.Ytpclldccjpncdaa
open Go.RowKit

/-! ### beginnings -/
theorem pre_epos {s t : ByteArray} (h : ∀ p, p < t.size → bt t p = bt s p) (hq : q0 t < t.size) (h0 : 0 < t.size) : ∀ i, epos t i ≤ t.size → epos t i = epos s i
  | 0, _ => by
    show q0 t + 1 = q0 s + 1
    unfold q0 dn
    rw [h 0 h0]
  | i + 1, hi => by
    have hle : epos t i ≤ t.size := Nat.le_trans (epos_up t i (i + 1) (by omega)) hi
    have ih := pre_epos h hq h0 i hle
    have e : epos t (i + 1) = nxt t (epos t i) := rfl
    rw [e] at hi ⊢
    show nxt t (epos t i) = nxt s (epos s i)
    rw [← ih]
    have hn := hi
    unfold nxt at hn
    have h1 : bt t (epos t i) = bt s (epos t i) := h _ (by omega)
    have h2 : bt t (epos t i + 1 + bt t (epos t i)) = bt s (epos t i + 1 + bt t (epos t i)) := h _ (by omega)
    unfold nxt
    rw [h2, h1]
/-- a text that tells a table whole, as the beginning of another one -/
theorem good_pre {s t : ByteArray} (h : ∀ p, p < t.size → bt t p = bt s p) (g : good t) : epos s (dm s) = t.size := by
  have g' : epos t (dm t) = t.size := g
  have hq : q0 t < t.size := by
    have := epos_up t 0 (dm t) (Nat.zero_le _)
    have e : epos t 0 = q0 t + 1 := rfl
    omega
  have h0 : 0 < t.size := by omega
  have hn : dn t = dn s := h 0 h0
  have hqq : q0 t = q0 s := by unfold q0; rw [hn]
  have hm : dm t = dm s := by unfold dm; rw [h _ hq, hqq]
  rw [← hm, ← pre_epos h hq h0 (dm t) (by omega), g']
theorem bt_take {s : ByteArray} {c p : Nat} (h : p < (s.extract 0 c).size) : bt (s.extract 0 c) p = bt s p := by
  have h' := h
  rw [ByteArray.size_extract] at h'
  rw [bt_in h, bt_in (by omega)]
  simp [ByteArray.getElem_extract]
theorem short_bad {s : ByteArray} {c : Nat} (g : good s) (hc : c < s.size) : ¬ good (s.extract 0 c) := fun g' => by
  have h := good_pre (s := s) (fun p hp => bt_take hp) g'
  have g'' : epos s (dm s) = s.size := g
  rw [ByteArray.size_extract] at h
  omega
theorem bt_app {s r : ByteArray} {p : Nat} (h : p < s.size) : bt s p = bt (s ++ r) p := by
  rw [bt_in h, bt_in (by rw [ByteArray.size_append]; omega), ByteArray.getElem_append_left h]
theorem long_bad {s r : ByteArray} (g : good s) (hr : 0 < r.size) : ¬ good (s ++ r) := fun g' => by
  have h := good_pre (s := s ++ r) (t := s) (fun p hp => bt_app hp) g
  have g'' : epos (s ++ r) (dm (s ++ r)) = (s ++ r).size := g'
  rw [ByteArray.size_append] at g''
  omega

/-! ### what was encoded -/
theorem bt_str (l : List Int) (h : ∀ x ∈ l, 0 ≤ x ∧ x ≤ 255) (p : Nat) : bt (strOfNums l) p = (l.getD p 0).toNat := by
  by_cases hp : p < l.length
  · have hs : p < (strOfNums l).size := by rw [strOfNums_size]; exact hp
    rw [bt_in hs]
    have hx := h l[p] (List.getElem_mem hp)
    have e : (strOfNums l)[p] = UInt8.ofNat (l[p]).toNat := by
      show (strOfNums l).data[p] = _
      simp [strOfNums]
    rw [e, List.getD, List.getElem?_eq_getElem hp]
    simp
    omega
  · rw [bt_out (by rw [strOfNums_size]; omega), List.getD, List.getElem?_eq_none (by omega)]
    rfl
theorem getD_app (a b : List Int) (i : Nat) : (a ++ b).getD (a.length + i) 0 = b.getD i 0 := by
  rw [List.getD, List.getD, List.getElem?_append_right (by omega)]
  congr 2
  omega
theorem getD_left (a b : List Int) (i : Nat) (h : i < a.length) : (a ++ b).getD i 0 = a.getD i 0 := by
  rw [List.getD, List.getD, List.getElem?_append_left h]
theorem nds_at (L : Lay) : ∀ n i, i < n → (nds L n).getD (i * 3) 0 = L.p i ∧ (nds L n).getD (i * 3 + 1) 0 = L.s i ∧ (nds L n).getD (i * 3 + 2) 0 = L.t i
  | n + 1, i, h => by
    have hl := nds_len L n
    rw [nds_snoc]
    by_cases e : i = n
    · subst e
      have h0 := getD_app (nds L i) [L.p i, L.s i, L.t i] 0
      have h1 := getD_app (nds L i) [L.p i, L.s i, L.t i] 1
      have h2 := getD_app (nds L i) [L.p i, L.s i, L.t i] 2
      rw [hl] at h0 h1 h2
      exact ⟨h0, h1, h2⟩
    · rw [getD_left _ _ _ (by omega), getD_left _ _ _ (by omega), getD_left _ _ _ (by omega)]
      exact nds_at L n i (by omega)
theorem ens_split (L : Lay) : ∀ m i, i < m → ∃ r, ens L m = ens L i ++ (enC (L.tx i) (L.k i) (L.z i) ++ r)
  | m + 1, i, h => by
    rw [ens_snoc]
    by_cases e : i = m
    · subst e
      exact ⟨[], by rw [List.append_nil]⟩
    · obtain ⟨r, hr⟩ := ens_split L m i (by omega)
      exact ⟨r ++ enC (L.tx m) (L.k m) (L.z m), by rw [hr]; simp only [List.append_assoc]⟩
theorem enC_bd {tx : ByteArray} {k : Nat} {z : Nat → Int} (h1 : tx.size ≤ 255) (h2 : k ≤ 255) (h3 : ∀ j, j < k → 0 ≤ z j ∧ z j ≤ 255) : ∀ x ∈ enC tx k z, 0 ≤ x ∧ x ≤ 255 := by
  intro x hx
  simp only [enC, List.mem_append, List.mem_singleton] at hx
  rcases hx with ((hx | hx) | hx) | hx
  · omega
  · simp only [blC, List.mem_map] at hx
    obtain ⟨u, _, rfl⟩ := hx
    have := UInt8.toNat_lt u
    omega
  · omega
  · simp only [zl, List.mem_map, List.mem_range] at hx
    obtain ⟨q, hq, rfl⟩ := hx
    exact h3 q hq
theorem encN_bd {L : Lay} (hok : L.Ok) : ∀ x ∈ encN L, 0 ≤ x ∧ x ≤ 255 := by
  intro x hx
  have hn := hok.n
  have hm := hok.m
  simp only [encN, List.mem_append, List.mem_singleton] at hx
  rcases hx with ((hx | hx) | hx) | hx
  · omega
  · simp only [nds, ndE, List.mem_flatMap, List.mem_range, List.mem_cons, List.not_mem_nil, or_false] at hx
    obtain ⟨i, hi, hx⟩ := hx
    obtain ⟨a, b, c⟩ := node_bd hok hi
    rcases hx with rfl | rfl | rfl <;> assumption
  · omega
  · simp only [ens, List.mem_flatMap, List.mem_range] at hx
    obtain ⟨i, hi, hx⟩ := hx
    have h1 := hok.tx i hi
    have h2 := hok.k i hi
    exact enC_bd (by omega) (by omega) (fun j hj => by have := hok.z i hi j hj; omega) x hx
theorem bytes_ext {a b : ByteArray} (h : a.size = b.size) (hb : ∀ c, c < a.size → bt a c = bt b c) : a = b := by
  apply ByteArray.ext
  apply Array.ext
  · exact h
  · intro i h1 h2
    have := hb i h1
    rw [bt_in (s := a) h1, bt_in (s := b) h2] at this
    exact UInt8.toNat_inj.1 this
theorem blC_bt (s : ByteArray) (c : Nat) : ((blC s).getD c 0).toNat = bt s c := by
  have := bt_str (blC s) (fun x hx => by
    simp only [blC, List.mem_map] at hx
    obtain ⟨u, _, rfl⟩ := hx
    have := UInt8.toNat_lt u
    omega) c
  rw [blC_str] at this
  exact this.symm

/-- the text of a table that is valid -/
structure Told1 (L : Lay) (s : ByteArray) : Prop where
  n : dn s = L.n
  m : dm s = L.m
  p : ∀ i, i < L.n → dp s i = L.p i
  s_ : ∀ i, i < L.n → ds s i = L.s i
  t : ∀ i, i < L.n → dt s i = L.t i
  tx : ∀ i, i < L.m → dtx s i = L.tx i
  k : ∀ i, i < L.m → dk s i = L.k i
  z : ∀ i, i < L.m → ∀ j, j < L.k i → dz s i j = L.z i j
  good : good s

theorem enc_told {L : Lay} (hok : L.Ok) : Told1 L (strOfNums (encN L)) := by
  have hbd := encN_bd hok
  have hB := bt_str (encN L) hbd
  obtain ⟨s, hs⟩ : ∃ s, s = strOfNums (encN L) := ⟨_, rfl⟩
  rw [← hs] at hB ⊢
  have hnl := nds_len L L.n
  have e0 : encN L = [(L.n : Int)] ++ (nds L L.n ++ ([(L.m : Int)] ++ ens L L.m)) := by simp [encN, List.append_assoc]
  have hn : dn s = L.n := by
    unfold dn
    rw [hB 0, e0]
    simp
  have hnode : ∀ c, c < L.n * 3 → bt s (1 + c) = ((nds L L.n).getD c 0).toNat := fun c hc => by
    rw [hB, e0]
    have := getD_app [(L.n : Int)] (nds L L.n ++ ([(L.m : Int)] ++ ens L L.m)) c
    simp only [List.length_singleton] at this
    rw [this, getD_left _ _ _ (by omega)]
  have hq : q0 s = 1 + L.n * 3 := by unfold q0; rw [hn]
  have e1 : encN L = ([(L.n : Int)] ++ nds L L.n) ++ ([(L.m : Int)] ++ ens L L.m) := by simp [encN, List.append_assoc]
  have l1 : ([(L.n : Int)] ++ nds L L.n).length = 1 + L.n * 3 := by rw [List.length_append, hnl]; simp
  have hm : dm s = L.m := by
    unfold dm
    rw [hq, hB, e1]
    have := getD_app ([(L.n : Int)] ++ nds L L.n) ([(L.m : Int)] ++ ens L L.m) 0
    rw [l1] at this
    rw [show 1 + L.n * 3 = 1 + L.n * 3 + 0 from rfl, this]
    simp
  have hent : ∀ c, bt s (q0 s + 1 + c) = ((ens L L.m).getD c 0).toNat := fun c => by
    rw [hq, hB, show encN L = ([(L.n : Int)] ++ nds L L.n ++ [(L.m : Int)]) ++ ens L L.m by simp [encN, List.append_assoc]]
    have := getD_app ([(L.n : Int)] ++ nds L L.n ++ [(L.m : Int)]) (ens L L.m) c
    rw [List.length_append, l1] at this
    rw [← this]
    simp
  have hat : ∀ i, i < L.m → ∀ c, c < (enC (L.tx i) (L.k i) (L.z i)).length → bt s (q0 s + 1 + (ens L i).length + c) = ((enC (L.tx i) (L.k i) (L.z i)).getD c 0).toNat := fun i hi c hc => by
    obtain ⟨r, hr⟩ := ens_split L L.m i hi
    rw [Nat.add_assoc (q0 s + 1), hent, hr, getD_app, getD_left _ _ _ hc]
  have hsz : ∀ i, i < L.m → bt s (q0 s + 1 + (ens L i).length) = (L.tx i).size := fun i hi => by
    have := hat i hi 0 (by rw [enC_len]; omega)
    rw [Nat.add_zero] at this
    rw [this]
    simp [enC]
  have hkk : ∀ i, i < L.m → bt s (q0 s + 1 + (ens L i).length + 1 + (L.tx i).size) = L.k i := fun i hi => by
    have := hat i hi (1 + (L.tx i).size) (by rw [enC_len]; omega)
    rw [← Nat.add_assoc] at this
    rw [this]
    have e : enC (L.tx i) (L.k i) (L.z i) = ([((L.tx i).size : Int)] ++ blC (L.tx i)) ++ ([(L.k i : Int)] ++ zl (L.k i) (L.z i)) := by simp [enC, List.append_assoc]
    have g := getD_app ([((L.tx i).size : Int)] ++ blC (L.tx i)) ([(L.k i : Int)] ++ zl (L.k i) (L.z i)) 0
    rw [List.length_append, blC_len] at g
    rw [e]
    simp only [List.length_singleton, Nat.add_zero] at g
    rw [g]
    simp
  have hep : ∀ i, i ≤ L.m → epos s i = q0 s + 1 + (ens L i).length := by
    intro i
    induction i with
    | zero => intro _; rfl
    | succ i ih =>
      intro hi
      have h1 := ih (by omega)
      show nxt s (epos s i) = _
      rw [h1, ens_snoc, List.length_append, enC_len]
      unfold nxt
      rw [hsz i (by omega), hkk i (by omega)]
      omega
  have hkp : ∀ i, i < L.m → dkp s i = q0 s + 1 + (ens L i).length + 1 + (L.tx i).size := fun i hi => by
    unfold dkp
    rw [hep i (by omega), hsz i hi]
  have hsize : s.size = q0 s + 1 + (ens L L.m).length := by
    have h1 : s.size = (encN L).length := by rw [hs, strOfNums_size]
    rw [h1, hq]
    simp [encN, hnl]
    omega
  have hlen : ∀ i, i < L.m → (ens L i).length + (enC (L.tx i) (L.k i) (L.z i)).length ≤ (ens L L.m).length := fun i hi => by
    obtain ⟨r, hr⟩ := ens_split L L.m i hi
    rw [hr, List.length_append, List.length_append]
    omega
  refine ⟨hn, hm, fun i hi => ?_, fun i hi => ?_, fun i hi => ?_, fun i hi => ?_, fun i hi => ?_, fun i hi j hj => ?_, ?_⟩
  · have := (nds_at L L.n i hi).1
    have hb := (node_bd hok hi).1
    show ((bt s (1 + i * 3) : Nat) : Int) = _
    rw [hnode _ (by omega), this]
    omega
  · have := (nds_at L L.n i hi).2.1
    have hb := (node_bd hok hi).2.1
    show ((bt s (1 + i * 3 + 1) : Nat) : Int) = _
    rw [Nat.add_assoc, hnode _ (by omega), this]
    omega
  · have := (nds_at L L.n i hi).2.2
    have hb := (node_bd hok hi).2.2
    show ((bt s (1 + i * 3 + 2) : Nat) : Int) = _
    rw [Nat.add_assoc, hnode _ (by omega), this]
    omega
  · unfold dtx
    rw [hep i (by omega), hsz i hi]
    have hl := hlen i hi
    rw [enC_len] at hl
    have hle : q0 s + 1 + (ens L i).length + 1 + (L.tx i).size ≤ s.size := by omega
    rw [tak_in hle]
    refine bytes_ext (sub_size _ _ _ hle) fun c hc => ?_
    rw [sub_size _ _ _ hle] at hc
    rw [bt_sub hle hc, Nat.add_assoc (q0 s + 1 + (ens L i).length), hat i hi (1 + c) (by rw [enC_len]; omega)]
    have e : enC (L.tx i) (L.k i) (L.z i) = [((L.tx i).size : Int)] ++ (blC (L.tx i) ++ ([(L.k i : Int)] ++ zl (L.k i) (L.z i))) := by simp [enC, List.append_assoc]
    have g := getD_app [((L.tx i).size : Int)] (blC (L.tx i) ++ ([(L.k i : Int)] ++ zl (L.k i) (L.z i))) c
    simp only [List.length_singleton] at g
    rw [e, g, getD_left _ _ _ (by rw [blC_len]; exact hc), blC_bt]
  · unfold dk
    rw [hkp i hi, hkk i hi]
  · show ((bt s (dkp s i + 1 + j) : Nat) : Int) = _
    have hzb := hok.z i hi j hj
    rw [hkp i hi, show q0 s + 1 + (ens L i).length + 1 + (L.tx i).size + 1 + j = q0 s + 1 + (ens L i).length + (1 + (L.tx i).size + 1 + j) by omega, hat i hi _ (by rw [enC_len]; omega)]
    have e : enC (L.tx i) (L.k i) (L.z i) = ([((L.tx i).size : Int)] ++ blC (L.tx i) ++ [(L.k i : Int)]) ++ zl (L.k i) (L.z i) := rfl
    have g := getD_app ([((L.tx i).size : Int)] ++ blC (L.tx i) ++ [(L.k i : Int)]) (zl (L.k i) (L.z i)) j
    rw [List.length_append, List.length_append, blC_len] at g
    simp only [List.length_singleton] at g
    rw [e, g]
    have : (zl (L.k i) (L.z i)).getD j 0 = L.z i j := by simp [zl, List.getD, hj]
    rw [this]
    omega
  · show epos s (dm s) = s.size
    rw [hm, hep _ (Nat.le_refl _), hsize]

/-! ### tables that agree -/
theorem nodes_agree {n : Nat} {p s t p' s' t' : Nat → Int} (h : ∀ i, i < n → p' i = p i ∧ s' i = s i ∧ t' i = t i) (hk : nodesOk n p s t) : nodesOk n p' s' t' := by
  intro j hj
  obtain ⟨h1, h2⟩ := hk j hj
  obtain ⟨a, b, c⟩ := h j hj
  rw [a, b, c]
  refine ⟨h1, fun h0 => ?_⟩
  obtain ⟨a', b', c'⟩ := h (j - 1) (by omega)
  rw [a', b', c']
  exact h2 h0
theorem told_err {L : Lay} {s : ByteArray} (h : Told1 L s) (he : L.err = 0) : (dL s).err = 0 := by
  have hok := err_zero he
  unfold Lay.err at he
  have hsz : ¬ (48 < L.n ∨ 48 < L.m) := by have := hok.n; have := hok.m; omega
  rw [if_neg hsz] at he
  by_cases h2 : nodesB L.n L.p L.s L.t = false
  · rw [if_pos h2] at he; omega
  rw [if_neg h2] at he
  by_cases h3 : entriesB L.m L.tx L.k L.z L.n = false
  · rw [if_pos h3] at he; omega
  have h4 : nodesOk L.n L.p L.s L.t := by simpa [nodesB] using h2
  have h5 : entriesOk L.m L.tx L.k L.z L.n := by simpa [entriesB] using h3
  have hn : (dL s).n = L.n := h.n
  have hm : (dL s).m = L.m := h.m
  have h6 : nodesB (dL s).n (dL s).p (dL s).s (dL s).t = true := by
    rw [hn]
    exact (nodesB_true (nodes_agree (fun i hi => ⟨h.p i hi, h.s_ i hi, h.t i hi⟩) h4)).symm
  have h7 : entriesB (dL s).m (dL s).tx (dL s).k (dL s).z (dL s).n = true := by
    rw [hn, hm]
    refine (entriesB_yes fun i hi => ?_).symm
    obtain ⟨a, b⟩ := h5 i hi
    have a' : entryOk (L.tx i).size (L.k i) (L.z i) L.n := by simpa [entryB] using a
    have ht : (dL s).tx i = L.tx i := h.tx i hi
    have hk : (dL s).k i = L.k i := h.k i hi
    have hzz : ∀ j, j < L.k i → (dL s).z i j = L.z i j := h.z i hi
    rw [ht, hk]
    refine ⟨(entryB_yes ⟨a'.1, a'.2.1, fun j hj => ?_⟩).symm, fun h0 => ?_⟩
    · rw [hzz j hj]; exact a'.2.2 j hj
    · have ht' : (dL s).tx (i - 1) = L.tx (i - 1) := h.tx (i - 1) (by omega)
      rw [ht']
      exact b h0
  exact (err_ok (by rw [hn]; exact hok.n) (by rw [hm]; exact hok.m) h6 h7).symm
/-- the table that was read, told by the functions of the one that was written -/
def backL (L : Lay) (no : Option Addr) (nc : Nat) (eo : Option Addr) (ec : Nat) (vs : Nat → Option Addr) (cs : Nat → Nat) : Lay :=
  { L with na := no, nc := nc, nb := blk no, no := 0, ea := eo, ec := ec, eb := blk eo, eo := 0, la := vs, lc := cs, lb := fun i => blk (vs i), lo := fun _ => 0 }
theorem back_in {L : Lay} {s : ByteArray} (h : Told1 L s) {no : Option Addr} {nc : Nat} {eo : Option Addr} {ec : Nat} {vs : Nat → Option Addr} {cs : Nat → Nat} {w : World} (hin : (toldL s no nc eo ec vs cs).In w.heap.size w) : (backL L no nc eo ec vs cs).In w.heap.size w := by
  obtain ⟨⟨a1, a2, a3, a4, a5, a6⟩, ⟨b1, b2, b3, b4, b5, b6⟩⟩ := hin
  have hn : (toldL s no nc eo ec vs cs).n = L.n := h.n
  have hm : (toldL s no nc eo ec vs cs).m = L.m := h.m
  rw [hn] at a1 a2 a3 a4 a5 a6
  rw [hm] at b1 b2 b3 b4 b5 b6
  refine ⟨⟨a1, a2, fun i hi => ?_, fun i hi => ?_, fun i hi => ?_, a6⟩, ⟨b1, b2, fun i hi => ?_, fun i hi => ?_, fun i hi => ?_, b6⟩⟩
  · have := a3 i hi
    rw [show (toldL s no nc eo ec vs cs).p i = L.p i from h.p i hi] at this
    exact this
  · have := a4 i hi
    rw [show (toldL s no nc eo ec vs cs).s i = L.s i from h.s_ i hi] at this
    exact this
  · have := a5 i hi
    rw [show (toldL s no nc eo ec vs cs).t i = L.t i from h.t i hi] at this
    exact this
  · have := b3 i hi
    rw [show (toldL s no nc eo ec vs cs).tx i = L.tx i from h.tx i hi] at this
    exact this
  · have := b4 i hi
    rw [show (toldL s no nc eo ec vs cs).k i = L.k i from h.k i hi] at this
    exact this
  · obtain ⟨c1, c2, c3, c4⟩ := b5 i hi
    rw [show (toldL s no nc eo ec vs cs).k i = L.k i from h.k i hi] at c1 c2 c3 c4
    refine ⟨c1, c2, fun j hj => ?_, c4⟩
    have := c3 j hj
    rw [show (toldL s no nc eo ec vs cs).z i j = L.z i j from h.z i hi j hj] at this
    exact this

end Go.Proofs.Ytpclldccjpncdaa
