import Derived.Test.YtpclldccjpncdabGreatM14
namespace Go.Proofs.YtpclldccjpncdabGreat
open Go.RowKit

/-! what is written is read back -/
/-- these bytes stand there -/
def Has (s : ByteArray) (i : Nat) (l : List Int) : Prop := i + l.length ≤ s.size ∧ ∀ k, k < l.length → (bt s (i + k) : Int) = l.getD k 0
theorem Has.nil {s : ByteArray} {i : Nat} (h : i ≤ s.size) : Has s i [] := ⟨by simpa using h, fun k hk => by simp at hk⟩
theorem Has.left {s : ByteArray} {i : Nat} {a b : List Int} (h : Has s i (a ++ b)) : Has s i a := by
  obtain ⟨h1, h2⟩ := h
  rw [List.length_append] at h1
  refine ⟨by omega, fun k hk => ?_⟩
  have := h2 k (by rw [List.length_append]; omega)
  rw [List.getD_eq_getElem?_getD, List.getElem?_append_left hk, ← List.getD_eq_getElem?_getD] at this
  exact this
theorem Has.right {s : ByteArray} {i : Nat} {a b : List Int} (h : Has s i (a ++ b)) : Has s (i + a.length) b := by
  obtain ⟨h1, h2⟩ := h
  rw [List.length_append] at h1
  refine ⟨by omega, fun k hk => ?_⟩
  have := h2 (a.length + k) (by rw [List.length_append]; omega)
  rw [List.getD_eq_getElem?_getD, List.getElem?_append_right (by omega), Nat.add_sub_cancel_left, ← Nat.add_assoc, ← List.getD_eq_getElem?_getD] at this
  exact this
theorem Has.head {s : ByteArray} {i : Nat} {c : Int} {l : List Int} (h : Has s i (c :: l)) : i < s.size ∧ (bt s i : Int) = c := by
  obtain ⟨h1, h2⟩ := h
  rw [List.length_cons] at h1
  exact ⟨by omega, h2 0 (by simp)⟩
theorem Has.tail {s : ByteArray} {i : Nat} {c : Int} {l : List Int} (h : Has s i (c :: l)) : Has s (i + 1) l := Has.right (a := [c]) h
theorem quo_cons (c : Int) (l : List Int) : quo (c :: l) = (if sp c then [92, c] else [c]) ++ quo l := by simp [quo]
/-- a part ends there -/
theorem part_has {s : ByteArray} : ∀ (l : List Int) (i : Nat), Has s i (quo l) → pch s (i + (quo l).length) = none → part s i = (l, i + (quo l).length)
  | [], i, _, hp => by
    simp only [quo, List.flatMap_nil, List.length_nil, Nat.add_zero] at hp ⊢
    exact part_none hp
  | c :: l, i, h, hp => by
    rw [quo_cons] at h hp ⊢
    by_cases hc : sp c = true
    · rw [if_pos hc] at h hp ⊢
      have h0 := h.left.head
      have h1 := h.left.tail.head
      have ih := part_has l (i + 2) (by have := h.right; simpa using this) (by rw [← hp]; congr 1; simp; omega)
      have hb : bt s i = 92 := by omega
      have e : pch s i = some (c, i + 2) := by
        unfold pch
        rw [if_pos h0.1, hb, if_neg (by decide), if_pos ⟨rfl, h1.1⟩, h1.2]
      rw [part_some e, ih]
      simp
      omega
    · rw [if_neg hc] at h hp ⊢
      have h0 := h.left.head
      have ih := part_has l (i + 1) (by have := h.right; simpa using this) (by rw [← hp]; congr 1; simp; omega)
      have e : pch s i = some (c, i + 1) := by
        unfold pch
        rw [if_pos h0.1, h0.2, if_pos (by simpa using hc)]
      rw [part_some e, ih]
      simp
      omega
theorem skp_here {s : ByteArray} {i : Nat} (h : bt s i ≠ 32) : skp s i = i := skp_no fun hh => h hh.2
theorem tk_and {s : ByteArray} {i : Nat} (h : i < s.size) (hb : bt s i = 38) : tk s i = ⟨1, 0, [], i, i + 1⟩ := by
  unfold tk
  rw [skp_here (by omega)]
  unfold tkA
  rw [if_neg (by omega), if_pos hb]
theorem tk_slash {s : ByteArray} {i : Nat} (h : i < s.size) (hb : bt s i = 47) : tk s i = ⟨4, 0, [], i, i + 1⟩ := by
  unfold tk
  rw [skp_here (by omega)]
  unfold tkA
  rw [if_neg (by omega), if_neg (by omega), if_pos hb]
theorem tk_equal {s : ByteArray} {i : Nat} (h : i < s.size) (hb : bt s i = 61) : tk s i = ⟨3, 0, [], i, i + 1⟩ := by
  unfold tk
  rw [skp_here (by omega)]
  unfold tkA
  rw [if_neg (by omega), if_neg (by omega), if_neg (by omega), if_pos hb]
theorem tk_less {s : ByteArray} {i : Nat} (h : i < s.size) (hb : bt s i = 60) : tk s i = ⟨3, lessN s i, [], i, i + lessN s i⟩ := by
  unfold tk
  rw [skp_here (by omega)]
  unfold tkA
  rw [if_neg (by omega), if_neg (by omega), if_neg (by omega), if_neg (by omega), if_pos hb]
/-- a sign, with what is no less behind it -/
theorem tk_sign {s : ByteArray} {i : Nat} {n : Nat} (hn : n ≤ 3) (h : Has s i (sgN n)) (hb : bt s (i + (sgN n).length) ≠ 60) : tk s i = ⟨3, n, [], i, i + (sgN n).length⟩ := by
  have : n = 0 ∨ n = 1 ∨ n = 2 ∨ n = 3 := by omega
  rcases this with rfl | rfl | rfl | rfl
  · have h0 := h.head
    exact tk_equal h0.1 (by omega)
  · have h0 := h.head
    have hb' : bt s (i + 1) ≠ 60 := hb
    have e : lessN s i = 1 := by unfold lessN; rw [if_neg hb']
    have := tk_less h0.1 (by omega)
    rw [e] at this
    exact this
  · have h0 := h.head
    have h1 := h.tail.head
    have hb' : bt s (i + 2) ≠ 60 := hb
    have e : lessN s i = 2 := by unfold lessN; rw [if_pos (by omega), if_neg hb']
    have := tk_less h0.1 (by omega)
    rw [e] at this
    exact this
  · have h0 := h.head
    have h1 := h.tail.head
    have h2 := h.tail.tail.head
    have h2' : bt s (i + 2) = 60 := by have := h2.2; rw [show i + 1 + 1 = i + 2 from rfl] at this; omega
    have e : lessN s i = 3 := by unfold lessN; rw [if_pos (by omega), if_pos h2']
    have := tk_less h0.1 (by omega)
    rw [e] at this
    exact this
theorem bt_strR (l : List Int) (h : ∀ x ∈ l, 0 ≤ x ∧ x ≤ 255) (p : Nat) : bt (strOfNums l) p = (l.getD p 0).toNat := by
  by_cases hp : p < l.length
  · have hs : p < (strOfNums l).size := by rw [strOfNums_size]; exact hp
    rw [bt_in hs]
    have hx := h l[p] (List.getElem_mem hp)
    have e : (strOfNums l)[p] = UInt8.ofNat (l[p]).toNat := by
      show (strOfNums l).data[p] = _
      simp [strOfNums]
    rw [e, List.getD, List.getElem?_eq_getElem hp]
    simp
    omega
  · rw [bt_out (by rw [strOfNums_size]; omega), List.getD, List.getElem?_eq_none (by omega)]
    rfl
theorem bt_strS (l : List Int) (h : ∀ x ∈ l, 0 ≤ x ∧ x ≤ 255) (p : Nat) (hp : p < l.length) : (bt (strOfNums l) p : Int) = l.getD p 0 := by
  rw [bt_strR l h p]
  have : l.getD p 0 ∈ l := by rw [List.getD_eq_getElem?_getD, List.getElem?_eq_getElem hp]; exact List.getElem_mem hp
  have := h _ this
  omega
theorem beN_in {n : Nat} : ∀ x ∈ beN n, 0 ≤ x ∧ x ≤ 255 := by
  unfold beN
  split <;> decide
theorem beN_10 {n : Nat} (h : 1 ≤ n) : (beN n).length = 10 := by
  match n, h with
  | 1, _ => rfl
  | 2, _ => rfl
  | _ + 3, _ => rfl
theorem beN_8 {n : Nat} (h1 : 1 ≤ n) (h3 : n ≤ 3) : (beN n).getD 8 0 = 48 + (n : Int) := by
  have hn' : n = 1 ∨ n = 2 ∨ n = 3 := by omega
  rcases hn' with rfl | rfl | rfl <;> rfl
theorem hasB_has {s : ByteArray} {i : Nat} {l : List Int} (hl : ∀ x ∈ l, 0 ≤ x ∧ x ≤ 255) (h : Has s i l) : hasB s i (strOfNums l) := by
  rw [hasB_iff]
  rw [strOfNums_size]
  refine ⟨h.1, fun k hk => ?_⟩
  have h1 := h.2 k hk
  have h2 := bt_strS l hl k hk
  omega
theorem befN_has {s : ByteArray} {i n : Nat} (h1 : 1 ≤ n) (h3 : n ≤ 3) (h : Has s i (beN n)) : befN s i = n := by
  have hB := hasB_has beN_in h
  have no : ∀ m, 1 ≤ m → m ≤ 3 → m ≠ n → ¬ hasB s i (strOfNums (beN m)) := fun m m1 m3 hmn hm => by
    have e1 := (hasB_iff.1 hm).2 8 (by rw [strOfNums_size, beN_10 m1]; omega)
    have e2 := (hasB_iff.1 hB).2 8 (by rw [strOfNums_size, beN_10 h1]; omega)
    have e3 := bt_strS (beN m) beN_in 8 (by rw [beN_10 m1]; omega)
    have e4 := bt_strS (beN n) beN_in 8 (by rw [beN_10 h1]; omega)
    rw [beN_8 m1 m3] at e3
    rw [beN_8 h1 h3] at e4
    omega
  unfold befN
  have hn' : n = 1 ∨ n = 2 ∨ n = 3 := by omega
  rcases hn' with rfl | rfl | rfl
  · rw [if_pos hB]
  · rw [if_neg (no 1 (by omega) (by omega) (by omega)), if_pos hB]
  · rw [if_neg (no 1 (by omega) (by omega) (by omega)), if_neg (no 2 (by omega) (by omega) (by omega)), if_pos hB]
theorem tk_bef {s : ByteArray} {i n : Nat} (h1 : 1 ≤ n) (h3 : n ≤ 3) (h : Has s i (beN n)) : tk s i = ⟨2, n, [], i, i + 10⟩ := by
  have hh : ∃ l, beN n = 91 :: l := by
    have hn' : n = 1 ∨ n = 2 ∨ n = 3 := by omega
    rcases hn' with rfl | rfl | rfl <;> exact ⟨_, rfl⟩
  obtain ⟨l, hl⟩ := hh
  have h0 := (hl ▸ h : Has s i (91 :: l)).head
  have hb : bt s i = 91 := by omega
  unfold tk
  rw [skp_here (by omega)]
  unfold tkA
  rw [if_neg (by omega), if_neg (by omega), if_neg (by omega), if_neg (by omega), if_neg (by omega), if_pos hb, befN_has h1 h3 h, if_neg (by omega)]
/-- the first byte of a part is none of the signs -/
theorem quo_head {s : ByteArray} {i : Nat} {l : List Int} (hl : l ≠ []) (h : Has s i (quo l)) : i < s.size ∧ bt s i ≠ 32 ∧ bt s i ≠ 38 ∧ bt s i ≠ 47 ∧ bt s i ≠ 61 ∧ bt s i ≠ 60 ∧ bt s i ≠ 91 := by
  cases l with
  | nil => exact absurd rfl hl
  | cons c l =>
    rw [quo_cons] at h
    by_cases hc : sp c = true
    · rw [if_pos hc] at h
      have h0 := h.left.head
      omega
    · rw [if_neg hc] at h
      have h0 := h.left.head
      rw [← h0.2] at hc
      refine ⟨h0.1, ?_, ?_, ?_, ?_, ?_, ?_⟩
      all_goals
        intro e
        rw [e] at hc
        exact hc rfl
theorem tk_part {s : ByteArray} {i : Nat} {l : List Int} (hl : l ≠ []) (h : Has s i (quo l)) (hp : pch s (i + (quo l).length) = none) : tk s i = ⟨5, 0, l, i, i + (quo l).length⟩ := by
  obtain ⟨h0, h1, h2, h3, h4, h5, h6⟩ := quo_head hl h
  have hq := part_has l i h hp
  have hne : (quo l).length ≠ 0 := by
    cases l with
    | nil => exact absurd rfl hl
    | cons c l =>
      rw [quo_cons]
      split <;> simp
  unfold tk
  rw [skp_here h1]
  unfold tkA
  rw [if_neg (by omega), if_neg h2, if_neg h3, if_neg h4, if_neg h5, if_neg h6, hq]
  rw [if_neg (by show i + _ ≠ i; omega)]
theorem pch_stop {s : ByteArray} {j : Nat} (h : s.size ≤ j ∨ bt s j = 38 ∨ bt s j = 60 ∨ bt s j = 61 ∨ bt s j = 32 ∨ bt s j = 47) : pch s j = none := by
  unfold pch
  by_cases hj : j < s.size
  · rw [if_pos hj]
    rcases h with h | h | h | h | h | h
    · omega
    all_goals
      rw [h, if_neg (by decide), if_neg (by omega)]
  · rw [if_neg hj]
/-- a rule may end there -/
def Stop (s : ByteArray) (j : Nat) : Prop := s.size ≤ j ∨ bt s j = 38 ∨ bt s j = 60 ∨ bt s j = 61 ∨ bt s j = 32
theorem rd_skp (s : ByteArray) (st i : Nat) (nx : Rl) (out : List Rl) : rd s ⟨st, i, nx, out⟩ = rd s ⟨st, skp s i, nx, out⟩ := by
  have hk := tk_skp s i
  cases ht : thn st (tk s i).kind with
  | none => rw [rd_bad (S := ⟨st, i, nx, out⟩) ht, rd_bad (S := ⟨st, skp s i, nx, out⟩) (by show thn st (tk s (skp s i)).kind = _; rw [hk]; exact ht)]; simp only; rw [hk]
  | some st' =>
    by_cases hl : lim st' < (tk s i).tx.length
    · rw [rd_part (S := ⟨st, i, nx, out⟩) ht hl, rd_part (S := ⟨st, skp s i, nx, out⟩) (st' := st') (by show thn st (tk s (skp s i)).kind = _; rw [hk]; exact ht) (by show lim st' < (tk s (skp s i)).tx.length; rw [hk]; exact hl)]; simp only; rw [hk]
    · by_cases h8 : st' = 8
      · subst h8
        rw [rd_end (S := ⟨st, i, nx, out⟩) ht, rd_end (S := ⟨st, skp s i, nx, out⟩) (by show thn st (tk s (skp s i)).kind = _; rw [hk]; exact ht)]
      · rw [rd_step (S := ⟨st, i, nx, out⟩) ht hl h8, rd_step (S := ⟨st, skp s i, nx, out⟩) (st' := st') (by show thn st (tk s (skp s i)).kind = _; rw [hk]; exact ht) (by show ¬ lim st' < (tk s (skp s i)).tx.length; rw [hk]; exact hl) h8]
        show rd s (adv ⟨st, i, nx, out⟩ st' (tk s i)) = rd s (adv ⟨st, skp s i, nx, out⟩ st' (tk s (skp s i)))
        rw [hk]
        rfl
theorem blC_nil {s : ByteArray} (h : s.size ≠ 0) : blC s ≠ [] := fun hh => by
  have := blC_len s
  rw [hh] at this
  exact h this.symm
theorem sz0 {s : ByteArray} (h : s.size = 0) : s = { data := #[] } := ByteArray.ext (Array.eq_empty_of_size_eq_zero h)
theorem thn_sg {st : Nat} (h : st = 3 ∨ st = 5 ∨ st = 7) : thn st 3 = some 4 := by unfold thn; rw [if_neg (by decide), if_neg (by decide), if_pos rfl, if_pos h]
/-- a relation is read back -/
theorem rel_rd {s : ByteArray} {st i : Nat} {nx : Rl} {out : List Rl} {x : Rl} (hok : x.ok) (hst : st = 3 ∨ st = 5 ∨ st = 7) (hx : nx.reset = x.reset ∧ nx.before = x.before ∧ nx.more = { data := #[] }) (h : Has s i (rt2 x ++ rt3 x)) (hs : Stop s (i + (rt2 x ++ rt3 x).length)) :
    ∃ st', (st' = 5 ∨ st' = 7) ∧ rd s ⟨st, i, nx, out⟩ = rd s ⟨st', i + (rt2 x ++ rt3 x).length, default, out ++ [x]⟩ := by
  obtain ⟨⟨k1, k2⟩, k3, k4, ⟨k5, k6⟩, ⟨k7, k8⟩, k9⟩ := hok
  obtain ⟨lv, hlv⟩ : ∃ k : Nat, x.level = (k : Int) := ⟨x.level.toNat, by omega⟩
  have e2 : rt2 x = sgN lv ++ quo (blC x.text) := by rw [rt2, hlv]; rfl
  have ht0 : blC x.text ≠ [] := blC_nil (by omega)
  rw [e2] at h hs ⊢
  have hsg := h.left.left
  have htx := h.left.right
  have hmo := h.right
  rw [List.length_append, ← Nat.add_assoc] at hmo
  obtain ⟨j, hj⟩ : ∃ j, j = i + (sgN lv).length := ⟨_, rfl⟩
  rw [← hj] at htx hmo
  have hq := quo_head ht0 htx
  have t1 := tk_sign (by omega) hsg (by rw [← hj]; exact hq.2.2.2.2.2.1)
  rw [← hj] at t1
  have r1 : rd s ⟨st, i, nx, out⟩ = rd s ⟨4, j, { nx with level := (lv : Int) }, out⟩ := by
    have := rd_step (s := s) (S := ⟨st, i, nx, out⟩) (st' := 4) (by show thn st (tk s i).kind = _; rw [t1]; exact thn_sg hst) (by show ¬ lim 4 < (tk s i).tx.length; rw [t1]; simp) (by decide)
    rw [this]
    show rd s (adv ⟨st, i, nx, out⟩ 4 (tk s i)) = _
    rw [t1]
    rfl
  obtain ⟨m, hm⟩ : ∃ m, m = j + (quo (blC x.text)).length := ⟨_, rfl⟩
  rw [← hm] at hmo
  have step2 : pch s m = none → rd s ⟨4, j, { nx with level := (lv : Int) }, out⟩ = rd s ⟨5, m, default, out ++ [{ nx with level := (lv : Int), text := x.text }]⟩ := fun hp => by
    have t2 := tk_part ht0 htx (by rw [← hm]; exact hp)
    rw [← hm] at t2
    have := rd_step (s := s) (S := ⟨4, j, { nx with level := (lv : Int) }, out⟩) (st' := 5) (by show thn 4 (tk s j).kind = _; rw [t2]; rfl) (by show ¬ lim 5 < (tk s j).tx.length; rw [t2]; show ¬ 3 < (blC x.text).length; rw [blC_len]; omega) (by decide)
    rw [this]
    show rd s (adv ⟨4, j, { nx with level := (lv : Int) }, out⟩ 5 (tk s j)) = _
    rw [t2]
    show rd s ⟨5, m, default, out ++ [{ nx with level := (lv : Int), text := strOfNums (blC x.text) }]⟩ = _
    rw [blC_str]
  by_cases hz : x.more.size = 0
  · have e3 : rt3 x = [] := by rw [rt3, if_pos hz]
    rw [e3, List.append_nil, List.length_append, ← Nat.add_assoc, ← hj, ← hm] at hs ⊢
    refine ⟨5, .inl rfl, ?_⟩
    rw [r1, step2 (pch_stop (by rcases hs with h | h | h | h | h <;> simp [h]))]
    have : x = { nx with level := (lv : Int), text := x.text } := by
      obtain ⟨xr, xb, xl, xt, xm⟩ := x
      obtain ⟨h1, h2, h3⟩ := hx
      simp only at h1 h2 hz hlv
      rw [sz0 hz, h1, h2, h3, hlv]
    rw [← this]
  · have e3 : rt3 x = 47 :: quo (blC x.more) := by rw [rt3, if_neg hz]; rfl
    rw [e3] at hmo hs ⊢
    have h0 := hmo.head
    have hb : bt s m = 47 := by omega
    have t3 := tk_slash h0.1 hb
    have r3 : rd s ⟨5, m, default, out ++ [{ nx with level := (lv : Int), text := x.text }]⟩ = rd s ⟨6, m + 1, default, out ++ [{ nx with level := (lv : Int), text := x.text }]⟩ := by
      have := rd_step (s := s) (S := ⟨5, m, default, out ++ [{ nx with level := (lv : Int), text := x.text }]⟩) (st' := 6) (by show thn 5 (tk s m).kind = _; rw [t3]; rfl) (by show ¬ lim 6 < (tk s m).tx.length; rw [t3]; simp) (by decide)
      rw [this]
      show rd s (adv ⟨5, m, default, _⟩ 6 (tk s m)) = _
      rw [t3]
      rfl
    have hend : i + (sgN lv ++ quo (blC x.text) ++ 47 :: quo (blC x.more)).length = m + 1 + (quo (blC x.more)).length := by
      rw [hm, hj]; simp; omega
    rw [hend] at hs ⊢
    have hm0 : blC x.more ≠ [] := blC_nil hz
    have t4 := tk_part hm0 hmo.tail (pch_stop (by rcases hs with h | h | h | h | h <;> simp [h]))
    refine ⟨7, .inr rfl, ?_⟩
    rw [r1, step2 (pch_stop (by simp [hb])), r3]
    have := rd_step (s := s) (S := ⟨6, m + 1, default, out ++ [{ nx with level := (lv : Int), text := x.text }]⟩) (st' := 7) (by show thn 6 (tk s (m + 1)).kind = _; rw [t4]; rfl) (by show ¬ lim 7 < (tk s (m + 1)).tx.length; rw [t4]; show ¬ 6 < (blC x.more).length; rw [blC_len]; omega) (by decide)
    rw [this]
    show rd s (adv ⟨6, m + 1, default, _⟩ 7 (tk s (m + 1))) = _
    rw [t4]
    show rd s ⟨7, m + 1 + (quo (blC x.more)).length, default, setMore (out ++ [{ nx with level := (lv : Int), text := x.text }]) (strOfNums (blC x.more))⟩ = _
    rw [setMore_snoc, blC_str]
    have : x = { nx with level := (lv : Int), text := x.text, more := x.more } := by
      obtain ⟨xr, xb, xl, xt, xm⟩ := x
      obtain ⟨h1, h2, h3⟩ := hx
      simp only at h1 h2 hlv
      rw [h1, h2, hlv]
    rw [← this]
/-- a rule is read back -/
theorem rule_rd {s : ByteArray} {st i : Nat} {out : List Rl} {x : Rl} (hok : x.ok) (hst : st = 0 ∨ st = 5 ∨ st = 7) (h0 : st = 0 → x.reset.size ≠ 0) (h : Has s i (rtx x)) (hs : Stop s (i + (rtx x).length)) :
    ∃ st', (st' = 5 ∨ st' = 7) ∧ rd s ⟨st, i, default, out⟩ = rd s ⟨st', i + (rtx x).length, default, out ++ [x]⟩ := by
  have hok' := hok
  obtain ⟨⟨k1, k2⟩, k3, k4, ⟨k5, k6⟩, ⟨k7, k8⟩, k9⟩ := hok'
  have er : rtx x = rt1 x ++ (rt2 x ++ rt3 x) := by rw [rtx, List.append_assoc]
  rw [er] at h hs ⊢
  rw [List.length_append, ← Nat.add_assoc] at hs ⊢
  have hr1 := h.left
  have hr2 := h.right
  by_cases hz : x.reset.size = 0
  · have e1 : rt1 x = [] := by rw [rt1, if_pos hz]
    rw [e1] at hr2 hs ⊢
    simp only [List.length_nil, Nat.add_zero] at hr2 hs ⊢
    have hb0 : x.before = 0 := by rcases k9 with h | h
                                  · exact h
                                  · exact absurd hz h
    exact rel_rd hok (by rcases hst with h | h | h
                         · exact absurd hz (h0 h)
                         · exact .inr (.inl h)
                         · exact .inr (.inr h)) ⟨(sz0 hz).symm, hb0.symm, rfl⟩ hr2 hs
  · obtain ⟨be, hbe⟩ : ∃ k : Nat, x.before = (k : Int) := ⟨x.before.toNat, by omega⟩
    have e1 : rt1 x = 38 :: (beN be ++ quo (blC x.reset)) := by rw [rt1, if_neg hz, hbe]; rfl
    have hm0 : blC x.reset ≠ [] := blC_nil hz
    have hd := (e1 ▸ hr1 : Has s i (38 :: (beN be ++ quo (blC x.reset))))
    have hh := hd.head
    have t1 := tk_and hh.1 (by omega)
    have r1 : rd s ⟨st, i, default, out⟩ = rd s ⟨1, i + 1, default, out⟩ := by
      have := rd_step (s := s) (S := ⟨st, i, default, out⟩) (st' := 1) (by show thn st (tk s i).kind = _; rw [t1]; exact thn_w hst rfl) (by show ¬ lim 1 < (tk s i).tx.length; rw [t1]; simp) (by decide)
      rw [this]
      show rd s (adv ⟨st, i, default, out⟩ 1 (tk s i)) = _
      rw [t1]
      rfl
    have hrs := hd.tail.right
    obtain ⟨j, hj⟩ : ∃ j, j = i + 1 + (beN be).length := ⟨_, rfl⟩
    rw [← hj] at hrs
    have hend : i + (rt1 x).length = j + (quo (blC x.reset)).length := by rw [e1, hj]; simp; omega
    rw [hend] at hr2 hs ⊢
    have hstop : pch s (j + (quo (blC x.reset)).length) = none := by
      have hsg := hr2.left
      rw [rt2] at hsg
      have hsg := hsg.left
      generalize x.level.toNat = lv at hsg
      have : ∃ c l, sgN lv = c :: l ∧ (c = 60 ∨ c = 61) := by
        unfold sgN
        split
        · exact ⟨_, _, rfl, .inr rfl⟩
        all_goals exact ⟨_, _, rfl, .inl rfl⟩
      obtain ⟨c, l, hc, hcc⟩ := this
      rw [hc] at hsg
      have := hsg.head
      exact pch_stop (by omega)
    have t3 := tk_part hm0 hrs hstop
    have r2 : rd s ⟨1, i + 1, default, out⟩ = rd s ⟨3, j + (quo (blC x.reset)).length, { (default : Rl) with reset := x.reset, before := x.before }, out⟩ := by
      by_cases hb0 : be = 0
      · subst hb0
        have hj' : i + 1 = j := by rw [hj]; rfl
        rw [hj']
        have := rd_step (s := s) (S := ⟨1, j, default, out⟩) (st' := 3) (by show thn 1 (tk s j).kind = _; rw [t3]; rfl) (by show ¬ lim 3 < (tk s j).tx.length; rw [t3]; show ¬ 6 < (blC x.reset).length; rw [blC_len]; omega) (by decide)
        rw [this]
        show rd s (adv ⟨1, j, default, out⟩ 3 (tk s j)) = _
        rw [t3]
        show rd s ⟨3, j + (quo (blC x.reset)).length, { (default : Rl) with reset := strOfNums (blC x.reset) }, out⟩ = _
        rw [blC_str, hbe]
        rfl
      · have t2 := tk_bef (by omega) (by omega) hd.tail.left
        have hj' : i + 1 + 10 = j := by rw [hj, beN_10 (by omega)]
        rw [hj'] at t2
        have := rd_step (s := s) (S := ⟨1, i + 1, default, out⟩) (st' := 2) (by show thn 1 (tk s (i + 1)).kind = _; rw [t2]; rfl) (by show ¬ lim 2 < (tk s (i + 1)).tx.length; rw [t2]; simp) (by decide)
        rw [this]
        show rd s (adv ⟨1, i + 1, default, out⟩ 2 (tk s (i + 1))) = _
        rw [t2]
        show rd s ⟨2, j, { (default : Rl) with before := (be : Int) }, out⟩ = _
        have := rd_step (s := s) (S := ⟨2, j, { (default : Rl) with before := (be : Int) }, out⟩) (st' := 3) (by show thn 2 (tk s j).kind = _; rw [t3]; rfl) (by show ¬ lim 3 < (tk s j).tx.length; rw [t3]; show ¬ 6 < (blC x.reset).length; rw [blC_len]; omega) (by decide)
        rw [this]
        show rd s (adv ⟨2, j, { (default : Rl) with before := (be : Int) }, out⟩ 3 (tk s j)) = _
        rw [t3]
        show rd s ⟨3, j + (quo (blC x.reset)).length, { (default : Rl) with reset := strOfNums (blC x.reset), before := (be : Int) }, out⟩ = _
        rw [blC_str, hbe]
    rw [r1, r2]
    exact rel_rd hok (.inl rfl) ⟨rfl, rfl, rfl⟩ hr2 hs
theorem rtx_head {x : Rl} : ∃ c l, rtx x = c :: l ∧ (c = 38 ∨ c = 60 ∨ c = 61) := by
  rw [rtx, List.append_assoc]
  unfold rt1
  split
  · rw [rt2]
    have : ∃ c l, sgN x.level.toNat = c :: l ∧ (c = 60 ∨ c = 61) := by
      unfold sgN
      split
      · exact ⟨_, _, rfl, .inr rfl⟩
      all_goals exact ⟨_, _, rfl, .inl rfl⟩
    obtain ⟨c, l, hc, hcc⟩ := this
    rw [hc]
    exact ⟨c, _, rfl, .inr hcc⟩
  · exact ⟨38, _, rfl, .inl rfl⟩
/-- rules are read back -/
theorem rls_rd {s : ByteArray} {f : Nat → Rl} {i : Nat} : ∀ n, (∀ j, j < n → (f j).first j) → Has s i (rls f n) → Stop s (i + (rls f n).length) →
    ∃ st, ((n = 0 ∧ st = 0) ∨ (0 < n ∧ (st = 5 ∨ st = 7))) ∧ rd s ⟨0, i, default, []⟩ = rd s ⟨st, i + (rls f n).length, default, (List.range n).map f⟩
  | 0, _, _, _ => ⟨0, .inl ⟨rfl, rfl⟩, rfl⟩
  | n + 1, hf, h, hs => by
    rw [rls_snoc] at h hs ⊢
    obtain ⟨c, l, hc, hcc⟩ := rtx_head (x := f n)
    have h2 := h.right
    have hd := (hc ▸ h2 : Has s (i + (rls f n).length) (c :: l)).head
    obtain ⟨st, hst, hr⟩ := rls_rd n (fun j hj => hf j (by omega)) h.left (by unfold Stop; omega)
    rw [List.length_append, ← Nat.add_assoc] at hs ⊢
    obtain ⟨st', hst', hr'⟩ := rule_rd (out := (List.range n).map f) (st := st) (hf n (by omega)).1 (by omega) (fun h0 => (hf n (by omega)).2 (by omega)) h2 hs
    refine ⟨st', .inr ⟨by omega, hst'⟩, ?_⟩
    rw [hr, hr', List.range_succ, List.map_append]
    rfl
/-- rules with spaces around them are read back -/
theorem rls_all {s : ByteArray} {f : Nat → Rl} {n i : Nat} (hf : ∀ j, j < n → (f j).first j) (hs : s.size ≤ 120) (h : Has s i (rls f n)) (h1 : ∀ k, k < i → bt s k = 32) (h2 : ∀ k, i + (rls f n).length ≤ k → k < s.size → bt s k = 32) : rdAll s = ((List.range n).map f, 0, 0) := by
  unfold rdAll
  rw [if_neg (by omega)]
  have hle := h.1
  have sk : ∀ m i0 e, e - i0 ≤ m → i0 ≤ e → e ≤ s.size → (∀ k, i0 ≤ k → k < e → bt s k = 32) → skp s i0 = skp s e := by
    intro m
    induction m with
    | zero => intro i0 e h1 h2 _ _; rw [show i0 = e by omega]
    | succ m ih =>
      intro i0 e h1 h2 h3 h4
      by_cases he : i0 = e
      · rw [he]
      · rw [skp_sp ⟨by omega, h4 i0 (by omega) (by omega)⟩]
        exact ih (i0 + 1) e (by omega) (by omega) h3 fun k k1 k2 => h4 k (by omega) k2
  have e1 : rd s ⟨0, 0, default, []⟩ = rd s ⟨0, i, default, []⟩ := by
    rw [rd_skp, sk i 0 i (by omega) (by omega) (by omega) (fun k _ hk => h1 k hk), ← rd_skp]
  obtain ⟨st, hst, hr⟩ := rls_rd n hf h (by
    unfold Stop
    by_cases hz : i + (rls f n).length < s.size
    · have := h2 _ (Nat.le_refl _) hz
      omega
    · omega)
  rw [e1, hr]
  have hz : skp s (i + (rls f n).length) = s.size := by
    rw [sk (s.size) _ s.size (by omega) hle (Nat.le_refl _) (fun k k1 k2 => h2 k k1 k2)]
    exact skp_no (by omega)
  have hk : (tk s (i + (rls f n).length)).kind = 7 := by unfold tk; rw [hz]; exact tkA_end.2 (Nat.le_refl _)
  rw [rd_end]
  show thn st (tk s (i + (rls f n).length)).kind = some 8
  rw [hk]
  unfold thn
  rw [if_neg (by decide), if_neg (by decide), if_neg (by decide), if_neg (by decide), if_pos rfl, if_pos (by omega)]

end Go.Proofs.YtpclldccjpncdabGreat

namespace Go.Proofs.YtpclldccjpncdabGreat
open Go.RowKit

/-! the table of words -/
def wdl : Nat → List Int
  | 0 => [38]
  | 1 => [47]
  | 2 => [61]
  | 3 => [60, 60, 60]
  | 4 => [60, 60]
  | 5 => [60]
  | 6 => beN 1
  | 7 => beN 2
  | _ => beN 3
def wk : Nat → Nat
  | 0 => 1
  | 1 => 4
  | 2 => 3
  | 3 => 3
  | 4 => 3
  | 5 => 3
  | _ => 2
def wn : Nat → Nat
  | 0 => 0
  | 1 => 0
  | 2 => 0
  | 3 => 3
  | 4 => 2
  | 5 => 1
  | 6 => 1
  | 7 => 2
  | _ => 3
theorem wl_in (k : Nat) : ∀ x ∈ wdl k, 0 ≤ x ∧ x ≤ 255 := by
  unfold wdl
  split <;> first | exact beN_in | decide
theorem wl_len (k : Nat) : 1 ≤ (wdl k).length ∧ (wdl k).length ≤ 10 := by
  unfold wdl
  split <;> decide
theorem has_hasB {s : ByteArray} {i : Nat} {l : List Int} (hl : ∀ x ∈ l, 0 ≤ x ∧ x ≤ 255) (h : hasB s i (strOfNums l)) : Has s i l := by
  rw [hasB_iff, strOfNums_size] at h
  refine ⟨h.1, fun k hk => ?_⟩
  have h1 := h.2 k hk
  have h2 := bt_strS l hl k hk
  omega
def wd (k : Nat) : ByteArray := strOfNums (wdl k)
theorem wd_has {s : ByteArray} {a k : Nat} : hasB s a (wd k) ↔ Has s a (wdl k) := ⟨has_hasB (wl_in k), hasB_has (wl_in k)⟩
theorem has_one {s : ByteArray} {a : Nat} {c : Int} (h : a < s.size) (hb : (bt s a : Int) = c) : Has s a [c] := ⟨by show a + 1 ≤ _; omega, fun k hk => by
  have hk0 : k = 0 := by simp at hk; omega
  subst hk0
  simpa using hb⟩
theorem has_cons {s : ByteArray} {a : Nat} {c : Int} {l : List Int} (_h : a < s.size) (hb : (bt s a : Int) = c) (ht : Has s (a + 1) l) : Has s a (c :: l) := by
  refine ⟨by have := ht.1; rw [List.length_cons]; omega, fun k hk => ?_⟩
  cases k with
  | zero => simpa using hb
  | succ k =>
    have := ht.2 k (by simpa using hk)
    rw [show a + (k + 1) = a + 1 + k by omega]
    simpa using this
/-- the first word that stands there -/
theorem wd_first {s : ByteArray} {a k : Nat} (ha : a < s.size) (hk : k < 9) (h : hasB s a (wd k)) (hn : ∀ j, j < k → ¬ hasB s a (wd j)) : tkA s a = ⟨wk k, wn k, [], a, a + (wd k).size⟩ := by
  have hh := wd_has.1 h
  have hx : (wd k).size = (wdl k).length := by rw [wd, strOfNums_size]
  rw [hx]
  have cs : k = 0 ∨ k = 1 ∨ k = 2 ∨ k = 3 ∨ k = 4 ∨ k = 5 ∨ k = 6 ∨ k = 7 ∨ k = 8 := by omega
  rcases cs with rfl | rfl | rfl | rfl | rfl | rfl | rfl | rfl | rfl
  · have h0 : bt s a = 38 := by have := hh.head.2; omega
    unfold tkA
    rw [if_neg (by omega), if_pos h0]
    rfl
  · have h0 : bt s a = 47 := by have := hh.head.2; omega
    unfold tkA
    rw [if_neg (by omega), if_neg (by omega), if_pos h0]
    rfl
  · have h0 : bt s a = 61 := by have := hh.head.2; omega
    unfold tkA
    rw [if_neg (by omega), if_neg (by omega), if_neg (by omega), if_pos h0]
    rfl
  · have h0 : bt s a = 60 := by have := hh.head.2; omega
    have h1 : bt s (a + 1) = 60 := by have := hh.tail.head.2; omega
    have h2 : bt s (a + 2) = 60 := by have := hh.tail.tail.head.2; rw [show a + 1 + 1 = a + 2 from rfl] at this; omega
    have hl : lessN s a = 3 := by unfold lessN; rw [if_pos h1, if_pos h2]
    unfold tkA
    rw [if_neg (by omega), if_neg (by omega), if_neg (by omega), if_neg (by omega), if_pos h0, hl]
    rfl
  · have h0 : bt s a = 60 := by have := hh.head.2; omega
    have h1 : bt s (a + 1) = 60 := by have := hh.tail.head.2; omega
    have h2 : bt s (a + 2) ≠ 60 := fun h2 => hn 3 (by omega) (wd_has.2 (has_cons ha (by omega) (has_cons (by have := hh.1; simp [wdl] at this; omega) (by omega) (has_one (bt_pos (by rw [show a + 1 + 1 = a + 2 from rfl]; omega)) (by rw [show a + 1 + 1 = a + 2 from rfl]; omega)))))
    have hl : lessN s a = 2 := by unfold lessN; rw [if_pos h1, if_neg h2]
    unfold tkA
    rw [if_neg (by omega), if_neg (by omega), if_neg (by omega), if_neg (by omega), if_pos h0, hl]
    rfl
  · have h0 : bt s a = 60 := by have := hh.head.2; omega
    have h1 : bt s (a + 1) ≠ 60 := fun h1 => hn 4 (by omega) (wd_has.2 (has_cons ha (by omega) (has_one (bt_pos (by omega)) (by omega))))
    have hl : lessN s a = 1 := by unfold lessN; rw [if_neg h1]
    unfold tkA
    rw [if_neg (by omega), if_neg (by omega), if_neg (by omega), if_neg (by omega), if_pos h0, hl]
    rfl
  · have h0 : bt s a = 91 := by have := Has.head (c := 91) hh; omega
    have hl : befN s a = 1 := befN_has (by omega) (by omega) hh
    unfold tkA
    rw [if_neg (by omega), if_neg (by omega), if_neg (by omega), if_neg (by omega), if_neg (by omega), if_pos h0, hl, if_neg (by omega)]
    rfl
  · have h0 : bt s a = 91 := by have := Has.head (c := 91) hh; omega
    have hl : befN s a = 2 := befN_has (by omega) (by omega) hh
    unfold tkA
    rw [if_neg (by omega), if_neg (by omega), if_neg (by omega), if_neg (by omega), if_neg (by omega), if_pos h0, hl, if_neg (by omega)]
    rfl
  · have h0 : bt s a = 91 := by have := Has.head (c := 91) hh; omega
    have hl : befN s a = 3 := befN_has (by omega) (by omega) hh
    unfold tkA
    rw [if_neg (by omega), if_neg (by omega), if_neg (by omega), if_neg (by omega), if_neg (by omega), if_pos h0, hl, if_neg (by omega)]
    rfl
/-- no word stands there -/
theorem wd_none {s : ByteArray} {a : Nat} (ha : a < s.size) (hn : ∀ j, j < 9 → ¬ hasB s a (wd j)) : tkA s a = if (part s a).2 = a then ⟨6, 0, [], a, a + 1⟩ else ⟨5, 0, (part s a).1, a, (part s a).2⟩ := by
  have h38 : bt s a ≠ 38 := fun h => hn 0 (by omega) (wd_has.2 (has_one ha (by omega)))
  have h47 : bt s a ≠ 47 := fun h => hn 1 (by omega) (wd_has.2 (has_one ha (by omega)))
  have h61 : bt s a ≠ 61 := fun h => hn 2 (by omega) (wd_has.2 (has_one ha (by omega)))
  have h60 : bt s a ≠ 60 := fun h => hn 5 (by omega) (wd_has.2 (has_one ha (by omega)))
  unfold tkA
  rw [if_neg (by omega), if_neg h38, if_neg h47, if_neg h61, if_neg h60]
  by_cases h91 : bt s a = 91
  · have hb : befN s a = 0 := by
      unfold befN
      rw [if_neg (show ¬ hasB s a (strOfNums (beN 1)) from hn 6 (by omega)), if_neg (show ¬ hasB s a (strOfNums (beN 2)) from hn 7 (by omega)), if_neg (show ¬ hasB s a (strOfNums (beN 3)) from hn 8 (by omega))]
    have hp : pch s a = none := by
      unfold pch
      rw [if_pos ha, h91, if_neg (by decide), if_neg (by omega)]
    rw [if_pos h91, if_pos hb, part_none hp, if_pos rfl]
  · rw [if_neg h91]

end Go.Proofs.YtpclldccjpncdabGreat

namespace Go.Proofs.YtpclldccjpncdabGreat
open Go.RowKit

theorem sizeRtkC : (Tryz.prog.info? 82).map (·.size) = some 5 := by kernel_rfl
def rtk0 : Nat → Value := fun i => #[Value.int .i64 0, .int .i64 0, .int .i64 0, .int .i64 0, .string ByteArray.empty].getD i undef
theorem fin5d {P : Program} {fn : Func} {p : Tmp} {ty : TypeId} {w0 W : World} {B g : Nat} {f : Nat → Value} {v0 v1 v2 v3 v4 v : Value} {d : TypeDesc} {tmps : Array Value} (h : fn.results = #[.cell p ty]) (hp : tmps.getD p undef = .pointer (some ⟨g, 0, none⟩)) (hg : W.rowIs g ty 5 f)
    (hu : P.underlying ty = some d) (hd : (match d with | .struct _ | .array _ _ => true | _ => false) = true) (hi : (P.info? ty).map (·.size) = some 5) (hb : Below B w0 W) (hB : B ≤ g) (hv : v = .agg #[v0, v1, v2, v3, v4]) :
    bodyPost P fn (fun e w' => e = .returned v ∧ Below B w0 w') Exit.ret { tmps := tmps, defers := [] } (set5 W g v0 v1 v2 v3 v4).drew := by
  have hr := World.rowIs.drew (((((hg.set 0 v0).set 1 v1).set 2 v2).set 3 v3).set 4 v4)
  have := res5 (P := P) h tmps g _ d hp hr hu hd hi
  exact bodyPost_ret this rfl ⟨by rw [hv]; rfl, ((set5_only W g v0 v1 v2 v3 v4).below hb hB).drew⟩
/-- the three lists of the table -/
def tabA : Array Value := #[.string { data := #[38] }, .string { data := #[47] }, .string { data := #[61] }, .string { data := #[60, 60, 60] }, .string { data := #[60, 60] }, .string { data := #[60] }, .string { data := #[91, 98, 101, 102, 111, 114, 101, 32, 49, 93] }, .string { data := #[91, 98, 101, 102, 111, 114, 101, 32, 50, 93] }, .string { data := #[91, 98, 101, 102, 111, 114, 101, 32, 51, 93] }]
def tabB : Array Value := #[.int .i64 1, .int .i64 4, .int .i64 3, .int .i64 3, .int .i64 3, .int .i64 3, .int .i64 2, .int .i64 2, .int .i64 2]
def tabC : Array Value := #[.int .i64 0, .int .i64 0, .int .i64 0, .int .i64 3, .int .i64 2, .int .i64 1, .int .i64 1, .int .i64 2, .int .i64 3]
def tabW (w : World) : World := ((w.alloc (.cells tabA 9)).alloc (.cells tabB 3)).alloc (.cells tabC 3)
theorem tabW_size (w : World) : (tabW w).heap.size = w.heap.size + 3 := by simp [tabW]
theorem tabW_below (w : World) : Below w.heap.size w (tabW w) := below_then (below_then (below_one _) (below_one _)) (below_one _)
theorem tabW_cells (w : World) {k : Nat} (hk : k < 9) : (tabW w).cell? ⟨w.heap.size, k, none⟩ = some (.string (wd k)) ∧ (tabW w).cell? ⟨w.heap.size + 1, k, none⟩ = some (.int .i64 (wk k : Nat)) ∧ (tabW w).cell? ⟨w.heap.size + 2, k, none⟩ = some (.int .i64 (wn k : Nat)) := by
  have z1 : (w.alloc (.cells tabA 9)).heap.size = w.heap.size + 1 := by simp
  have z2 : ((w.alloc (.cells tabA 9)).alloc (.cells tabB 3)).heap.size = w.heap.size + 2 := by simp
  have r1 := ((row_new w tabA 9 9 rfl).alloc (.cells tabB 3)).alloc (.cells tabC 3)
  have c1 := r1.cell (i := k) hk
  have r2 := (row_new (w.alloc (.cells tabA 9)) tabB 3 9 rfl).alloc (.cells tabC 3)
  rw [z1] at r2
  have c2 := r2.cell (i := k) hk
  have r3 := row_new ((w.alloc (.cells tabA 9)).alloc (.cells tabB 3)) tabC 3 9 rfl
  rw [z2] at r3
  have c3 := r3.cell (i := k) hk
  refine ⟨c1.trans ?_, c2.trans ?_, c3.trans ?_⟩
  all_goals
    have cs : k = 0 ∨ k = 1 ∨ k = 2 ∨ k = 3 ∨ k = 4 ∨ k = 5 ∨ k = 6 ∨ k = 7 ∨ k = 8 := by omega
    rcases cs with rfl | rfl | rfl | rfl | rfl | rfl | rfl | rfl | rfl <;> rfl

set_option maxRecDepth 100000 in
set_option maxHeartbeats 2000000 in
theorem refToken_any (s : ByteArray) (i : Nat) (w : World) (hs : s.size ≤ 1000) (hi : i ≤ s.size) :
    Calls Tryz.prog 54 #[.string s, .int .i64 (i : Nat)] w fun e w' => e = .returned (.agg #[.int .i64 ((tk s i).kind : Nat), .int .i64 ((tk s i).at' : Nat), .int .i64 ((tk s i).fin : Nat), .int .i64 ((tk s i).n : Nat), .string (strOfNums (tk s i).tx)]) ∧ Below w.heap.size w w' := by
  obtain ⟨v, hv⟩ : ∃ v, v = Value.agg #[.int .i64 ((tk s i).kind : Nat), .int .i64 ((tk s i).at' : Nat), .int .i64 ((tk s i).fin : Nat), .int .i64 ((tk s i).n : Nat), .string (strOfNums (tk s i).tx)] := ⟨_, rfl⟩
  obtain ⟨a, ha⟩ : ∃ a, a = skp s i := ⟨_, rfl⟩
  have hle : a ≤ s.size := by rw [ha]; exact skp_le hi
  have HV : Hid (∀ t, tkA s a = t → v = Value.agg #[.int .i64 (t.kind : Nat), .int .i64 (t.at' : Nat), .int .i64 (t.fin : Nat), .int .i64 (t.n : Nat), .string (strOfNums t.tx)]) := fun t ht => by
    rw [hv, show tk s i = t by rw [← ht, ha]; rfl]
  rw [← hv]
  clear hv
  have HA : Hid (a = skp s i) := ha
  clear ha
  obtain ⟨W, hW⟩ : ∃ W, W = w.alloc (.cells #[.int .i64 0, .int .i64 0, .int .i64 0, .int .i64 0, .string ByteArray.empty] 82) := ⟨_, rfl⟩
  have HW : Hid (W = w.alloc (.cells #[.int .i64 0, .int .i64 0, .int .i64 0, .int .i64 0, .string ByteArray.empty] 82)) := hW
  have HWS : Hid (W.heap.size = w.heap.size + 1) := by show _ = _; rw [hW]; simp
  have HR : Hid (W.rowIs w.heap.size 82 5 rtk0) := by show World.rowIs _ _ _ _ _; rw [hW]; exact row_new _ _ _ 5 rfl
  have HB : Hid (Below w.heap.size w W) := by show Below _ _ _; rw [hW]; exact below_one _
  clear hW
  go_enter Tryz.func54, Tryz.ntmps54
  go_wp2
  go_loopw [1] (fun iv wr => ∃ j : Nat, Hid (a = skp s j) ∧ j ≤ s.size ∧ iv = .int .i64 (j : Nat) ∧ wr = W) (fun iv _ => s.size - (intOf iv).toNat)
  case atStart => exact ⟨i, HA, hi, rfl, HW.out.symm⟩
  case round =>
    obtain ⟨j, HJ, hj, rfl, hw⟩ := hrel
    obtain rfl := hw.symm
    clear hw
    by_cases hmore : j < s.size ∧ bt s j = 32
    · obtain ⟨hlt, hx⟩ := hmore
      have hbi := bt_in hlt
      have hxs : ((s[j]'hlt).toNat : Int) = 32 := by rw [← hbi, hx]; rfl
      have HN : Hid (a = skp s (j + 1)) := by show _ = _; rw [HJ.out]; exact skp_sp ⟨hlt, hx⟩
      clear hbi hx
      go_wp2
      go_roundw
      case rel => exact ⟨j + 1, HN, by omega, by go_num, by trivial⟩
      case measure => simp [intOf]; omega
    · have hja : j = a := by rw [HJ.out]; exact (skp_no hmore).symm
      subst hja
      by_cases hlt : j < s.size
      · have hbi := bt_in hlt
        obtain ⟨x, hx⟩ : ∃ x, x = bt s j := ⟨_, rfl⟩
        have hxs : ((s[j]'hlt).toNat : Int) = x := by rw [hx, hbi]
        have h32 : ((x : Int) == 32) = false := beq_eq_false_iff_ne.2 (by omega)
        obtain ⟨V, hV⟩ : ∃ V, V = tabW W := ⟨_, rfl⟩
        have HVS : Hid (V.heap.size = w.heap.size + 4) := by show _ = _; rw [hV, tabW_size, HWS.out]
        have HVC : Hid (∀ k, k < 9 → V.cell? ⟨W.heap.size, k, none⟩ = some (.string (wd k)) ∧ V.cell? ⟨W.heap.size + 1, k, none⟩ = some (.int .i64 (wk k : Nat)) ∧ V.cell? ⟨W.heap.size + 2, k, none⟩ = some (.int .i64 (wn k : Nat))) := fun k hk => by rw [hV]; exact tabW_cells W hk
        have HVR : Hid (V.rowIs w.heap.size 82 5 rtk0) := by show World.rowIs _ _ _ _ _; rw [hV]; exact HR.out.of_block ((tabW_below W).block _ (by rw [HWS.out]; omega))
        have HVB : Hid (Below w.heap.size w V) := by show Below _ _ _; rw [hV]; exact below_then HB.out (tabW_below W)
        have HVE : Hid (V = tabW W) := hV
        clear hbi hx hmore hV
        have d2 : decide (s.size ≤ j) = false := by simp; omega
        have d3 : decide ((s.size : Int) ≤ (j : Int)) = false := by simp; omega
        go_wp2
        go_loopw [8] (fun kv wr => ∃ k : Nat, Hid (∀ m, m < k → ¬ hasB s j (wd m)) ∧ k ≤ 9 ∧ kv = .int .i64 (k : Nat) ∧ wr = V) (fun kv _ => 9 - (intOf kv).toNat)
        case atStart => exact ⟨0, fun m hm => by omega, by omega, rfl, HVE.out.symm⟩
        case round =>
          obtain ⟨k, HN, hk, rfl, hw⟩ := hrel
          obtain rfl := hw.symm
          clear hw
          by_cases hk9 : k < 9
          · obtain ⟨c1, c2, c3⟩ := HVC.out k hk9
            obtain ⟨u, hu⟩ : ∃ u, u = wd k := ⟨_, rfl⟩
            obtain ⟨bb, hbb⟩ : ∃ b, b = decide (hasB s j u) := ⟨_, rfl⟩
            have hul : u.size ≤ 10 := by rw [hu, wd, strOfNums_size]; exact (wl_len k).2
            have HBG : Hid (∀ wz, Calls Tryz.prog 80 #[.string s, .int .i64 (j : Nat), .string u] wz fun e w' => e = .returned (.bool bb) ∧ w' = wz) := fun wz => by
              rw [hbb]
              exact begins_any s u j wz hs (by omega) hj
            rw [← hu] at c1
            by_cases hh : hasB s j u
            · have hb1 : bb = true := by rw [hbb]; exact decide_eq_true hh
              subst hb1
              obtain ⟨kk, hkk⟩ : ∃ x, x = wk k := ⟨_, rfl⟩
              obtain ⟨kn, hkn⟩ : ∃ x, x = wn k := ⟨_, rfl⟩
              rw [← hkk] at c2
              rw [← hkn] at c3
              have HE : Hid (v = Value.agg #[.int .i64 (kk : Nat), .int .i64 (j : Nat), .int .i64 ((j + u.size : Nat) : Int), .int .i64 (kn : Nat), .string (strOfNums [])]) := by
                show _ = _
                rw [hkk, hkn, hu]
                exact HV.out _ (wd_first hlt hk9 (by rw [← hu]; exact hh) HN.out)
              obtain ⟨⟨d0, d1, d2, d3, d4⟩, f0, f1, f2, f3, f4⟩ := row5F HVR.out
              have hk0 : (k : Int) < 9 := by omega
              have hk1 : (0 : Int) ≤ (k : Int) := by omega
              clear hbb hu hh hkk hkn
              go_wp2_with fail
              refine (HBG.out _).mono ?_
              rintro e w1 ⟨rfl, hw1⟩
              obtain rfl := hw1.symm
              clear hw1
              go_wp2
              go_region
              go_wp2
              exact fin5d rfl (by rfl) HVR.out Tryz.underlying82 rfl sizeRtkC HVB.out (Nat.le_refl _) (by rw [HE.out]; simp; rfl)
            · have hb1 : bb = false := by rw [hbb]; exact decide_eq_false hh
              subst hb1
              have HN' : Hid (∀ m, m < k + 1 → ¬ hasB s j (wd m)) := fun m hm => by
                by_cases e : m = k
                · rw [e, ← hu]; exact hh
                · exact HN.out m (by omega)
              have hk0 : (k : Int) < 9 := by omega
              have hk1 : (0 : Int) ≤ (k : Int) := by omega
              clear hbb hu hh c2 c3
              go_wp2_with fail
              refine (HBG.out _).mono ?_
              rintro e w1 ⟨rfl, hw1⟩
              obtain rfl := hw1.symm
              clear hw1
              go_wp2
              go_roundw
              case rel =>
                exact ⟨k + 1, HN', by omega, by go_num, by trivial⟩
              case measure => simp [intOf]; omega
          · have hk' : k = 9 := by omega
            subst hk'
            obtain ⟨pt, hpt⟩ : ∃ x, x = strOfNums (part s j).1 := ⟨_, rfl⟩
            obtain ⟨pf, hpf⟩ : ∃ x, x = (part s j).2 := ⟨_, rfl⟩
            have HPT : Hid (∀ wz, Calls Tryz.prog 81 #[.string s, .int .i64 (j : Nat)] wz fun e w' => e = .returned (.tuple #[.string pt, .int .i64 (pf : Nat)]) ∧ Below wz.heap.size wz w') := fun wz => by rw [hpt, hpf]; exact part_any s j wz hs hj
            have hpfl : pf ≤ s.size := by rw [hpf]; exact part_le hj
            have HT : Hid (tkA s j = if (part s j).2 = j then ⟨6, 0, [], j, j + 1⟩ else ⟨5, 0, (part s j).1, j, (part s j).2⟩) := wd_none hlt HN.out
            by_cases hpj : pf = j
            · have HE : Hid (v = Value.agg #[.int .i64 6, .int .i64 (j : Nat), .int .i64 ((j + 1 : Nat) : Int), .int .i64 0, .string (strOfNums [])]) := by
                have ht := HT.out
                rw [if_pos (by rw [← hpf]; exact hpj)] at ht
                exact HV.out _ ht
              have hpj' : ((pf : Int) == (j : Int)) = true := by simp [hpj]
              clear hpt hpf hpj
              go_wp2_with fail
              refine (HPT.out _).mono ?_
              rintro e w2 ⟨rfl, hb2⟩
              have HR2 : Hid (w2.rowIs w.heap.size 82 5 rtk0) := HVR.out.of_block (hb2.block _ (by rw [HVS.out]; omega))
              have HB2 : Hid (Below w.heap.size w w2) := below_then HVB.out hb2
              obtain ⟨⟨d0, d1, d2, d3, d4⟩, f0, f1, f2, f3, f4⟩ := row5F HR2.out
              clear hb2
              go_wp2
              exact fin5 rfl (by rfl) HR2.out Tryz.underlying82 rfl sizeRtkC HB2.out (Nat.le_refl _) (by rw [HE.out]; simp; rfl)
            · have HE : Hid (v = Value.agg #[.int .i64 5, .int .i64 (j : Nat), .int .i64 (pf : Nat), .int .i64 0, .string pt]) := by
                have ht := HT.out
                rw [if_neg (by rw [← hpf]; exact hpj)] at ht
                have := HV.out _ ht
                simp only at this
                rw [← hpt, ← hpf] at this
                exact this
              have hpj' : ((pf : Int) == (j : Int)) = false := beq_eq_false_iff_ne.2 (by omega)
              clear hpt hpf hpj
              go_wp2_with fail
              refine (HPT.out _).mono ?_
              rintro e w2 ⟨rfl, hb2⟩
              have HR2 : Hid (w2.rowIs w.heap.size 82 5 rtk0) := HVR.out.of_block (hb2.block _ (by rw [HVS.out]; omega))
              have HB2 : Hid (Below w.heap.size w w2) := below_then HVB.out hb2
              obtain ⟨⟨d0, d1, d2, d3, d4⟩, f0, f1, f2, f3, f4⟩ := row5F HR2.out
              clear hb2
              go_wp2
              exact fin5 rfl (by rfl) HR2.out Tryz.underlying82 rfl sizeRtkC HB2.out (Nat.le_refl _) (by rw [HE.out] <;> rfl)
      · have hje : j = s.size := by omega
        have HE : Hid (v = Value.agg #[.int .i64 7, .int .i64 (s.size : Nat), .int .i64 (s.size : Nat), .int .i64 0, .string (strOfNums [])]) := by
          have := HV.out ⟨7, 0, [], j, j⟩ (by unfold tkA; rw [if_pos (by omega)])
          rw [hje] at this
          exact this
        obtain ⟨⟨d0, d1, d2, d3, d4⟩, f0, f1, f2, f3, f4⟩ := row5F HR.out
        clear hmore hje
        go_wp2
        exact fin5 rfl (by rfl) HR.out Tryz.underlying82 rfl sizeRtkC HB.out (Nat.le_refl _) (by rw [HE.out] <;> rfl)

end Go.Proofs.YtpclldccjpncdabGreat
