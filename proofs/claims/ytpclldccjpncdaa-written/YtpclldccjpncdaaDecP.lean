import Derived.Test.YtpclldccjpncdaaValid
import Derived.Test.YtpclldccjpncdaaPieces
import Derived.Test.YtpclldccjpncdaaRows2
import Derived.Test.YtpclldccjpncdaaOwnC
namespace Go.Proofs.Ytpclldccjpncdaa
open Go.RowKit

/-- the byte at a place, 0 behind the end -/
def bt (s : ByteArray) (p : Nat) : Nat := if h : p < s.size then (s[p]'h).toNat else 0
theorem bt_in {s : ByteArray} {p : Nat} (h : p < s.size) : bt s p = (s[p]'h).toNat := by simp [bt, h]
theorem bt_out {s : ByteArray} {p : Nat} (h : s.size ≤ p) : bt s p = 0 := by simp [bt, Nat.not_lt.2 h]
theorem bt_le (s : ByteArray) (p : Nat) : bt s p ≤ 255 := by
  unfold bt
  split
  · have := UInt8.toNat_lt (s[p]); omega
  · omega

/-! what a text tells, at all texts -/
def dn (s : ByteArray) : Nat := bt s 0
def q0 (s : ByteArray) : Nat := 1 + dn s * 3
def dm (s : ByteArray) : Nat := bt s (q0 s)
def nxt (s : ByteArray) (p : Nat) : Nat := p + 1 + bt s p + 1 + bt s (p + 1 + bt s p)
def epos (s : ByteArray) : Nat → Nat
  | 0 => q0 s + 1
  | i + 1 => nxt s (epos s i)
def tak (s : ByteArray) (p k : Nat) : ByteArray := if p + k ≤ s.size then sub s p k else ByteArray.empty
def dtx (s : ByteArray) (i : Nat) : ByteArray := tak s (epos s i + 1) (bt s (epos s i))
def dkp (s : ByteArray) (i : Nat) : Nat := epos s i + 1 + bt s (epos s i)
def dk (s : ByteArray) (i : Nat) : Nat := bt s (dkp s i)
def dz (s : ByteArray) (i j : Nat) : Int := (bt s (dkp s i + 1 + j) : Nat)
def dp (s : ByteArray) (i : Nat) : Int := (bt s (1 + i * 3) : Nat)
def ds (s : ByteArray) (i : Nat) : Int := (bt s (1 + i * 3 + 1) : Nat)
def dt (s : ByteArray) (i : Nat) : Int := (bt s (1 + i * 3 + 2) : Nat)
/-- of the form -/
def good (s : ByteArray) : Prop := epos s (dm s) = s.size
/-- the table that is told, wherever its lists lie -/
def dL (s : ByteArray) : Lay := { n := dn s, m := dm s, na := none, ea := none, nc := 0, ec := 0, nb := 0, no := 0, eb := 0, eo := 0, p := dp s, s := ds s, t := dt s, tx := dtx s, la := fun _ => none, k := dk s, lc := fun _ => 0, lb := fun _ => 0, lo := fun _ => 0, z := dz s }
open Classical in
noncomputable def decE (s : ByteArray) : Int := if good s then (dL s).err else 7
theorem decE_bad {s : ByteArray} (h : ¬ good s) : decE s = 7 := by simp [decE, h]
theorem decE_good {s : ByteArray} (h : good s) : decE s = (dL s).err := by simp [decE, h]

theorem nxt_le (s : ByteArray) (p : Nat) : p + 2 ≤ nxt s p := by unfold nxt; omega
theorem epos_step (s : ByteArray) (i : Nat) : epos s (i + 1) = dkp s i + 1 + dk s i := rfl
theorem epos_up (s : ByteArray) (i : Nat) : ∀ j, i ≤ j → epos s i ≤ epos s j
  | 0, h => by have : i = 0 := by omega
               rw [this]; exact Nat.le_refl _
  | j + 1, h => by
    by_cases e : i = j + 1
    · rw [e]; exact Nat.le_refl _
    · have h1 := epos_up s i j (by omega)
      have h2 := nxt_le s (epos s j)
      show epos s i ≤ nxt s (epos s j)
      omega
theorem bad_nodes {s : ByteArray} (h : s.size < q0 s + 1) : ¬ good s := fun g => by
  have := epos_up s 0 (dm s) (Nat.zero_le _)
  unfold good at g
  rw [g] at this
  have e : epos s 0 = q0 s + 1 := rfl
  omega
theorem bad_entry {s : ByteArray} {i : Nat} (hi : i < dm s) (h : s.size < epos s (i + 1)) : ¬ good s := fun g => by
  have := epos_up s (i + 1) (dm s) (by omega)
  unfold good at g
  omega

set_option maxHeartbeats 1000000 in
theorem counted_any (s : ByteArray) (p z : Nat) (w : World) (hs : s.size ≤ 140737488351232) (hz : z = 1 ∨ z = 3) (hp : p ≤ 140737488351232) :
    Calls Try.prog 57 #[.string s, .int .i64 p, .int .i64 z] w fun e w' => w' = w ∧
      ((p < s.size ∧ p + 1 + bt s p * z ≤ s.size ∧ e = .returned (.tuple #[.string (sub s (p + 1) (bt s p * z)), .int .i64 ((p + 1 + bt s p * z : Nat) : Int), .bool true])) ∨
       ((s.size ≤ p ∨ s.size < p + 1 + bt s p * z) ∧ e = .returned (.tuple #[.string ByteArray.empty, .int .i64 0, .bool false]))) := by
  by_cases hlt : p < s.size
  · have hb := bt_le s p
    have hbi := bt_in hlt
    obtain ⟨x, hx⟩ : ∃ x, x = bt s p := ⟨_, rfl⟩
    have hxs : ((s[p]'hlt).toNat : Int) = x := by rw [hx, hbi]
    rw [← hx] at hb ⊢
    clear hbi hx
    by_cases hf : p + 1 + x * z ≤ s.size
    · rcases hz with rfl | rfl
      all_goals
        go_enter Try.func57, Try.ntmps57
        go_wp2
        go_ret3
        refine ⟨rfl, .inl ⟨hlt, hf, ?_⟩⟩
        unfold sub
        simp only [Nat.mul_one]
        congr 4
    · rcases hz with rfl | rfl
      all_goals
        go_enter Try.func57, Try.ntmps57
        go_wp2
        go_ret3
        exact ⟨rfl, .inr ⟨.inr (by omega), rfl⟩⟩
  · go_enter Try.func57, Try.ntmps57
    go_wp2
    go_ret3
    exact ⟨rfl, .inr ⟨.inl (by omega), rfl⟩⟩

/-- the bytes of a text as numbers -/
def nums' (s : ByteArray) (k : Nat) : List Int := (List.range k).map fun j => ((bt s j : Nat) : Int)
theorem nums'_len (s : ByteArray) (k : Nat) : (nums' s k).length = k := by simp [nums']
theorem nums'_snoc (s : ByteArray) (k : Nat) : nums' s (k + 1) = nums' s k ++ [((bt s k : Nat) : Int)] := by simp [nums', List.range_succ]

set_option maxRecDepth 100000 in
set_option maxHeartbeats 1000000 in
theorem numbersFrom_any (s : ByteArray) (w : World) (hs : s.size ≤ 255) :
    Calls Try.prog 75 #[.string s] w fun e w' => ∃ v, e = .returned v ∧ w'.ownsRow w.heap.size 3 1 v s.size ((nums' s s.size).map (Value.int .i64)) ∧ Below w.heap.size w w' := by
  obtain ⟨i0, hi0, hq0, hq1, hq2⟩ := info_parts infoIntC
  go_enter Try.func75, Try.ntmps75
  go_wp2
  go_loopw [3, 4] (fun v iv wr => ∃ i : Nat, i ≤ s.size ∧ iv = .int .i64 i ∧ Below w.heap.size w wr ∧ wr.ownsRow w.heap.size 3 1 v i ((nums' s i).map (Value.int .i64))) (fun _ iv _ => s.size - (intOf iv).toNat)
  case atStart => exact ⟨0, Nat.zero_le _, rfl, Below.refl _ _, World.ownsRow_nil _ _ _ _⟩
  case round =>
    obtain ⟨i, hi, rfl, hbel, hown⟩ := hrel
    have HOWN : Hid (wr.ownsRow w.heap.size 3 1 _ i ((nums' s i).map (Value.int .i64))) := hown
    clear hown
    have hsz := hbel.size
    by_cases hlt : i < s.size
    · have hxb := bt_le s i
      have hbi := bt_in hlt
      obtain ⟨x, hx⟩ : ∃ x, x = bt s i := ⟨_, rfl⟩
      have hxs : ((s[i]'hlt).toNat : Int) = x := by rw [hx, hbi]
      have HX : Hid (x = bt s i) := hx
      rw [← hx] at hxb
      clear hbi hx
      go_wp2_with (first
        | (at_builtin; refine wpList_append_lies _ (by rfl) (.tmp 11) (.tmp 16) 22 (by rfl) w.heap.size 3 i0 (.int .i64 0) 1 8 Try.underlying22 hi0 hq0 hq1 hq2 rfl (by omega) _ i _ (by rfl) (HOWN.out.alloc _) ⟨wr.heap.size, 0, none⟩ 1 1 [.int .i64 x] (by rfl) (by rfl) ?c1 ?c2 (by omega) ?c3 ?c5 ?c4 (wr.heap.size + 1) (by simp) ?_))
      case c1 => exact cell_one_new _ _ _
      case c2 => intro u hu; simp at hu; subst hu; rfl
      case c3 => unfold maxLen; omega
      case c5 => omega
      case c4 => simp; omega
      · intro gv cap2 w2 hown2 hgrow _ _
        have HBN : Hid (Below w.heap.size w w2) := ownC_grown_below (hbel.alloc hsz _) (by simp; omega) (HOWN.out.alloc _) (Nat.le_refl _) hgrow
        have HO2 : Hid (w2.ownsRow w.heap.size 3 1 (.slice (some ⟨gv, 0, none⟩) (i + 1) cap2) (i + 1) ((nums' s (i + 1)).map (Value.int .i64))) := by
          show _
          rw [nums'_snoc, List.map_append, ← HX.out]
          exact hown2
        clear hown2 hgrow
        go_wp2
        go_roundw
        case rel => exact ⟨i + 1, by omega, by go_num, HBN.out, HO2.out⟩
        case measure => simp [intOf]; omega
    · have hie : i = s.size := by omega
      subst hie
      go_wp2
      go_ret
      exact ⟨_, rfl, HOWN.out, hbel⟩

/-- nodes by threes -/
def nodes3 (s : ByteArray) (k : Nat) : List Value := (List.range k).flatMap fun i => [.int .i64 ((bt s (i * 3) : Nat) : Int), .int .i64 ((bt s (i * 3 + 1) : Nat) : Int), .int .i64 ((bt s (i * 3 + 2) : Nat) : Int)]
theorem nodes3_snoc (s : ByteArray) (k : Nat) : nodes3 s (k + 1) = nodes3 s k ++ [.int .i64 ((bt s (k * 3) : Nat) : Int), .int .i64 ((bt s (k * 3 + 1) : Nat) : Int), .int .i64 ((bt s (k * 3 + 2) : Nat) : Int)] := by simp [nodes3, List.range_succ]

set_option maxRecDepth 100000 in
set_option maxHeartbeats 1000000 in
theorem nodesFrom_any (s : ByteArray) (n : Nat) (w : World) (hs : s.size = n * 3) (hn : n ≤ 255) :
    Calls Try.prog 59 #[.string s] w fun e w' => ∃ v, e = .returned v ∧ w'.ownsRow w.heap.size 60 3 v n (nodes3 s n) ∧ Below w.heap.size w w' := by
  obtain ⟨i0, hi0, hq0, hq1, hq2⟩ := info_parts infoNodeC
  have HS : Hid (s.size = n * 3) := hs
  have hsz0 : s.size ≤ 765 := by omega
  clear hs
  go_enter Try.func59, Try.ntmps59
  go_wp2
  go_loopw [3, 4] (fun v iv wr => ∃ i c : Nat, Hid (c = i * 3) ∧ i ≤ n ∧ iv = .int .i64 (c : Nat) ∧ Below w.heap.size w wr ∧ wr.ownsRow w.heap.size 60 3 v i (nodes3 s i)) (fun _ iv _ => s.size - (intOf iv).toNat)
  case atStart => exact ⟨0, 0, rfl, Nat.zero_le _, rfl, Below.refl _ _, World.ownsRow_nil _ _ _ _⟩
  case round =>
    obtain ⟨i, c, HC, hi, rfl, hbel, hown⟩ := hrel
    have HOWN : Hid (wr.ownsRow w.heap.size 60 3 _ i (nodes3 s i)) := hown
    clear hown
    have hsz := hbel.size
    by_cases hlt : i < n
    · have l0 : c < s.size := by have := HS.out; have := HC.out; omega
      have l1 : c + 1 < s.size := by have := HS.out; have := HC.out; omega
      have l2 : c + 2 < s.size := by have := HS.out; have := HC.out; omega
      have xb0 := bt_le s c
      have xb1 := bt_le s (c + 1)
      have xb2 := bt_le s (c + 2)
      have b0 := bt_in l0
      have b1 := bt_in l1
      have b2 := bt_in l2
      obtain ⟨x0, hx0⟩ : ∃ x, x = bt s c := ⟨_, rfl⟩
      obtain ⟨x1, hx1⟩ : ∃ x, x = bt s (c + 1) := ⟨_, rfl⟩
      obtain ⟨x2, hx2⟩ : ∃ x, x = bt s (c + 2) := ⟨_, rfl⟩
      have e0 : ((s[c]'l0).toNat : Int) = x0 := by rw [hx0, b0]
      have e1 : ((s[c + 1]'l1).toNat : Int) = x1 := by rw [hx1, b1]
      have e2 : ((s[c + 2]'l2).toNat : Int) = x2 := by rw [hx2, b2]
      have HX : Hid (x0 = bt s (i * 3) ∧ x1 = bt s (i * 3 + 1) ∧ x2 = bt s (i * 3 + 2)) := by
        have := HC.out
        show _ ∧ _
        rw [← this]
        exact ⟨hx0, hx1, hx2⟩
      rw [← hx0] at xb0
      rw [← hx1] at xb1
      rw [← hx2] at xb2
      clear b0 b1 b2 hx0 hx1 hx2
      have t1 : ((c : Int) + 1).toNat = c + 1 := by omega
      have t2 : ((c : Int) + 2).toNat = c + 2 := by omega
      have r1 : (c : Int) + 1 < (s.size : Int) := by omega
      have r2 : (c : Int) + 2 < (s.size : Int) := by omega
      have r3 : (0 : Int) ≤ (c : Int) + 1 := by omega
      have r4 : (0 : Int) ≤ (c : Int) + 2 := by omega
      go_wp2
      go_region
      go_wp2_with (first
        | (at_builtin; refine wpList_append_lies _ (by rfl) (.tmp 28) (.tmp 30) 23 (by rfl) w.heap.size 60 i0 (.agg #[.int .i64 0, .int .i64 0, .int .i64 0]) 3 24 Try.underlying23 hi0 hq0 hq1 hq2 rfl (by omega) _ i _ (by rfl) ((HOWN.out.alloc _).drew.alloc _) ⟨wr.heap.size + 1, 0, none⟩ 1 1 [.int .i64 x0, .int .i64 x1, .int .i64 x2] (by rfl) (by rfl) ?c1 ?c2 (by omega) ?c3 ?c5 ?c4 (wr.heap.size + 2) (by simp) ?_))
      case c1 => exact newC3 _ (by simp) _ _ _ _
      case c2 => intro u hu; simp at hu; rcases hu with rfl | rfl | rfl <;> rfl
      case c3 => unfold maxLen; omega
      case c5 => omega
      case c4 => simp; omega
      · intro gv cap2 w2 hown2 hgrow _ _
        have HBN : Hid (Below w.heap.size w w2) := ownC_grown_below ((hbel.alloc hsz _).drew.alloc (by simp; omega) _) (by simp; omega) ((HOWN.out.alloc _).drew.alloc _) (Nat.le_refl _) hgrow
        have HO2 : Hid (w2.ownsRow w.heap.size 60 3 (.slice (some ⟨gv, 0, none⟩) (i + 1) cap2) (i + 1) (nodes3 s (i + 1))) := by
          show _
          rw [nodes3_snoc, ← HX.out.1, ← HX.out.2.1, ← HX.out.2.2]
          exact hown2
        clear hown2 hgrow
        go_wp2
        go_roundw
        case rel => exact ⟨i + 1, c + 3, (by have := HC.out; show _ = _; omega), by omega, by go_num, HBN.out, HO2.out⟩
        case measure => simp [intOf]; omega
    · have hie : i = n := by omega
      subst hie
      have c0 : c ≤ 765 := by have := HC.out; omega
      have l0 : (s.size : Int) ≤ (c : Int) + 2 := by have := HS.out; have := HC.out; omega
      go_wp2
      go_ret
      exact ⟨_, rfl, HOWN.out, hbel⟩

end Go.Proofs.Ytpclldccjpncdaa
