import Derived.Test.YtpclldccjpncdaaMadeR
namespace Go.Proofs.Ytpclldccjpncdaa
open Go.RowKit

noncomputable def ones (L : Lay) (i : Nat) : Nat := (List.range i).countP fun j => decide ((L.tx j).size = 1)
theorem ones_succ (L : Lay) (i : Nat) : ones L (i + 1) = ones L i + (if (L.tx i).size = 1 then 1 else 0) := by
  unfold ones
  rw [List.range_succ, List.countP_append]
  by_cases h : (L.tx i).size = 1 <;> simp [h]
theorem ones_le (L : Lay) (i : Nat) : ones L i ≤ i := by
  have := List.countP_le_length (l := List.range i) (p := fun j => decide ((L.tx j).size = 1))
  simpa [ones] using this

set_option maxHeartbeats 1000000 in
theorem singles_any (L : Lay) (w : World) (h : L.In w.heap.size w) (hm : L.m ≤ 48) :
    Calls Try.prog 29 #[.agg #[.slice L.na L.n L.nc, .slice L.ea L.m L.ec]] w fun e w' => e = .returned (.int .i64 (ones L L.m : Nat)) ∧ Below w.heap.size w w' := by
  have HL : Hid (L.In w.heap.size w) := h
  clear h
  go_enter Try.func29, Try.ntmps29
  go_wp2
  go_loopw [3, 4] (fun nv iv wr => ∃ i c : Nat, i ≤ L.m ∧ iv = .int .i64 (i : Nat) ∧ nv = .int .i64 (c : Nat) ∧ c = ones L i ∧ Below (w.heap.size + 1) (w.alloc (.cells #[.slice L.na L.n L.nc, .slice L.ea L.m L.ec] 26)) wr) (fun _ iv _ => L.m - (intOf iv).toNat)
  case atStart => exact ⟨0, 0, Nat.zero_le _, rfl, rfl, rfl, Below.refl _ _⟩
  case round =>
    obtain ⟨i, c, hi, rfl, rfl, hc, hbel⟩ := hrel
    have HC : Hid (c = ones L i) := hc
    have hcl : c ≤ 48 := by have := ones_le L i; omega
    clear hc
    have b1 : wr.cell? ⟨w.heap.size, 1, none⟩ = some (.slice L.ea L.m L.ec) := cellTo hbel ((row_new w #[.slice L.na L.n L.nc, .slice L.ea L.m L.ec] 26 2 rfl).cell (i := 1) (by omega)) (Nat.lt_succ_self _)
    by_cases hlt : i < L.m
    · have hbb := HL.out.entries.lt (by omega)
      rw [HL.out.entries.addr (by omega)] at b1
      have c0 := cellTo hbel (((below_one (w := w) (.cells #[.slice L.na L.n L.nc, .slice L.ea L.m L.ec] 26)).cell (by exact hbb)).trans (HL.out.entries.text i hlt)) (by show L.eb < _; omega)
      by_cases h1 : (L.tx i).size = 1
      · have HS : Hid (ones L (i + 1) = c + 1) := by show _ = _; rw [ones_succ, if_pos h1, ← HC.out]
        go_wp2
        go_roundw
        case rel => exact ⟨i + 1, c + 1, by omega, by go_num, by go_num, HS.out.symm, hbel⟩
        case measure => simp [intOf]; omega
      · have HS : Hid (ones L (i + 1) = c) := by show _ = _; rw [ones_succ, if_neg h1, ← HC.out]; rfl
        go_wp2
        go_roundw
        case rel => exact ⟨i + 1, c, by omega, by go_num, rfl, HS.out.symm, hbel⟩
        case measure => simp [intOf]; omega
    · have hie : i = L.m := by omega
      go_wp2
      go_ret
      refine ⟨?_, below_then (below_one _) (by simpa using hbel)⟩
      rw [← hie, ← HC.out]
      rfl

/-- has the table an entry with that text? -/
noncomputable def hasT (L : Lay) (s : ByteArray) : Bool := by
  classical
  exact decide (isText L.m L.tx s)
theorem hasT_yes {L : Lay} {s : ByteArray} (h : isText L.m L.tx s) : true = hasT L s := by simp [hasT, h]
theorem hasT_no {L : Lay} {s : ByteArray} (h : ¬ isText L.m L.tx s) : false = hasT L s := by simp [hasT, h]

set_option maxHeartbeats 1000000 in
theorem has_any (L : Lay) (s : ByteArray) (w : World) (h : L.In w.heap.size w) (hm : L.m ≤ 48) :
    Calls Try.prog 11 #[.agg #[.slice L.na L.n L.nc, .slice L.ea L.m L.ec], .string s] w fun e w' => e = .returned (.bool (hasT L s)) ∧ Below w.heap.size w w' := by
  have HL : Hid (L.In w.heap.size w) := h
  clear h
  go_enter Try.func11, Try.ntmps11
  go_wp2
  go_loopw [5] (fun iv wr => ∃ i : Nat, i ≤ L.m ∧ iv = .int .i64 (i : Nat) ∧ (∀ j, j < i → L.tx j ≠ s) ∧ Below (w.heap.size + 1) (w.alloc (.cells #[.slice L.na L.n L.nc, .slice L.ea L.m L.ec] 26)) wr) (fun iv _ => L.m - (intOf iv).toNat)
  case atStart => exact ⟨0, Nat.zero_le _, rfl, fun j hj => by omega, Below.refl _ _⟩
  case round =>
    obtain ⟨i, hi, rfl, hno, hbel⟩ := hrel
    have HNO : Hid (∀ j, j < i → L.tx j ≠ s) := hno
    clear hno
    have b1 : wr.cell? ⟨w.heap.size, 1, none⟩ = some (.slice L.ea L.m L.ec) := cellTo hbel ((row_new w #[.slice L.na L.n L.nc, .slice L.ea L.m L.ec] 26 2 rfl).cell (i := 1) (by omega)) (Nat.lt_succ_self _)
    by_cases hlt : i < L.m
    · have hbb := HL.out.entries.lt (by omega)
      rw [HL.out.entries.addr (by omega)] at b1
      have c0 := cellTo hbel (((below_one (w := w) (.cells #[.slice L.na L.n L.nc, .slice L.ea L.m L.ec] 26)).cell (by exact hbb)).trans (HL.out.entries.text i hlt)) (by show L.eb < _; omega)
      by_cases h1 : ((L.tx i).toList == s.toList) = true
      · have HB : Hid (true = hasT L s) := hasT_yes ⟨i, hlt, bytes_eq.1 (by simpa using h1)⟩
        go_wp2
        go_ret
        exact ⟨ret_bool HB.out, below_then (below_one _) (by simpa using hbel)⟩
      · have h1' : ((L.tx i).toList == s.toList) = false := by simpa using h1
        have HN : Hid (L.tx i ≠ s) := fun e => h1 (by simp [e])
        clear h1
        go_wp2
        go_roundw
        case rel => exact ⟨i + 1, by omega, by go_num, fun j hj => by
          by_cases e : j = i
          · rw [e]; exact HN.out
          · exact HNO.out j (by omega), hbel⟩
        case measure => simp [intOf]; omega
    · have hie : i = L.m := by omega
      have HB : Hid (false = hasT L s) := hasT_no fun ⟨j, hj, hx⟩ => HNO.out j (by omega) hx
      go_wp2
      go_ret
      exact ⟨ret_bool HB.out, below_then (below_one _) (by simpa using hbel)⟩

end Go.Proofs.Ytpclldccjpncdaa
