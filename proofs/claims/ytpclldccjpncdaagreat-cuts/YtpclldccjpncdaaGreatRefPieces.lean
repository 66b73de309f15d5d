import Derived.Test.YtpclldccjpncdaaGreatPiecesW
import Derived.Test.YtpclldccjpncdaaGreatRefC
namespace Go.Proofs.YtpclldccjpncdaaGreat
open Go.RowKit

noncomputable def entI (m : Nat) (tx : Nat → ByteArray) (u : ByteArray) : Int := if idx m tx u < m then (idx m tx u : Nat) else -1
theorem entI_hit {m : Nat} {tx : Nat → ByteArray} {u : ByteArray} {i : Nat} (hi : i < m) (ht : tx i = u) (hf : ∀ j, j < i → tx j ≠ u) : (i : Int) = entI m tx u := by
  have := idx_eq hi ht hf
  simp [entI, this, hi]
theorem entI_miss {m : Nat} {tx : Nat → ByteArray} {u : ByteArray} (hf : ∀ j, j < m → tx j ≠ u) : -1 = entI m tx u := by
  have : idx m tx u = m := idx_none (fun ⟨i, hi, ht⟩ => hf i hi ht)
  simp [entI, this]
theorem entI_text {m : Nat} {tx : Nat → ByteArray} {u : ByteArray} (h : isText m tx u) : entI m tx u = (idx m tx u : Nat) := by simp [entI, (idx_spec h).1]
theorem entI_no {m : Nat} {tx : Nat → ByteArray} {u : ByteArray} (h : ¬ isText m tx u) : entI m tx u = -1 := by simp [entI, idx_none h]

set_option maxHeartbeats 400000 in
theorem entry_any (m cap b off : Nat) (ao : Option Addr) (tx : Nat → ByteArray) (la : Nat → Option Addr) (k lc lb lo : Nat → Nat) (z : Nat → Nat → Int) (u : ByteArray) (w : World) (hm : m ≤ 1000) (h : EntriesIn w.heap.size w ao m b off tx la k lc lb lo z) :
    Calls Tryz.prog 75 #[.slice ao m cap, .string u] w fun e w' => e = .returned (.int .i64 (entI m tx u)) ∧ w = w' := by
  have HE : Hid (EntriesIn w.heap.size w ao m b off tx la k lc lb lo z) := h
  clear h
  go_enter Tryz.func75, Tryz.ntmps75
  go_wp2
  go_loop [5] (fun iv => ∃ i : Nat, i ≤ m ∧ iv = .int .i64 i ∧ ∀ j, j < i → tx j ≠ u) (fun iv => m - (intOf iv).toNat)
  case atStart => exact ⟨0, Nat.zero_le _, rfl, fun j hj => by omega⟩
  case round =>
    obtain ⟨i, hi, rfl, hno⟩ := hrel
    have HN : Hid (∀ j, j < i → tx j ≠ u) := hno
    clear hno
    by_cases hlt : i < m
    · have ha := HE.out.addr (by omega)
      subst ha
      have c0 := HE.out.text i hlt
      by_cases ht : tx i = u
      · have hb : ((tx i).toList == u.toList) = true := by simp [ht]
        have HT : Hid (tx i = u) := ht
        clear ht
        go_wp2
        go_ret
        exact ⟨ret_int (entI_hit hlt HT.out HN.out), rfl⟩
      · have hb : ((tx i).toList == u.toList) = false := by simp [bytes_eq, ht]
        have HT : Hid (tx i ≠ u) := ht
        clear ht
        go_wp2
        go_round
        case rel => exact ⟨i + 1, by omega, by go_num, fun j hj => by
            by_cases e : j = i
            · rw [e]; exact HT.out
            · exact HN.out j (by omega)⟩
        case measure => simp [intOf]; omega
    · go_wp2
      go_ret
      have : i = m := by omega
      subst this
      exact ⟨ret_int (entI_miss HN.out), rfl⟩

set_option maxHeartbeats 400000 in
theorem sameStrings_any (k b off b' off' cap cap' : Nat) (ao ao' : Option Addr) (u : Nat → ByteArray) (w : World) (h : StrsIn w.heap.size w ao k b off u) (h' : StrsIn w.heap.size w ao' k b' off' u) :
    Calls Tryz.prog 22 #[.slice ao k cap, .slice ao' k cap'] w fun e w' => e = .returned (.bool true) ∧ Below w.heap.size w w' := by
  have hk := h.le
  obtain ⟨ha, hb, hc, _⟩ := h
  obtain ⟨ha', hb', hc', _⟩ := h'
  go_enter Tryz.func22, Tryz.ntmps22
  go_wp2
  go_loopw [5] (fun i wr => ∃ j : Nat, j ≤ k ∧ i = .int .i64 j ∧ Below w.heap.size w wr) (fun i _ => k - (intOf i).toNat)
  case atStart => exact ⟨0, Nat.zero_le _, rfl, Below.refl _ _⟩
  case round =>
    obtain ⟨j, hj, rfl, hbel⟩ := hrel
    by_cases hlt : j < k
    · have e1 := ha (by omega)
      have e2 := ha' (by omega)
      subst e1
      subst e2
      have c0 := cellTo hbel (hc j hlt) (hb (by omega))
      have c1 := cellTo hbel (hc' j hlt) (hb' (by omega))
      go_wp2
      go_quiet (fail)
      go_wp2
      go_roundw
      case rel => exact ⟨j + 1, by omega, by go_num, below_drewN hbel _⟩
      case measure => simp [intOf]; omega
    · go_wp2
      go_ret
      exact ⟨rfl, hbel⟩

end Go.Proofs.YtpclldccjpncdaaGreat
