import Derived.Test.YtpclldccjpncdaaGreatAsks1
import Derived.Test.YtpclldccjpncdaaGreatRulesS
namespace Go.Proofs.YtpclldccjpncdaaGreat
open Go.RowKit

set_option maxRecDepth 100000 in
set_option maxHeartbeats 1000000 in
theorem plays_valid (L : Lay) (a b : ByteArray) (lev : Int) (ra : Option Addr) (rn rc : Nat) (w : World) (h : L.In w.heap.size w) :
    Calls Tryz.prog 11 #[.agg #[.int .i64 1, .slice L.na L.n L.nc, .slice L.ea L.m L.ec, .string a, .string b, .int .i64 lev, .slice ra rn rc]] w fun e w' => e = .returned (.bool true) ∧ Below w.heap.size w w' := by
  have HL : Hid (∀ w', Below w.heap.size w w' → L.In w'.heap.size w') := fun w' hb => h.later hb
  clear h
  go_enter Tryz.func11, Tryz.ntmps11
  go_wp2_with (go_at_call 12; refine (asks_valid L _ _ _ _ _ _ _ (HL.out _ (below_one _))).mono ?_; rintro e w1 ⟨rfl, hb1⟩)
  go_ret
  exact ⟨rfl, below_then (below_one _) hb1⟩

/-- a script as it lies in memory: op i lies from off + i * 7 on -/
structure OpsIn (B : Nat) (w : World) (ao : Option Addr) (n b off : Nat) (kind : Nat → Int) (T : Nat → Lay) (sa sb : Nat → ByteArray) (lev : Nat → Int) (ra : Nat → Option Addr) (rn rc : Nat → Nat) : Prop where
  addr : 0 < n → ao = some ⟨b, off, none⟩
  lt : 0 < n → b < B
  le : n * 120 ≤ 140737488351232
  c0 : ∀ i, i < n → w.cell? ⟨b, off + i * 7, none⟩ = some (.int .i64 (kind i))
  c1 : ∀ i, i < n → w.cell? ⟨b, off + i * 7 + 1, none⟩ = some (.slice (T i).na (T i).n (T i).nc)
  c2 : ∀ i, i < n → w.cell? ⟨b, off + i * 7 + 2, none⟩ = some (.slice (T i).ea (T i).m (T i).ec)
  c3 : ∀ i, i < n → w.cell? ⟨b, off + i * 7 + 3, none⟩ = some (.string (sa i))
  c4 : ∀ i, i < n → w.cell? ⟨b, off + i * 7 + 4, none⟩ = some (.string (sb i))
  c5 : ∀ i, i < n → w.cell? ⟨b, off + i * 7 + 5, none⟩ = some (.int .i64 (lev i))
  c6 : ∀ i, i < n → w.cell? ⟨b, off + i * 7 + 6, none⟩ = some (.slice (ra i) (rn i) (rc i))
  lay : ∀ i, i < n → (T i).In B w
  fit : ∀ i, i < n → (sa i).size ≤ 140737488351232
  rules : ∀ i, i < n → ∃ b' off' f, RulesIn B w (ra i) (rn i) b' off' f

set_option maxRecDepth 100000 in
set_option maxHeartbeats 1000000 in
/-- upTo, of a range of kinds each of which plays well -/
theorem upTo_any (lo hi : Int) (ao : Option Addr) (n cap b off : Nat) (kind : Nat → Int) (T : Nat → Lay) (sa sb : Nat → ByteArray) (lev : Nat → Int) (ra : Nat → Option Addr) (rn rc : Nat → Nat) (w : World)
    (h : OpsIn w.heap.size w ao n b off kind T sa sb lev ra rn rc)
    (hplay : ∀ i, i < n → lo ≤ kind i → kind i ≤ hi → ∀ wr, Below w.heap.size w wr → Calls Tryz.prog 11 #[.agg #[.int .i64 (kind i), .slice (T i).na (T i).n (T i).nc, .slice (T i).ea (T i).m (T i).ec, .string (sa i), .string (sb i), .int .i64 (lev i), .slice (ra i) (rn i) (rc i)]] wr fun e w' => e = .returned (.bool true) ∧ Below wr.heap.size wr w') :
    Calls Tryz.prog 10 #[.slice ao n cap, .int .i64 lo, .int .i64 hi] w fun e w' => e = .returned (.int .i64 (-1)) ∧ Below w.heap.size w w' := by
  have hle := h.le
  have HO : Hid (OpsIn w.heap.size w ao n b off kind T sa sb lev ra rn rc) := h
  have HP : Hid (∀ i, i < n → lo ≤ kind i → kind i ≤ hi → ∀ wr, Below w.heap.size w wr → Calls Tryz.prog 11 #[.agg #[.int .i64 (kind i), .slice (T i).na (T i).n (T i).nc, .slice (T i).ea (T i).m (T i).ec, .string (sa i), .string (sb i), .int .i64 (lev i), .slice (ra i) (rn i) (rc i)]] wr fun e w' => e = .returned (.bool true) ∧ Below wr.heap.size wr w') := hplay
  clear h hplay
  go_enter Tryz.func10, Tryz.ntmps10
  go_wp2
  go_loopw [7] (fun iv wr => ∃ i : Nat, i ≤ n ∧ iv = .int .i64 i ∧ Below w.heap.size w wr) (fun iv _ => n - (intOf iv).toNat)
  case atStart => exact ⟨0, Nat.zero_le _, rfl, Below.refl _ _⟩
  case round =>
    obtain ⟨i, hi', rfl, hbel⟩ := hrel
    by_cases hlt : i < n
    · have ha := HO.out.addr (by omega)
      subst ha
      have hbb := HO.out.lt (by omega)
      have hsz := hbel.size
      have hbw : b < wr.heap.size := by omega
      have c0 := cellTo hbel (HO.out.c0 i hlt) hbb
      have c1 := cellTo hbel (HO.out.c1 i hlt) hbb
      have c2 := cellTo hbel (HO.out.c2 i hlt) hbb
      have c3 := cellTo hbel (HO.out.c3 i hlt) hbb
      have c4 := cellTo hbel (HO.out.c4 i hlt) hbb
      have c5 := cellTo hbel (HO.out.c5 i hlt) hbb
      have c6 := cellTo hbel (HO.out.c6 i hlt) hbb
      by_cases h1 : lo ≤ kind i
      · by_cases h2 : kind i ≤ hi
        · go_wp2_with (go_at_call 11; refine (HP.out i hlt h1 h2 _ (below_then hbel (below_one _))).mono ?_; rintro e w1 ⟨rfl, hb1⟩)
          go_roundw
          case rel => exact ⟨i + 1, by omega, by go_num, below_then (below_then hbel (below_one _)) hb1⟩
          case measure => simp [intOf]; omega
        · go_wp2
          go_roundw
          case rel => exact ⟨i + 1, by omega, by go_num, below_then hbel (below_one _)⟩
          case measure => simp [intOf]; omega
      · go_wp2
        go_roundw
        case rel => exact ⟨i + 1, by omega, by go_num, below_then hbel (below_one _)⟩
        case measure => simp [intOf]; omega
    · go_wp2
      go_ret
      exact ⟨rfl, hbel⟩

end Go.Proofs.YtpclldccjpncdaaGreat
