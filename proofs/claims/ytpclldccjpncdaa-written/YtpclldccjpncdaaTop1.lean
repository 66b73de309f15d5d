import Derived.Test.YtpclldccjpncdaaAsks1
import Derived.Test.YtpclldccjpncdaaRulesS
namespace Go.Proofs.Ytpclldccjpncdaa
open Go.RowKit

/-- a script as it lies in memory: op i lies from off + i * 7 on -/
structure OpsIn (B : Nat) (w : World) (ao : Option Addr) (n b off : Nat) (kind : Nat → Int) (T : Nat → Lay) (sa sb : Nat → ByteArray) (lev : Nat → Int) (ra : Nat → Option Addr) (rn rc : Nat → Nat) : Prop where
  addr : 0 < n → ao = some ⟨b, off, none⟩
  lt : 0 < n → b < B
  le : n * 120 ≤ 140737488351232
  c0 : ∀ i, i < n → w.cell? ⟨b, off + i * 7, none⟩ = some (.int .i64 (kind i))
  c1 : ∀ i, i < n → w.cell? ⟨b, off + i * 7 + 1, none⟩ = some (.slice (T i).na (T i).n (T i).nc)
  c2 : ∀ i, i < n → w.cell? ⟨b, off + i * 7 + 2, none⟩ = some (.slice (T i).ea (T i).m (T i).ec)
  c3 : ∀ i, i < n → w.cell? ⟨b, off + i * 7 + 3, none⟩ = some (.string (sa i))
  c4 : ∀ i, i < n → w.cell? ⟨b, off + i * 7 + 4, none⟩ = some (.string (sb i))
  c5 : ∀ i, i < n → w.cell? ⟨b, off + i * 7 + 5, none⟩ = some (.int .i64 (lev i))
  c6 : ∀ i, i < n → w.cell? ⟨b, off + i * 7 + 6, none⟩ = some (.slice (ra i) (rn i) (rc i))
  lay : ∀ i, i < n → (T i).In B w
  fit : ∀ i, i < n → (sa i).size ≤ 140737488351232
  rules : ∀ i, i < n → ∃ b' off' f, RulesIn B w (ra i) (rn i) b' off' f

end Go.Proofs.Ytpclldccjpncdaa
