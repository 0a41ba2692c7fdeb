/-
  The contract of slipwayref01.Put: the same bytes as octet.Put's. For every seat.
-/
import Derived.Test.YtgcpoanjjgbfjaaBPutTo
namespace Go.Proofs.Ytgcpoanjjgbfjaa
open Go.RowKit
set_option linter.all false

theorem shr_next (n : Int) (k : Nat) (hk : k < 8) : n / 2 ^ (8 * k) / 256 = n / 2 ^ (8 * (k + 1)) := by
  have hc : k = 0 ∨ k = 1 ∨ k = 2 ∨ k = 3 ∨ k = 4 ∨ k = 5 ∨ k = 6 ∨ k = 7 := by omega
  rcases hc with rfl | rfl | rfl | rfl | rfl | rfl | rfl | rfl <;> simp only [Nat.reduceMul, Nat.reduceAdd, Int.reducePow] <;> omega
theorem shr_bd (n : Int) (k : Nat) (hk : k ≤ 8) (h0 : 0 ≤ n) (h1 : n ≤ 18446744073709551615) : 0 ≤ n / 2 ^ (8 * k) ∧ n / 2 ^ (8 * k) ≤ 18446744073709551615 := by
  have hc : k = 0 ∨ k = 1 ∨ k = 2 ∨ k = 3 ∨ k = 4 ∨ k = 5 ∨ k = 6 ∨ k = 7 ∨ k = 8 := by omega
  rcases hc with rfl | rfl | rfl | rfl | rfl | rfl | rfl | rfl | rfl <;> simp only [Nat.reduceMul, Int.reducePow] <;> omega

end Go.Proofs.Ytgcpoanjjgbfjaa
