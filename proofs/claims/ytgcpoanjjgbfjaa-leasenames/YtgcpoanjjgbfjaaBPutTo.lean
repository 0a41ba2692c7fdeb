/-
  A number's bytes, one laid behind the other. For every seat.
-/
import Derived.Test.YtgcpoanjjgbfjaaBMem
namespace Go.Proofs.Ytgcpoanjjgbfjaa
open Go.RowKit
set_option linter.all false

def byteAt (n : Int) (k : Nat) : Int := n / 2 ^ (8 * k) % 256
def putTo (n : Int) (m : Nat) : Nat → Array Value
  | 0 => madeCells #[.int .u8 0] m
  | k + 1 => (putTo n m k).setIfInBounds (m - 1 - k) (.int .u8 (byteAt n k))

theorem putTo_size (n : Int) (m : Nat) : ∀ k, (putTo n m k).size = m
  | 0 => by simp [putTo, size_madeCells]
  | k + 1 => by simp [putTo, putTo_size n m k]
theorem putTo_get (n : Int) (m k j : Nat) (h : j < m) : ∃ v, (putTo n m k)[j]? = some v :=
  ⟨(putTo n m k)[j]'(by rw [putTo_size]; exact h), by simp [putTo_size, h]⟩

theorem putTo2 (n : Int) : putTo n 2 2 = (u8s [n / 256 % 256, n % 256]).toArray := by
  simp [putTo, made_eq, byteAt, u8s]
end Go.Proofs.Ytgcpoanjjgbfjaa
