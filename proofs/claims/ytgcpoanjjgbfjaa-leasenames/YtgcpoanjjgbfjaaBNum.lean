/-
  Numbers as bytes, by octet.Put and the document's Put, at the widths 1, 2 and 4. For every seat.
-/
import Derived.Test.YtgcpoanjjgbfjaaBPut
import Derived.Test.YtgcpoanjjgbfjaaBRefPut
import Derived.Test.YtgcpoanjjgbfjaaBOwnB
namespace Go.Proofs.Ytgcpoanjjgbfjaa
open Go.RowKit
set_option linter.all false

theorem putTo1 (n : Int) : putTo n 1 1 = (u8s [n % 256]).toArray := by
  simp [putTo, made_eq, byteAt, u8s]
theorem putTo4 (n : Int) : putTo n 4 4 = (u8s [n / 16777216 % 256, n / 65536 % 256, n / 256 % 256, n % 256]).toArray := by
  simp [putTo, made_eq, byteAt, u8s]
/-- a number's bytes. -/
def op1 (n : Int) : List Int := [n % 256]
def op2 (n : Int) : List Int := [n / 256 % 256, n % 256]
def ip4 (n : Int) : List Int := [n / 16777216 % 256, n / 65536 % 256, n / 256 % 256, n % 256]
theorem op1_bd (n : Int) : ∀ z, z ∈ op1 n → 0 ≤ z ∧ z ≤ 255 := fun z hz => by simp [op1] at hz; omega
theorem op2_bd (n : Int) : ∀ z, z ∈ op2 n → 0 ≤ z ∧ z ≤ 255 := fun z hz => by simp [op2] at hz; omega
theorem ip4_bd (n : Int) : ∀ z, z ∈ ip4 n → 0 ≤ z ∧ z ≤ 255 := fun z hz => by simp [ip4] at hz; omega
theorem put2_any (n : Int) (w : World) (h3 : 0 ≤ n) (h4 : n ≤ 18446744073709551615) :
    Calls Try.prog 80 #[.int .u64 n, .int .i64 2] w fun e w' => e = .returned (.slice (some ⟨w.heap.size, 0, none⟩) 2 2) ∧ w' = w.alloc (.cells (u8s (op2 n)).toArray 5) := by
  have h := put_yes n 2 w (by omega) (by omega) h3 (by omega)
  rw [putTo2 n] at h
  exact h
theorem put4_any (n : Int) (w : World) (h3 : 0 ≤ n) (h4 : n ≤ 18446744073709551615) :
    Calls Try.prog 80 #[.int .u64 n, .int .i64 4] w fun e w' => e = .returned (.slice (some ⟨w.heap.size, 0, none⟩) 4 4) ∧ w' = w.alloc (.cells (u8s (ip4 n)).toArray 5) := by
  have h := put_yes n 4 w (by omega) (by omega) h3 (by omega)
  rw [putTo4 n] at h
  exact h
end Go.Proofs.Ytgcpoanjjgbfjaa
