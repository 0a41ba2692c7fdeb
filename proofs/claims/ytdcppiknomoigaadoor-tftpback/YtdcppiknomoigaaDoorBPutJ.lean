import Derived.Test.YtdcppiknomoigaaDoorBMem
/-
  The contract of octet.isWidth. For every seat.
-/
namespace Go.Proofs.YtdcppiknomoigaaDoor
open Go.RowKit
set_option linter.all false

set_option maxHeartbeats 400000 in
theorem isWidth_yes (n : Int) (w : World) (h1 : 1 ≤ n) (h2 : n ≤ 8) :
    Calls Tryd.prog 61 #[.int .i64 n] w fun e w' => e = .returned (.bool true) ∧ w' = w := by
  go_enter Tryd.func61, Tryd.ntmps61
  go_wp2
  go_ret
  exact ⟨rfl, rfl⟩

set_option maxHeartbeats 400000 in
theorem isWidth_no (n : Int) (w : World) (h : n < 1 ∨ 8 < n) :
    Calls Tryd.prog 61 #[.int .i64 n] w fun e w' => e = .returned (.bool false) ∧ w' = w := by
  by_cases h1 : 1 ≤ n
  · have h2 : ¬ n ≤ 8 := by omega
    clear h
    go_enter Tryd.func61, Tryd.ntmps61
    go_wp2
    go_ret
    exact ⟨rfl, rfl⟩
  · clear h
    go_enter Tryd.func61, Tryd.ntmps61
    go_wp2
    go_ret
    exact ⟨rfl, rfl⟩

end Go.Proofs.YtdcppiknomoigaaDoor

/-
  A number's bytes, one laid behind the other. For every seat.
-/
namespace Go.Proofs.YtdcppiknomoigaaDoor
open Go.RowKit
set_option linter.all false

def byteAt (n : Int) (k : Nat) : Int := n / 2 ^ (8 * k) % 256
def putTo (n : Int) (m : Nat) : Nat → Array Value
  | 0 => madeCells #[.int .u8 0] m
  | k + 1 => (putTo n m k).setIfInBounds (m - 1 - k) (.int .u8 (byteAt n k))

theorem putTo_size (n : Int) (m : Nat) : ∀ k, (putTo n m k).size = m
  | 0 => by simp [putTo, size_madeCells]
  | k + 1 => by simp [putTo, putTo_size n m k]
theorem putTo_get (n : Int) (m k j : Nat) (h : j < m) : ∃ v, (putTo n m k)[j]? = some v :=
  ⟨(putTo n m k)[j]'(by rw [putTo_size]; exact h), by simp [putTo_size, h]⟩

theorem putTo2 (n : Int) : putTo n 2 2 = (u8s [n / 256 % 256, n % 256]).toArray := by
  simp [putTo, made_eq, byteAt, u8s]
end Go.Proofs.YtdcppiknomoigaaDoor

/-
  The contract of octet.Put: what a call leaves, for every number and width. For every seat.
-/
namespace Go.Proofs.YtdcppiknomoigaaDoor
open Go.RowKit
set_option linter.all false

set_option maxHeartbeats 400000 in
theorem put_yes (n : Int) (m : Nat) (w : World) (h1 : 1 ≤ m) (h2 : m ≤ 8) (h3 : 0 ≤ n) (h4 : n ≤ 18446744073709551615) :
    Calls Tryd.prog 29 #[.int .u64 n, .int .i64 m] w fun e w' => e = .returned (.slice (some ⟨w.heap.size, 0, none⟩) m m) ∧ w' = w.alloc (.cells (putTo n m m) 5) := by
  have hmk := fun wx => Go.run_make_row' (P := Tryd.prog) 24 5 (.int .u8 0) 1 Tryd.underlying24 infoU8 rfl .i64 .i64 m (by omega) (by omega) wx
  go_enter Tryd.func29, Tryd.ntmps29
  go_wp2_with (go_at_call 61; refine (isWidth_yes _ _ (by omega) (by omega)).mono ?_; rintro e w' ⟨rfl, rfl⟩)
  go_loopw [14] (fun i wr => ∃ k : Nat, k ≤ m ∧ i = .int .i64 k ∧ wr = w'.alloc (.cells (putTo n m k) 5)) (fun i _ => m - (intOf i).toNat)
  case atStart => exact ⟨0, Nat.zero_le _, rfl, rfl⟩
  case round =>
    obtain ⟨k, hk, rfl, rfl⟩ := hrel
    by_cases hlt : k < m
    · obtain ⟨v, hv⟩ := putTo_get n m k (m - 1 - k) (by omega)
      go_wp2
      go_roundw
      case rel => exact ⟨k + 1, by omega, by go_num, rfl⟩
      case measure => simp [intOf]; omega
    · go_wp2
      go_ret
      have : k = m := by omega
      subst this
      exact ⟨rfl, rfl⟩

set_option maxHeartbeats 400000 in
theorem put_no (n width : Int) (w : World) (h : width < 1 ∨ 8 < width) :
    Calls Tryd.prog 29 #[.int .u64 n, .int .i64 width] w fun e w' => e = .returned (.slice none 0 0) ∧ w' = w := by
  have hh : Hid (width < 1 ∨ 8 < width) := h
  clear h
  go_enter Tryd.func29, Tryd.ntmps29
  go_wp2_with (go_at_call 61; refine (isWidth_no _ _ hh.out).mono ?_; rintro e w' ⟨rfl, rfl⟩)
  go_ret
  exact ⟨rfl, rfl⟩
end Go.Proofs.YtdcppiknomoigaaDoor

/-
  The contract of slipwayref01.Put: the same bytes as octet.Put's. For every seat.
-/
namespace Go.Proofs.YtdcppiknomoigaaDoor
open Go.RowKit
set_option linter.all false

theorem shr_next (n : Int) (k : Nat) (hk : k < 8) : n / 2 ^ (8 * k) / 256 = n / 2 ^ (8 * (k + 1)) := by
  have hc : k = 0 ∨ k = 1 ∨ k = 2 ∨ k = 3 ∨ k = 4 ∨ k = 5 ∨ k = 6 ∨ k = 7 := by omega
  rcases hc with rfl | rfl | rfl | rfl | rfl | rfl | rfl | rfl <;> simp only [Nat.reduceMul, Nat.reduceAdd, Int.reducePow] <;> omega
theorem shr_bd (n : Int) (k : Nat) (hk : k ≤ 8) (h0 : 0 ≤ n) (h1 : n ≤ 18446744073709551615) : 0 ≤ n / 2 ^ (8 * k) ∧ n / 2 ^ (8 * k) ≤ 18446744073709551615 := by
  have hc : k = 0 ∨ k = 1 ∨ k = 2 ∨ k = 3 ∨ k = 4 ∨ k = 5 ∨ k = 6 ∨ k = 7 ∨ k = 8 := by omega
  rcases hc with rfl | rfl | rfl | rfl | rfl | rfl | rfl | rfl | rfl <;> simp only [Nat.reduceMul, Int.reducePow] <;> omega

set_option maxHeartbeats 400000 in
theorem refPut_yes (n : Int) (m : Nat) (w : World) (h1 : 1 ≤ m) (h2 : m ≤ 8) (h3 : 0 ≤ n) (h4 : n ≤ 18446744073709551615) :
    Calls Tryd.prog 65 #[.int .u64 n, .int .i64 m] w fun e w' => e = .returned (.slice (some ⟨w.heap.size, 0, none⟩) m m) ∧ w' = w.alloc (.cells (putTo n m m) 5) := by
  have hmk := fun wx => Go.run_make_row' (P := Tryd.prog) 24 5 (.int .u8 0) 1 Tryd.underlying24 infoU8 rfl .i64 .i64 m (by omega) (by omega) wx
  have n1 : ¬ (m : Int) < 1 := by omega
  have n2 : ¬ (8 : Int) < m := by omega
  go_enter Tryd.func65, Tryd.ntmps65
  go_wp2
  go_loopw [0, 6] (fun nn i wr => ∃ k : Nat, k ≤ m ∧ i = .int .i64 k ∧ nn = .int .u64 (n / 2 ^ (8 * k)) ∧ wr = w.alloc (.cells (putTo n m k) 5)) (fun _ i _ => m - (intOf i).toNat)
  case atStart => exact ⟨0, Nat.zero_le _, rfl, by simp, rfl⟩
  case round =>
    obtain ⟨k, hk, rfl, rfl, rfl⟩ := hrel
    have hbd := shr_bd n k (by omega) h3 h4
    by_cases hlt : k < m
    · obtain ⟨v, hv⟩ := putTo_get n m k (m - 1 - k) (by omega)
      have HX : Hid (n / 2 ^ (8 * (k + 1)) = n / 2 ^ (8 * k) / 256) := (shr_next n k (by omega)).symm
      have HB : Hid (putTo n m (k + 1) = (putTo n m k).setIfInBounds (m - 1 - k) (.int .u8 (n / 2 ^ (8 * k) % 256))) := rfl
      generalize n / 2 ^ (8 * k) = x at *
      go_wp2
      go_roundw
      case rel => exact ⟨k + 1, by omega, by go_num, by rw [HX.out], by rw [HB.out]⟩
      case measure => simp [intOf]; omega
    · go_wp2
      go_ret
      have : k = m := by omega
      subst this
      exact ⟨rfl, rfl⟩

set_option maxHeartbeats 400000 in
theorem refPut_no (n width : Int) (w : World) (h : width < 1 ∨ 8 < width) :
    Calls Tryd.prog 65 #[.int .u64 n, .int .i64 width] w fun e w' => e = .returned (.slice none 0 0) ∧ w' = w := by
  by_cases h1 : width < 1
  · clear h
    go_enter Tryd.func65, Tryd.ntmps65
    go_wp2
    go_ret
    exact ⟨rfl, rfl⟩
  · have h2 : 8 < width := by omega
    clear h
    go_enter Tryd.func65, Tryd.ntmps65
    go_wp2
    go_ret
    exact ⟨rfl, rfl⟩
end Go.Proofs.YtdcppiknomoigaaDoor
