/-
  The contract of octet.Put: what a call leaves, for every number and width. For every seat.
-/
import Derived.Test.YtgcpoanjjgbfjaaBWidth
import Derived.Test.YtgcpoanjjgbfjaaBPutTo
namespace Go.Proofs.Ytgcpoanjjgbfjaa
open Go.RowKit
set_option linter.all false

set_option maxHeartbeats 400000 in
theorem put_yes (n : Int) (m : Nat) (w : World) (h1 : 1 ≤ m) (h2 : m ≤ 8) (h3 : 0 ≤ n) (h4 : n ≤ 18446744073709551615) :
    Calls Try.prog 80 #[.int .u64 n, .int .i64 m] w fun e w' => e = .returned (.slice (some ⟨w.heap.size, 0, none⟩) m m) ∧ w' = w.alloc (.cells (putTo n m m) 5) := by
  have hmk := fun wx => Go.run_make_row' (P := Try.prog) 36 5 (.int .u8 0) 1 Try.underlying36 infoU8 rfl .i64 .i64 m (by omega) (by omega) wx
  go_enter Try.func80, Try.ntmps80
  go_wp2_with (go_at_call 75; refine (isWidth_yes _ _ (by omega) (by omega)).mono ?_; rintro e w' ⟨rfl, rfl⟩)
  go_loopw [14] (fun i wr => ∃ k : Nat, k ≤ m ∧ i = .int .i64 k ∧ wr = w'.alloc (.cells (putTo n m k) 5)) (fun i _ => m - (intOf i).toNat)
  case atStart => exact ⟨0, Nat.zero_le _, rfl, rfl⟩
  case round =>
    obtain ⟨k, hk, rfl, rfl⟩ := hrel
    by_cases hlt : k < m
    · obtain ⟨v, hv⟩ := putTo_get n m k (m - 1 - k) (by omega)
      go_wp2
      go_roundw
      case rel => exact ⟨k + 1, by omega, by go_num, rfl⟩
      case measure => simp [intOf]; omega
    · go_wp2
      go_ret
      have : k = m := by omega
      subst this
      exact ⟨rfl, rfl⟩

set_option maxHeartbeats 400000 in
theorem put_no (n width : Int) (w : World) (h : width < 1 ∨ 8 < width) :
    Calls Try.prog 80 #[.int .u64 n, .int .i64 width] w fun e w' => e = .returned (.slice none 0 0) ∧ w' = w := by
  have hh : Hid (width < 1 ∨ 8 < width) := h
  clear h
  go_enter Try.func80, Try.ntmps80
  go_wp2_with (go_at_call 75; refine (isWidth_no _ _ hh.out).mono ?_; rintro e w' ⟨rfl, rfl⟩)
  go_ret
  exact ⟨rfl, rfl⟩
end Go.Proofs.Ytgcpoanjjgbfjaa
