/-
  The walk of the statement InetNames.
-/
import Derived.Test.YtccmkljbedddiaaILive
namespace Go.Proofs.Ytccmkljbedddiaa
open Go.RowKit
set_option linter.all false

set_option maxRecDepth 20000 in
set_option maxHeartbeats 1000000 in
theorem inetNames_walk (w : World) : Calls Try.prog 3 #[] w fun e w' => e = .returned (.bool true) ∧ Below w.heap.size w w' := by
  go_enter Try.func3, Try.ntmps3
  go_wp2_with fail
  refine (awake_any _).mono ?_
  rintro e w1 ⟨rfl, hb1⟩
  have HB1 := hid (bpush hb1 (.cells #[.int .i64 90, .int .i64 91, .int .i64 92, .int .i64 93, .int .i64 94, .int .i64 95] 23))
  clear hb1
  go_wp2
  generalize hW : w1.alloc _ = W at *
  have HC : Hid (∀ q, W.cell? ⟨w1.heap.size, q, none⟩ = (#[.int .i64 90, .int .i64 91, .int .i64 92, .int .i64 93, .int .i64 94, .int .i64 95] : Array Value)[q]?) := fun q => by
    subst hW
    exact cell_of_heap (heap_new _ _) q
  clear hW
  generalize w1.heap.size = ga at *
  go_loop [3] (fun i => ∃ k : Nat, k ≤ 6 ∧ i = .int .i64 k) (fun i => 6 - (intOf i).toNat)
  case atStart => exact ⟨0, by omega, rfl⟩
  case round =>
    obtain ⟨k, hk, rfl⟩ := hrel
    by_cases hlt : k < 6
    · have hc := HC.out k
      have hcc : W.cell? ⟨ga, k, none⟩ = some (.int .i64 (90 + k)) := by
        rw [hc]
        rcases (show k = 0 ∨ k = 1 ∨ k = 2 ∨ k = 3 ∨ k = 4 ∨ k = 5 by omega) with rfl | rfl | rfl | rfl | rfl | rfl <;> rfl
      clear hc
      go_wp2
      go_round
      case rel => exact ⟨k + 1, by omega, by go_num⟩
      case measure => simp [intOf]; omega
    · have : k = 6 := by omega
      subst this
      go_wp2
      go_ret
      exact ⟨rfl, HB1.out⟩
end Go.Proofs.Ytccmkljbedddiaa
