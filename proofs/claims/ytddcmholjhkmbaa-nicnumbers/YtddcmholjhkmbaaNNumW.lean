/-
  The walk of the statement NicNumbers.
-/
import Derived.Test.YtddcmholjhkmbaaNLiveW
namespace Go.Proofs.Ytddcmholjhkmbaa
open Go.RowKit
set_option linter.all false

set_option maxHeartbeats 400000 in
theorem nicNumbers_walk (w : World) : Calls Try.prog 3 #[] w fun e w' => e = .returned (.bool true) ∧ Below w.heap.size w w' := by
  go_enter Try.func3, Try.ntmps3
  go_wp2_with (first | (go_at_call 6; refine (nlive_any w).mono ?_; rintro e w1 ⟨rfl, hb1⟩; have HB1 := hid hb1; clear hb1))
  go_ret
  exact ⟨rfl, HB1.out⟩
end Go.Proofs.Ytddcmholjhkmbaa
