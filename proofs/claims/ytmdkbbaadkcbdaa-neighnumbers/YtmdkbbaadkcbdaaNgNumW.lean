/-
  The walk of the statement NeighNumbers.
-/
import Derived.Test.YtmdkbbaadkcbdaaNLiv
namespace Go.Proofs.Ytmdkbbaadkcbdaa
open Go.RowKit
set_option linter.all false

set_option maxHeartbeats 400000 in
theorem neighNumbers_walk (w : World) : Calls Try.prog 3 #[] w fun e w' => e = .returned (.bool true) ∧ Below w.heap.size w w' := by
  go_enter Try.func3, Try.ntmps3
  go_wp2_with fail
  refine (live_any _).mono ?_
  rintro e w1 ⟨rfl, hb1⟩
  have HB1 := hid hb1
  clear hb1
  go_wp2
  go_ret
  exact ⟨rfl, HB1.out⟩
end Go.Proofs.Ytmdkbbaadkcbdaa
