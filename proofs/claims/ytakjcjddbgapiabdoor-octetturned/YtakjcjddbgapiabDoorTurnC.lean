/-
  The contract of octet.Turn.
-/
import Derived.Test.YtakjcjddbgapiabDoorFold
namespace Go.Proofs.YtakjcjddbgapiabDoor
open Go.RowKit
set_option linter.unusedVariables false

set_option maxHeartbeats 400000 in
theorem turn_any (a b c : Int) (w : World) (ha : 0 ≤ a ∧ a ≤ 65535) (hb : 0 ≤ b ∧ b ≤ 65535) (hc : 0 ≤ c ∧ c ≤ 65535) :
    Calls Tryd.prog 10 #[.int .u16 a, .int .u16 b, .int .u16 c] w fun e w' => e = .returned (.int .u16 (65535 - cs (65535 - a + (65535 - b) + c))) ∧ w' = w := by
  have hcb := cs_bd (65535 - a + (65535 - b) + c) (by omega)
  go_enter Tryd.func10, Tryd.ntmps10
  go_wp2_with (go_at_call 31; refine (fold_any _ _ (by omega) (by omega)).mono ?_; rintro e w' ⟨rfl, rfl⟩)
  go_ret
  exact ⟨rfl, rfl⟩

end Go.Proofs.YtakjcjddbgapiabDoor
