/-
  May an address be one host's: octet's and the document's own answer. For every seat.
-/
import Derived.Test.YtgcpoanjjgbfjaaRows
import Derived.WalkKit
import Derived.WalkSpells
import Derived.WalkLawsBesides
import Derived.Laws.BitsAllLaws
namespace Go.Proofs.Ytgcpoanjjgbfjaa
open Go.RowKit
set_option linter.all false

theorem host_ret {a b : Bool} (h : a = b) : Ending.returned (.bool a) = .returned (.bool b) := by rw [h]
theorem host_int {k : IntKind} {a b : Int} (h : a = b) : Ending.returned (.int k a) = .returned (.int k b) := by rw [h]
/-- may it be one host's? -/
def hostB (m : Int) : Bool := decide (1 ≤ m / 16777216 ∧ m / 16777216 ≤ 223 ∧ ¬ m / 16777216 = 127)
set_option maxHeartbeats 400000 in
theorem isHost_any (m : Int) (w : World) (h0 : 0 ≤ m) (h1 : m ≤ 4294967295) :
    Calls Try.prog 50 #[.int .u32 m] w fun e w' => e = .returned (.bool (hostB m)) ∧ w' = w := by
  have HV : Hid (hostB m = decide (1 ≤ m / 16777216 ∧ m / 16777216 ≤ 223 ∧ ¬ m / 16777216 = 127)) := rfl
  go_enter Try.func50, Try.ntmps50
  go_wp2
  · go_ret
    exact ⟨host_ret (by rw [HV.out, Bool.eq_iff_iff]; simp; omega), rfl⟩
  · go_ret
    exact ⟨host_ret (by rw [HV.out]; simp; omega), rfl⟩
  · go_ret
    exact ⟨host_ret (by rw [HV.out]; simp; omega), rfl⟩

end Go.Proofs.Ytgcpoanjjgbfjaa
