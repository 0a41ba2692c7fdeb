/-
  What is made of one draw: the closures, and use.
-/
import Derived.Test.YthipdchdbdmmnaaPDMake
import Derived.Test.YthipdchdbdmmnaaPDMath
namespace Go.Proofs.Ythipdchdbdmmnaa
open Go.RowKit
set_option linter.all false

set_option maxHeartbeats 1000000 in
theorem portC_any (d : Int) (w : World) (hd : 0 ≤ d ∧ d ≤ 4294967295) :
    Calls Try.prog 58 #[.int .u32 d] w fun e w' => e = .returned (.int .i64 (49152 + d % 16384)) ∧ w' = w := by
  have h1 := hd.1
  have h2 := hd.2
  have e0 : d.tmod 16384 = d % 16384 := Int.tmod_eq_emod_of_nonneg h1
  have e1 : 0 ≤ d % 16384 := by omega
  have e2 : d % 16384 ≤ 16383 := by omega
  obtain ⟨R, hR⟩ : ∃ R, R = d % 16384 := ⟨_, rfl⟩
  rw [← hR] at e0 e1 e2 ⊢
  have e4 : d % 16384 = R := hR.symm
  clear hR
  go_enter Try.func58, Try.ntmps58
  go_wp2
  go_ret
  exact ⟨rfl, rfl⟩
/-- a wait of about b, by a draw. -/
def waitI (b d : Int) : Int := b - b / 4 + restI d (b / 2)
end Go.Proofs.Ythipdchdbdmmnaa
