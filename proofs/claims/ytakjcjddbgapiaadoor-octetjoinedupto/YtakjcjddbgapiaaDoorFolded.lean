/-
  The contract of slipwayref01.Folded.
-/
import Derived.Test.YtakjcjddbgapiaaDoorFold
namespace Go.Proofs.YtakjcjddbgapiaaDoor
open Go.RowKit
set_option linter.unusedVariables false

theorem folded_step (v : Int) (h0 : 65535 < v) (h1 : v ≤ 18446744073709551615) : IntKind.u64.wrap (v % 65536 + v / 65536) = v % 65536 + v / 65536 := by
  rw [IntKind.wrap_u64]; omega

set_option maxHeartbeats 400000 in
theorem folded_any (u : Int) (w : World) (h3 : 0 ≤ u) (h4 : u ≤ 18446744073709551615) :
    Calls Tryd.prog 32 #[.int .u64 u] w fun e w' => e = .returned (.int .u64 (cs u)) ∧ w' = w := by
  go_enter Tryd.func32, Tryd.ntmps32
  go_wp2
  go_loop [0] (fun t => ∃ v : Int, 0 ≤ v ∧ v ≤ 18446744073709551615 ∧ t = .int .u64 v ∧ cs v = cs u) (fun t => (intOf t).toNat)
  case atStart => exact ⟨u, h3, h4, rfl, rfl⟩
  case round =>
    obtain ⟨v, hv0, hv1, rfl, hc⟩ := hrel
    have HC : Hid (cs v = cs u) := hc
    clear hc
    by_cases hlt : 65535 < v
    · go_wp2
      go_round
      case rel => exact ⟨v % 65536 + v / 65536, by omega, by omega, by first | rfl | rw [folded_step v hlt hv1], by rw [cs_step v hlt, HC.out]⟩
      case measure => first | (simp [intOf]; omega) | (rw [folded_step v hlt hv1]; simp [intOf]; omega)
    · go_wp2
      go_ret
      exact ⟨ret_int (by rw [← HC.out, cs_small v hv0 hlt]), rfl⟩

end Go.Proofs.YtakjcjddbgapiaaDoor
