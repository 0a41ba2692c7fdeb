/-
  Arrays of six bytes that are held against themselves.
-/
import Derived.Test.YtkijjmmebgogpaaDoorOpen
import Derived.DeepKeys
namespace Go.Proofs.YtkijjmmebgogpaaDoor
open Go.RowKit
set_option linter.unusedVariables false
theorem keyMac : Tryd.prog.keyTypeAt 2 35 = true := by kernel_rfl
theorem wf_u8 (b : Int) (h : 0 ≤ b ∧ b ≤ 255) : (Lit.int .u8 b).wf = true := by
  simp [Lit.wf, IntKind.min, IntKind.max, IntKind.bits, IntKind.signed]; omega
theorem mac_same (b0 b1 b2 b3 b4 b5 : Int) (w : World) (h0 : 0 ≤ b0 ∧ b0 ≤ 255) (h1 : 0 ≤ b1 ∧ b1 ≤ 255) (h2 : 0 ≤ b2 ∧ b2 ≤ 255) (h3 : 0 ≤ b3 ∧ b3 ≤ 255) (h4 : 0 ≤ b4 ∧ b4 ≤ 255) (h5 : 0 ≤ b5 ∧ b5 ≤ 255) : (Op.equalIn 10000 35 (.agg #[.int .u8 b0, .int .u8 b1, .int .u8 b2, .int .u8 b3, .int .u8 b4, .int .u8 b5]) (.agg #[.int .u8 b0, .int .u8 b1, .int .u8 b2, .int .u8 b3, .int .u8 b4, .int .u8 b5])).run Tryd.prog w = .ok true w := by
  have hk : Tryd.prog.keyLits 3 35 (Value.cells (.agg #[.int .u8 b0, .int .u8 b1, .int .u8 b2, .int .u8 b3, .int .u8 b4, .int .u8 b5])).toList = some [.int .u8 b0, .int .u8 b1, .int .u8 b2, .int .u8 b3, .int .u8 b4, .int .u8 b5] := by
    simp [Program.keyLits, Tryd.underlying35, Tryd.underlying5, cellsMac, cellsU8, Value.cells, List.range_succ, wf_u8 _ h0, wf_u8 _ h1, wf_u8 _ h2, wf_u8 _ h3, wf_u8 _ h4, wf_u8 _ h5]
  have hf : (Value.formed Tryd.prog 35 (.agg #[.int .u8 b0, .int .u8 b1, .int .u8 b2, .int .u8 b3, .int .u8 b4, .int .u8 b5])) = true := by kernel_rfl
  obtain ⟨r, hr, hi⟩ := run_equalIn_deep (P := Tryd.prog) 9998 2 35 keyMac w 3 3 _ _ _ _ hf hf hk hk
  rw [hi.2 rfl] at hr
  exact hr
end Go.Proofs.YtkijjmmebgogpaaDoor
