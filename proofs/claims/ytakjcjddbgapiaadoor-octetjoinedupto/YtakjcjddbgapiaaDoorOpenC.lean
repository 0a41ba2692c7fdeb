/-
  A slice of bytes that came in, with its room.
-/
import Derived.Test.YtakjcjddbgapiaaDoorOpen
namespace Go.Proofs.YtakjcjddbgapiaaDoor
open Go.ChangeShapes Go.WideShapes Go.ChangeAt Go.RowKit
set_option linter.unusedVariables false
section
variable {H : Type} {enc : TypeId × Value → H} {W : World}
theorem open_bytes_c {base : Nat} {sp : Nat → Bool} {v : Value} {d : DataW H} {p : List MemPlace} (hs : ∀ b, sp b = true) (hv : Value.okWide Tryd.prog W .any base 28 v) (h : DataW.Trod enc Tryd.prog W 0 sp true 28 v d p) :
    ∃ pt : Part, v = pt.val ∧ pt.ok W ∧ pt.zs.length ≤ pt.c ∧ (d = .nil ∧ pt.zs = [] ∨ ∃ spare, d = .slice (lits .u8 pt.zs) spare) := by
  obtain ⟨pt, hv1, hok, hd⟩ := open_bytes hs hv h
  refine ⟨pt, hv1, hok, ?_, hd⟩
  obtain ⟨fuel, hf⟩ := h
  subst hv1
  rcases open_ints Tryd.underlying28 Tryd.underlying5 cellsU8 hf with ⟨hcs, hx⟩ | ⟨x, l, c, zs, hcs, _, hl, hm, hz, hx, hcell, hwz⟩
  · simp [Value.cells, Part.val] at hcs
    simp [hcs.2.1]
  · simp [Value.cells, Part.val] at hcs
    omega
end
end Go.Proofs.YtakjcjddbgapiaaDoor
