/-
  Bytes of a call's own, from a block on: appends behind them. For every seat.
-/
import Derived.Test.YtgcpoanjjgbfjaaBApp
namespace Go.Proofs.Ytgcpoanjjgbfjaa
open Go.RowKit
set_option linter.all false

/-- bytes of a call's own, from block B on. -/
def OwnB (B : Nat) (zs : List Int) (a : Option Addr) (n c : Nat) (w : World) : Prop := Row w 5 (.slice a n c) (u8s zs) ∧ (∀ b, (Value.slice a n c).ownBlock = some b → B ≤ b) ∧ B ≤ w.heap.size
theorem OwnB.nil (w : World) : OwnB w.heap.size [] none 0 0 w := ⟨Row.nil _ _, by simp [Value.ownBlock], Nat.le_refl _⟩
theorem OwnB.len {B : Nat} {zs : List Int} {a : Option Addr} {n c : Nat} {w : World} (h : OwnB B zs a n c w) : n = zs.length := by
  obtain ⟨a', c', e, _⟩ := h.1.form
  simp only [Value.slice.injEq, u8s_len] at e
  exact e.2.1
theorem OwnB.below {B : Nat} {zs : List Int} {a : Option Addr} {n c : Nat} {w w' : World} (h : OwnB B zs a n c w) (hb : Below w.heap.size w w') : OwnB B zs a n c w' := ⟨h.1.below hb, h.2.1, Nat.le_trans h.2.2 hb.size⟩
/-- an append behind them. -/
theorem OwnB.app {B : Nat} {zs : List Int} {a : Option Addr} {n c : Nat} {w : World} (h : OwnB B zs a n c w) (pt : Part) (hok : pt.ok w) (hl : zs.length + pt.zs.length ≤ 140737488355328) (ty : TypeId) :
    ∃ a' n' c' w', (Builtin.append_ #[36, 36] ty #[.slice a n c, pt.val]).run Try.prog w = .ok (.slice a' n' c') w' ∧ OwnB B (zs ++ pt.zs) a' n' c' w' ∧ Below B w w' := by
  obtain ⟨a', c', w', h1, h2, h5, h6⟩ := append_row_part h.1 B h.2.2 h.2.1 pt hok hl ty
  exact ⟨a', _, c', w', h1, ⟨h2, h6, Nat.le_trans h.2.2 h5.size⟩, h5⟩
end Go.Proofs.Ytgcpoanjjgbfjaa
