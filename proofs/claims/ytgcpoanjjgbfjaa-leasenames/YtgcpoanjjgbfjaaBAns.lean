/-
  Answers that are bytes of the call's own. For every seat.
-/
import Derived.Test.YtgcpoanjjgbfjaaBOwnP
import Derived.Test.YtgcpoanjjgbfjaaBOwned
import Derived.Test.YtgcpoanjjgbfjaaBBookL
namespace Go.Proofs.Ytgcpoanjjgbfjaa
open Go.RowKit
set_option linter.all false

theorem Row.but {w w' : World} {e : TypeId} {v : Value} {vs : List Value} {g : Nat} (h : Row w e v vs) (hb : But g w w') (hn : ∀ b, v.ownBlock = some b → b ≠ g) : Row w' e v vs := h.keep fun b hv => hb.block b (hn b hv) (h.lt hv)
theorem Row.conv {w : World} {v : Value} {zs : List Int} (h : Row w 5 v (u8s zs)) (hz : ∀ z, z ∈ zs → 0 ≤ z ∧ z ≤ 255) (k : Nat) : (convert 36 9 v).run Try.prog (w.drewN k) = .ok (.string (strOfNums zs)) (w.drewN k) := by
  obtain ⟨pt, e1, e2, ok⟩ := h.part hz
  rw [e1, ← e2]
  exact conv_part pt _ (Part.ok_drewN ok k)
theorem Row.conv0 {w : World} {v : Value} {zs : List Int} (h : Row w 5 v (u8s zs)) (hz : ∀ z, z ∈ zs → 0 ≤ z ∧ z ≤ 255) : (convert 36 9 v).run Try.prog w = .ok (.string (strOfNums zs)) w := by
  obtain ⟨pt, e1, e2, ok⟩ := h.part hz
  rw [e1, ← e2]
  exact conv_part pt _ ok
/-- an answer: bytes of the call's own. -/
def Ans (w w' : World) (ys : List Int) (a : Option Addr) (n c : Nat) : Prop := Row w' 5 (.slice a n c) (u8s ys) ∧ (∀ b, (Value.slice a n c).ownBlock = some b → w.heap.size ≤ b) ∧ Below w.heap.size w w'
theorem ans_nil {w w' : World} (h : Below w.heap.size w w') : Ans w w' [] none 0 0 := ⟨Row.nil _ _, by simp [Value.ownBlock], h⟩
theorem ans_row {w w' : World} {g n : Nat} {ys : List Int} (hn : ys.length = n) (hm : n ≤ maxLen) (hg : w'.heap[g]? = some (.cells (u8s ys).toArray 5 (0, 0))) (hw : w.heap.size ≤ g) (h : Below w.heap.size w w') : Ans w w' ys (some ⟨g, 0, none⟩) n n := by
  subst hn
  have := Row.of_heap hg (by rw [u8s_len]; exact hm)
  rw [u8s_len] at this
  exact ⟨this, fun b hb => by simp [Value.ownBlock] at hb; omega, h⟩
theorem ans_lt {w w' : World} {ys : List Int} {a : Option Addr} {n c : Nat} (h : Ans w w' ys a n c) : ∀ b, (Value.slice a n c).ownBlock = some b → w.heap.size ≤ b ∧ b < w'.heap.size := fun b hb => ⟨h.2.1 b hb, h.1.lt hb⟩
end Go.Proofs.Ytgcpoanjjgbfjaa
