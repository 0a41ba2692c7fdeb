/-
  The statements' book of rows of options: a row laid behind its rows.
-/
import Derived.Test.YtmdkanbfpmdimaaOBkT
namespace Go.Proofs.Ytmdkanbfpmdimaa
open Go.RowKit
set_option linter.all false

theorem B15.BookI.rebox {R S R' S' : Value} {w w' : World} {B gk : Nat} {L V : Value} {ls : List (Value × List Int)} (h : B15.BookI R S w B gk L V ls) (hb : w'.heap[gk]? = some (.cells #[L, V, R', S'] 39 (0, 0)))
    (hk : ∀ k, (L.ownBlock = some k ∨ V.ownBlock = some k) → w'.heap[k]? = w.heap[k]?) (hl : ∀ p, p ∈ ls → ∀ b, p.1.ownBlock = some b → w'.heap[b]? = w.heap[b]?) : B15.BookI R' S' w' B gk L V ls :=
  ⟨hb, h.lists.keep fun b hb => hk b (Or.inl hb), h.was.keep fun b hb => hk b (Or.inr hb), h.low, h.bL, h.bV, h.bLV, fun p hp => ⟨(h.rows p hp).1.keep fun b hb => hl p hp b hb, (h.rows p hp).2⟩, h.own, h.few⟩
/-- a row is laid behind the book's rows, in cell j of the book. -/
theorem put_row {w : World} {gk : Nat} {cs : Array Value} {j : Nat} {R v : Value} {vs : List Value} (hbox : w.heap[gk]? = some (.cells cs 39 (0, 0))) (hr : Row w 25 R vs) (hv : v.oneCell' = true) (hn : vs.length ≤ 1000000) :
    ∃ gR nR cR w1, (Builtin.append_ #[37, 37] 37 #[R, .slice (some ⟨w.heap.size, 0, none⟩) 1 1]).run Try.prog (w.alloc (.cells #[v] 25)) = .ok (.slice (some ⟨gR, 0, none⟩) nR cR) w1 ∧ w1.heap[gk]? = some (.cells cs 39 (0, 0)) ∧
      (w1.setCell ⟨gk, j, none⟩ (.slice (some ⟨gR, 0, none⟩) nR cR)).heap[gk]? = some (.cells (cs.setIfInBounds j (.slice (some ⟨gR, 0, none⟩) nR cR)) 39 (0, 0)) ∧ Row (w1.setCell ⟨gk, j, none⟩ (.slice (some ⟨gR, 0, none⟩) nR cR)) 25 (.slice (some ⟨gR, 0, none⟩) nR cR) (vs ++ [v]) ∧
      (R.ownBlock = some gR ∨ w.heap.size ≤ gR) ∧ (∀ b, b < w.heap.size → b ≠ gk → R.ownBlock ≠ some b → (w1.setCell ⟨gk, j, none⟩ (.slice (some ⟨gR, 0, none⟩) nR cR)).heap[b]? = w.heap[b]?) ∧ w.heap.size ≤ (w1.setCell ⟨gk, j, none⟩ (.slice (some ⟨gR, 0, none⟩) nR cR)).heap.size ∧
      (∀ B, B ≤ w.heap.size → B ≤ gk → (∀ b, R.ownBlock = some b → B ≤ b) → Below B w (w1.setCell ⟨gk, j, none⟩ (.slice (some ⟨gR, 0, none⟩) nR cR))) := by
  have r0 : Row (w.alloc (.cells #[v] 25)) 25 R vs := hr.below ((Below.refl _ _).alloc (Nat.le_refl _) _)
  obtain ⟨R', w1, hap, rR, hgr, hR'⟩ := append_one 37 37 25 _ 24 Try.underlying37 infoRow rfl r0 v hv w.heap.size _ (heap_new _ _) (by unfold maxLen; omega) (by omega)
  have m0 : Moved w.heap.size R R' := Moved.of hR' (by simp)
  obtain ⟨gR, nR, cR, rfl, hloc⟩ := m0
  have hgk := heap_lt hbox
  have hng : R.ownBlock ≠ some gk := fun e => by
    obtain ⟨c1, f1, h1⟩ := hr.obj e
    rw [hbox] at h1
    simp at h1
  have box1 : w1.heap[gk]? = some (.cells cs 39 (0, 0)) := (hgr.block gk (by simp; omega) (fun e => hng e.symm)).trans ((heap_old _ _ hgk).trans hbox)
  have sz1 : w.heap.size + 1 ≤ w1.heap.size := by have := hgr.size; simpa using this
  have keep : ∀ b, b < w.heap.size → b ≠ gk → R.ownBlock ≠ some b → (w1.setCell ⟨gk, j, none⟩ (.slice (some ⟨gR, 0, none⟩) nR cR)).heap[b]? = w.heap[b]? := fun b hb h1 h2 => by
    rw [Below.heap_setCell _ _ _ _ (by simpa using h1), hgr.block b (by simp; omega) (fun e => h2 e.symm)]
    exact heap_old _ _ hb
  refine ⟨gR, nR, cR, w1, hap, box1, heap_setCell box1, rR.grown (grown_setCell w1 gk j _) (fun b hb e => ?_), hloc, keep, by simp [World.setCell]; omega, fun B h1 h2 h3 => ⟨?_, ?_, ?_, by simp [World.setCell]; omega, fun b hb => keep b (by omega) (by omega) (fun e => by have := h3 b e; omega)⟩⟩
  · simp only [Option.some.injEq] at e
    subst e
    obtain ⟨c1, f1, h1⟩ := rR.obj hb
    rw [box1] at h1
    simp at h1
  · exact hgr.os
  · exact hgr.tape
  · exact hgr.output
end Go.Proofs.Ytmdkanbfpmdimaa
