/-
  Rows of elements of several cells that are being made, appended to one by one. For every seat (out of NwA).
-/
import Derived.Test.YtdcppiknomoigaaDoorBRowT
namespace Go.Proofs.YtdcppiknomoigaaDoor
open Go.RowKit
set_option linter.all false

theorem flatG {α : Type} (f : α → List Value) (sz : Nat) (hf : ∀ x, (f x).length = sz) : ∀ (l : List α) (k j : Nat) (y : α), l[k]? = some y → j < sz → (l.flatMap f)[k * sz + j]? = (f y)[j]?
  | [], k, j, y, h, _ => by simp at h
  | x :: l, 0, j, y, h, hj => by
    simp at h; subst h
    simp only [List.flatMap_cons, Nat.zero_mul, Nat.zero_add]
    rw [List.getElem?_append_left (by rw [hf]; exact hj)]
  | x :: l, k + 1, j, y, h, hj => by
    simp at h
    have ih := flatG f sz hf l k j y h hj
    simp only [List.flatMap_cons]
    rw [List.getElem?_append_right (by rw [hf, Nat.add_mul]; omega), hf, show (k + 1) * sz + j - sz = k * sz + j from by rw [Nat.add_mul]; omega]
    exact ih
theorem flatL {α : Type} (f : α → List Value) (sz : Nat) (hf : ∀ x, (f x).length = sz) : ∀ l : List α, (l.flatMap f).length = l.length * sz
  | [] => by simp
  | x :: l => by
    rw [List.flatMap_cons, List.length_append, flatL f sz hf l, hf, List.length_cons, Nat.add_mul]; omega
theorem RowS.at0 {w : World} {e : TypeId} {sz : Nat} {a : Option Addr} {n cp : Nat} {xs : List Value} (h : RowS w e sz (.slice a n cp) n xs) (h0 : 0 < n) : ∃ g, a = some ⟨g, 0, none⟩ ∧ ∀ (j : Nat) (u : Value), xs[j]? = some u → w.cell? ⟨g, j, none⟩ = some u := by
  obtain ⟨g, cap, h1, h2, h3⟩ := h.some_of h0
  simp only [Value.slice.injEq] at h1
  obtain ⟨rfl, _, rfl⟩ := h1
  exact ⟨g, rfl, fun j u hj => RowS.cell h hj⟩
/-! ### rows that are being made -/
structure RowB (e : TypeId) (sz : Nat) (w wr : World) (a : Option Addr) (n cp : Nat) (xs : List Value) : Prop where
  row : RowS wr e sz (.slice a n cp) n xs
  new : ∀ b, (Value.slice a n cp).ownBlock = some b → w.heap.size ≤ b
  below : Below w.heap.size w wr
theorem RowB.void (e : TypeId) (sz : Nat) (w : World) : RowB e sz w w none 0 0 [] := ⟨RowS.nil _ _ _, by simp [Value.ownBlock], Below.refl _ _⟩
theorem RowB.bel {e : TypeId} {sz : Nat} {w wr wx : World} {a : Option Addr} {n cp : Nat} {xs : List Value} (h : RowB e sz w wr a n cp xs) (hb : Below wr.heap.size wr wx) : RowB e sz w wx a n cp xs :=
  ⟨h.row.below hb, h.new, bstep h.below hb⟩
theorem RowB.one (t e : TypeId) (z : Value) (sz bytes : Nat) (ht : Tryd.prog.underlying t = some (.slice e)) (hinfo : (Tryd.prog.info? e).map (fun i => (i.zero, i.size, i.bytes)) = some (some z, sz, bytes)) (hzc : z.cells.size = sz) (hsz : 0 < sz)
    {w wr w5 : World} {a : Option Addr} {n cp : Nat} {xs : List Value} (h : RowB e sz w wr a n cp xs) (hb : Below wr.heap.size wr w5) (C : Array Value) (hC : C.size = sz) (h1 : ∀ u ∈ C.toList, u.oneCell' = true) (hl : n + 1 ≤ maxLen) (hby : (n + 1) * bytes ≤ 140737488355328) :
    ∃ a' cp' w7, (Builtin.append_ #[t, t] t #[.slice a n cp, .slice (some ⟨w5.heap.size, 0, none⟩) 1 1]).run Tryd.prog (w5.alloc (.cells C e)) = .ok (.slice a' (n + 1) cp') w7 ∧ Hid (RowB e sz w w7 a' (n + 1) cp' (xs ++ C.toList)) ∧ Hid (∀ b, b < w5.heap.size → (Value.slice a n cp).ownBlock ≠ some b → w7.heap[b]? = w5.heap[b]?) := by
  have hbp := bpush (Below.refl w5.heap.size w5) (.cells C e)
  have hbW := bstep hb hbp
  have rW := h.row.below hbW
  have hnew : (w5.alloc (.cells C e)).heap[w5.heap.size]? = some (.cells C e (0, 0)) := heap_new _ _
  obtain ⟨v', w7, hrun, hrow, hgr, hloc⟩ := append_s t t e z sz bytes ht hinfo hzc hsz rW ⟨w5.heap.size, 0, none⟩ 1 1 C.toList (by simp [hC])
    (fun j u hj => by
      rw [show (⟨w5.heap.size, 0, none⟩ : Addr).add j = ⟨w5.heap.size, j, none⟩ from by unfold Addr.add; split <;> simp_all, cell_of_heap hnew, ← Array.getElem?_toList]
      exact hj)
    h1 hl hby
  obtain ⟨a', cp', hv', _⟩ := hrow.form
  subst hv'
  have hsz : wr.heap.size ≤ w5.heap.size := hb.size
  have h1sz : w.heap.size ≤ wr.heap.size := h.below.size
  have keepT : ∀ b, b < (w5.alloc (.cells C e)).heap.size → (Value.slice a n cp).ownBlock ≠ some b → w7.heap[b]? = (w5.alloc (.cells C e)).heap[b]? := fun b hlt hne => hgr.block b hlt (fun e => hne (by simpa using e.symm))
  have hb1 : Below w.heap.size w (w5.alloc (.cells C e)) := bstep h.below hbW
  refine ⟨a', cp', w7, hrun, ⟨hrow, fun b hb' => ?_, ?_⟩, fun b hb' hne => (keepT b (by simp; omega) hne).trans (heap_old w5 _ hb')⟩
  · rcases hloc b (by cases a' <;> simpa [Value.ownBlock] using hb') with h2 | h2
    · exact h.new b (by cases a <;> simpa [Value.ownBlock] using h2)
    · simp at h2; omega
  · exact ⟨hgr.os.trans hb1.os, hgr.tape.trans hb1.tape, hgr.output.trans hb1.output, Nat.le_trans hb1.size hgr.size, fun i hl' => (keepT i (Nat.lt_of_lt_of_le hl' hb1.size) (fun e => by have := h.new i e; omega)).trans (hb1.block i hl')⟩
end Go.Proofs.YtdcppiknomoigaaDoor
