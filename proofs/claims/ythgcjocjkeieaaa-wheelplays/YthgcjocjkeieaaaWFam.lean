/-
  Owners of memory beside each other: what one of them does leaves the others alone.
-/
import Derived.Test.YthgcjocjkeieaaaWLive
namespace Go.Proofs.Ythgcjocjkeieaaa
open Go.RowKit
set_option linter.all false

/-- owner j's blocks are O j: none is another one's; all are new since w0. -/
structure Fam (w0 w : World) (O : Nat → Nat → Prop) : Prop where
  lt : ∀ j k, O j k → k < w.heap.size
  lo : ∀ j k, O j k → w0.heap.size ≤ k
  apart : ∀ i j k, i ≠ j → O i k → ¬ O j k
  below : Below w0.heap.size w0 w
def updO (O : Nat → Nat → Prop) (i : Nat) (K : Nat → Prop) : Nat → Nat → Prop := fun j => if j = i then K else O j
theorem updO_same (O : Nat → Nat → Prop) (i : Nat) (K : Nat → Prop) : updO O i K i = K := by simp [updO]
theorem updO_other {O : Nat → Nat → Prop} {i j : Nat} (K : Nat → Prop) (h : j ≠ i) : updO O i K j = O j := by simp [updO, h]
theorem Fam.start (w0 : World) : Fam w0 w0 (fun _ _ => False) := ⟨fun _ _ h => h.elim, fun _ _ h => h.elim, fun _ _ _ _ h => h.elim, Below.refl _ _⟩
/-- owner i has done something. -/
theorem Fam.turn {w0 w w' : World} {O : Nat → Nat → Prop} (h : Fam w0 w O) (i : Nat) {K : Nat → Prop} (ht : Turned (O i) w K w') (hl : ∀ k, K k → k < w'.heap.size) :
    Fam w0 w' (updO O i K) ∧ ∀ j, j ≠ i → ∀ k, O j k → w'.heap[k]? = w.heap[k]? := by
  have hs := ht.only.size
  have hkeep : ∀ j, j ≠ i → ∀ k, O j k → w'.heap[k]? = w.heap[k]? := fun j hj k hk => ht.only.block k (h.apart j i k hj hk) (h.lt j k hk)
  have hK : ∀ k, K k → O i k ∨ w.heap.size ≤ k := ht.new
  refine ⟨⟨fun j k hk => ?_, fun j k hk => ?_, fun a j k hne hk => ?_, h.below.trans (ht.only.below (h.lo i) h.below.size)⟩, hkeep⟩
  · by_cases e : j = i
    · subst e; rw [updO_same] at hk; exact hl k hk
    · rw [updO_other _ e] at hk; have := h.lt j k hk; omega
  · by_cases e : j = i
    · subst e
      rw [updO_same] at hk
      rcases hK k hk with h1 | h1
      · exact h.lo j k h1
      · have := h.below.size; omega
    · rw [updO_other _ e] at hk; exact h.lo j k hk
  · by_cases e : a = i
    · subst e
      rw [updO_same] at hk
      rw [updO_other _ (Ne.symm hne)]
      rcases hK k hk with h1 | h1
      · exact h.apart a j k hne h1
      · intro h2; have := h.lt j k h2; omega
    · rw [updO_other _ e] at hk
      by_cases e2 : j = i
      · subst e2
        rw [updO_same]
        intro h2
        rcases hK k h2 with h1 | h1
        · exact h.apart a j k hne hk h1
        · have := h.lt a k hk; omega
      · rw [updO_other _ e2]; exact h.apart a j k hne hk
/-- .. or nobody has, and new blocks are owner i's. -/
theorem Fam.add {w0 w w' : World} {O : Nat → Nat → Prop} (h : Fam w0 w O) (i : Nat) (hb : Below w.heap.size w w') {K : Nat → Prop} (hK : ∀ k, K k → (w.heap.size ≤ k ∨ O i k) ∧ k < w'.heap.size) :
    Fam w0 w' (updO O i K) ∧ ∀ j k, O j k → w'.heap[k]? = w.heap[k]? := by
  have h1 := h.turn i (K := K) (w' := w') ⟨Only.of_below hb, fun k hk => (hK k hk).1.symm⟩ (fun k hk => (hK k hk).2)
  exact ⟨h1.1, fun j k hk => hb.block k (h.lt j k hk)⟩
theorem Fam.pass {w0 w w' : World} {O : Nat → Nat → Prop} (h : Fam w0 w O) (hb : Below w.heap.size w w') : Fam w0 w' O ∧ ∀ j k, O j k → w'.heap[k]? = w.heap[k]? :=
  ⟨⟨fun j k hk => by have := h.lt j k hk; have := hb.size; omega, h.lo, h.apart, bstep h.below hb⟩, fun j k hk => hb.block k (h.lt j k hk)⟩
theorem bdrewN (w : World) (q : Nat) : Below w.heap.size w (w.drewN q) := ⟨rfl, rfl, rfl, Nat.le_refl _, fun _ _ => rfl⟩
/-- owner i gives up what it had. -/
theorem Fam.drop {w0 w : World} {O : Nat → Nat → Prop} (h : Fam w0 w O) (i : Nat) : Fam w0 w (updO O i (fun _ => False)) :=
  (h.turn i (K := fun _ => False) (w' := w) ⟨Only.refl _ _, fun k hk => hk.elim⟩ (fun k hk => hk.elim)).1
/-- a block goes from nobody to owner i. -/
theorem Fam.own {w0 w : World} {O : Nat → Nat → Prop} (h : Fam w0 w O) (i : Nat) {K : Nat → Prop} (hK : ∀ k, K k → O i k ∨ (k < w.heap.size ∧ w0.heap.size ≤ k ∧ ∀ j, ¬ O j k)) : Fam w0 w (updO O i K) := by
  refine ⟨fun j k hk => ?_, fun j k hk => ?_, fun a j k hne hk => ?_, h.below⟩
  · by_cases e : j = i
    · subst e; rw [updO_same] at hk
      rcases hK k hk with h1 | h1
      · exact h.lt j k h1
      · exact h1.1
    · rw [updO_other _ e] at hk; exact h.lt j k hk
  · by_cases e : j = i
    · subst e; rw [updO_same] at hk
      rcases hK k hk with h1 | h1
      · exact h.lo j k h1
      · exact h1.2.1
    · rw [updO_other _ e] at hk; exact h.lo j k hk
  · by_cases e : a = i
    · subst e
      rw [updO_same] at hk
      rw [updO_other _ (Ne.symm hne)]
      rcases hK k hk with h1 | h1
      · exact h.apart a j k hne h1
      · exact h1.2.2 j
    · rw [updO_other _ e] at hk
      by_cases e2 : j = i
      · subst e2
        rw [updO_same]
        intro h2
        rcases hK k h2 with h1 | h1
        · exact h.apart a j k hne hk h1
        · exact h1.2.2 a hk
      · rw [updO_other _ e2]; exact h.apart a j k hne hk
/-- the blocks of a slice. -/
def blkOf (v : Value) (k : Nat) : Prop := v.ownBlock = some k
theorem blk_nil (k : Nat) : ¬ blkOf (.slice none 0 0) k := by simp [blkOf, Value.ownBlock]
end Go.Proofs.Ythgcjocjkeieaaa
