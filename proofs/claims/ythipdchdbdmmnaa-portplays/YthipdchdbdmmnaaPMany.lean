/-
  Owners of memory beside each other, each with what holds of it: what one of them does leaves the others alone. Written by mkpmany.py.
-/
import Derived.Test.YthipdchdbdmmnaaPKJ
import Derived.Test.YthipdchdbdmmnaaPRj
import Derived.Test.YthipdchdbdmmnaaPLT
namespace Go.Proofs.Ythipdchdbdmmnaa
open Go.RowKit
set_option linter.all false

/-- owner j's blocks are O j: none is another one's; all are new since w0. -/
structure Fam (w0 w : World) (O : Nat → Nat → Prop) : Prop where
  lt : ∀ j k, O j k → k < w.heap.size
  lo : ∀ j k, O j k → w0.heap.size ≤ k
  apart : ∀ i j k, i ≠ j → O i k → ¬ O j k
  below : Below w0.heap.size w0 w
def updO (O : Nat → Nat → Prop) (i : Nat) (K : Nat → Prop) : Nat → Nat → Prop := fun j => if j = i then K else O j
theorem updO_same (O : Nat → Nat → Prop) (i : Nat) (K : Nat → Prop) : updO O i K i = K := by simp [updO]
theorem updO_other {O : Nat → Nat → Prop} {i j : Nat} (K : Nat → Prop) (h : j ≠ i) : updO O i K j = O j := by simp [updO, h]
theorem Fam.start (w0 : World) : Fam w0 w0 (fun _ _ => False) := ⟨fun _ _ h => h.elim, fun _ _ h => h.elim, fun _ _ _ _ h => h.elim, Below.refl _ _⟩
/-- owner i has done something. -/
theorem Fam.turn {w0 w w' : World} {O : Nat → Nat → Prop} (h : Fam w0 w O) (i : Nat) {K : Nat → Prop} (ht : Turned (O i) w K w') (hl : ∀ k, K k → k < w'.heap.size) :
    Fam w0 w' (updO O i K) ∧ ∀ j, j ≠ i → ∀ k, O j k → w'.heap[k]? = w.heap[k]? := by
  have hs := ht.only.size
  have hkeep : ∀ j, j ≠ i → ∀ k, O j k → w'.heap[k]? = w.heap[k]? := fun j hj k hk => ht.only.block k (h.apart j i k hj hk) (h.lt j k hk)
  have hK : ∀ k, K k → O i k ∨ w.heap.size ≤ k := ht.new
  refine ⟨⟨fun j k hk => ?_, fun j k hk => ?_, fun a j k hne hk => ?_, h.below.trans (ht.only.below (h.lo i) h.below.size)⟩, hkeep⟩
  · by_cases e : j = i
    · subst e; rw [updO_same] at hk; exact hl k hk
    · rw [updO_other _ e] at hk; have := h.lt j k hk; omega
  · by_cases e : j = i
    · subst e
      rw [updO_same] at hk
      rcases hK k hk with h1 | h1
      · exact h.lo j k h1
      · have := h.below.size; omega
    · rw [updO_other _ e] at hk; exact h.lo j k hk
  · by_cases e : a = i
    · subst e
      rw [updO_same] at hk
      rw [updO_other _ (Ne.symm hne)]
      rcases hK k hk with h1 | h1
      · exact h.apart a j k hne h1
      · intro h2; have := h.lt j k h2; omega
    · rw [updO_other _ e] at hk
      by_cases e2 : j = i
      · subst e2
        rw [updO_same]
        intro h2
        rcases hK k h2 with h1 | h1
        · exact h.apart a j k hne hk h1
        · have := h.lt a k hk; omega
      · rw [updO_other _ e2]; exact h.apart a j k hne hk
/-- .. or nobody has, and new blocks are owner i's. -/
theorem Fam.add {w0 w w' : World} {O : Nat → Nat → Prop} (h : Fam w0 w O) (i : Nat) (hb : Below w.heap.size w w') {K : Nat → Prop} (hK : ∀ k, K k → (w.heap.size ≤ k ∨ O i k) ∧ k < w'.heap.size) :
    Fam w0 w' (updO O i K) ∧ ∀ j k, O j k → w'.heap[k]? = w.heap[k]? := by
  have h1 := h.turn i (K := K) (w' := w') ⟨Only.of_below hb, fun k hk => (hK k hk).1.symm⟩ (fun k hk => (hK k hk).2)
  exact ⟨h1.1, fun j k hk => hb.block k (h.lt j k hk)⟩
theorem Fam.pass {w0 w w' : World} {O : Nat → Nat → Prop} (h : Fam w0 w O) (hb : Below w.heap.size w w') : Fam w0 w' O ∧ ∀ j k, O j k → w'.heap[k]? = w.heap[k]? :=
  ⟨⟨fun j k hk => by have := h.lt j k hk; have := hb.size; omega, h.lo, h.apart, bstep h.below hb⟩, fun j k hk => hb.block k (h.lt j k hk)⟩
theorem bdrewN (w : World) (q : Nat) : Below w.heap.size w (w.drewN q) := ⟨rfl, rfl, rfl, Nat.le_refl _, fun _ _ => rfl⟩
/-- owner i gives up what it had. -/
theorem Fam.drop {w0 w : World} {O : Nat → Nat → Prop} (h : Fam w0 w O) (i : Nat) : Fam w0 w (updO O i (fun _ => False)) :=
  (h.turn i (K := fun _ => False) (w' := w) ⟨Only.refl _ _, fun k hk => hk.elim⟩ (fun k hk => hk.elim)).1
/-- a block goes from nobody to owner i. -/
theorem Fam.own {w0 w : World} {O : Nat → Nat → Prop} (h : Fam w0 w O) (i : Nat) {K : Nat → Prop} (hK : ∀ k, K k → O i k ∨ (k < w.heap.size ∧ w0.heap.size ≤ k ∧ ∀ j, ¬ O j k)) : Fam w0 w (updO O i K) := by
  refine ⟨fun j k hk => ?_, fun j k hk => ?_, fun a j k hne hk => ?_, h.below⟩
  · by_cases e : j = i
    · subst e; rw [updO_same] at hk
      rcases hK k hk with h1 | h1
      · exact h.lt j k h1
      · exact h1.1
    · rw [updO_other _ e] at hk; exact h.lt j k hk
  · by_cases e : j = i
    · subst e; rw [updO_same] at hk
      rcases hK k hk with h1 | h1
      · exact h.lo j k h1
      · exact h1.2.1
    · rw [updO_other _ e] at hk; exact h.lo j k hk
  · by_cases e : a = i
    · subst e
      rw [updO_same] at hk
      rw [updO_other _ (Ne.symm hne)]
      rcases hK k hk with h1 | h1
      · exact h.apart a j k hne h1
      · exact h1.2.2 j
    · rw [updO_other _ e] at hk
      by_cases e2 : j = i
      · subst e2
        rw [updO_same]
        intro h2
        rcases hK k h2 with h1 | h1
        · exact h.apart a j k hne hk h1
        · exact h1.2.2 a hk
      · rw [updO_other _ e2]; exact h.apart a j k hne hk

/-! ### What holds of owners -/
/-- what holds of an owner whose blocks are K; it speaks of these alone. -/
structure Ows where
  I : (Nat → Prop) → World → Prop
  keep : ∀ K w w', I K w → (∀ k, K k → w'.heap[k]? = w.heap[k]?) → I K w'
def nobody : Ows := ⟨fun _ _ => True, fun _ _ _ _ _ => trivial⟩
def updI (Is : Nat → Ows) (i : Nat) (J : Ows) : Nat → Ows := fun j => if j = i then J else Is j
theorem updI_same (Is : Nat → Ows) (i : Nat) (J : Ows) : updI Is i J i = J := by simp [updI]
theorem updI_other {Is : Nat → Ows} {i j : Nat} (J : Ows) (h : j ≠ i) : updI Is i J j = Is j := by simp [updI, h]
/-- owners beside one another. -/
def Many (w0 w : World) (Is : Nat → Ows) : Prop := ∃ O, Fam w0 w O ∧ ∀ j, (Is j).I (O j) w
theorem Many.below {w0 w : World} {Is : Nat → Ows} (h : Many w0 w Is) : Below w0.heap.size w0 w := by
  obtain ⟨O, h1, _⟩ := h
  exact h1.below
theorem Many.start (w0 : World) : Many w0 w0 (fun _ => nobody) := ⟨_, Fam.start w0, fun _ => trivial⟩
theorem Many.pass {w0 w w' : World} {Is : Nat → Ows} (h : Many w0 w Is) (hb : Below w.heap.size w w') : Many w0 w' Is := by
  obtain ⟨O, h1, h2⟩ := h
  obtain ⟨h3, h4⟩ := h1.pass hb
  exact ⟨O, h3, fun j => (Is j).keep _ w w' (h2 j) (h4 j)⟩
/-- what holds of owner i. -/
theorem Many.get {w0 w : World} {Is : Nat → Ows} (h : Many w0 w Is) (i : Nat) : ∃ K, (Is i).I K w ∧ (∀ k, K k → k < w.heap.size) ∧ ∀ k, K k → w0.heap.size ≤ k := by
  obtain ⟨O, h1, h2⟩ := h
  exact ⟨O i, h2 i, h1.lt i, h1.lo i⟩
/-- owner i does something. -/
theorem Many.act {w0 w w' : World} {Is : Nat → Ows} (h : Many w0 w Is) (i : Nat) (J : Ows) (ha : ∀ K, (Is i).I K w → (∀ k, K k → k < w.heap.size) → ∃ K', J.I K' w' ∧ Turned K w K' w' ∧ ∀ k, K' k → k < w'.heap.size) : Many w0 w' (updI Is i J) := by
  obtain ⟨O, h1, h2⟩ := h
  obtain ⟨K', a1, a2, a3⟩ := ha (O i) (h2 i) (h1.lt i)
  obtain ⟨f1, f2⟩ := h1.turn i a2 a3
  refine ⟨_, f1, fun j => ?_⟩
  by_cases e : j = i
  · subst e
    rw [updI_same, updO_same]
    exact a1
  · rw [updI_other _ e, updO_other _ e]
    exact (Is j).keep _ w w' (h2 j) (f2 j e)
/-- owner i comes to own what is new. -/
theorem Many.own {w0 w w' : World} {Is : Nat → Ows} (h : Many w0 w Is) (i : Nat) (J : Ows) (hb : Below w.heap.size w w') (K : Nat → Prop) (hK : ∀ k, K k → w.heap.size ≤ k ∧ k < w'.heap.size) (hJ : J.I K w') : Many w0 w' (updI Is i J) := by
  obtain ⟨O, h1, h2⟩ := h
  obtain ⟨f1, f2⟩ := h1.add i hb (K := K) (fun k hk => ⟨Or.inl (hK k hk).1, (hK k hk).2⟩)
  refine ⟨_, f1, fun j => ?_⟩
  by_cases e : j = i
  · subst e
    rw [updI_same, updO_same]
    exact hJ
  · rw [updI_other _ e, updO_other _ e]
    exact (Is j).keep _ w w' (h2 j) (f2 j)
/-- owner i has what holds of it said in another way, of fewer blocks. -/
theorem Many.say {w0 w : World} {Is : Nat → Ows} (h : Many w0 w Is) (i : Nat) (J : Ows) (ha : ∀ K, (Is i).I K w → (∀ k, K k → k < w.heap.size) → ∃ K', J.I K' w ∧ ∀ k, K' k → K k) : Many w0 w (updI Is i J) :=
  h.act i J fun K hK hl => by
    obtain ⟨K', a1, a2⟩ := ha K hK hl
    exact ⟨K', a1, ⟨Only.refl _ _, fun k hk => Or.inl (a2 k hk)⟩, fun k hk => hl k (a2 k hk)⟩
/-- owner i gives some of its blocks to owner j, who had none that count. -/
theorem Many.split {w0 w : World} {Is : Nat → Ows} (h : Many w0 w Is) (i j : Nat) (hij : i ≠ j) (J J' : Ows) (ha : ∀ K, (Is i).I K w → (∀ k, K k → k < w.heap.size) → ∃ K' H, J.I K' w ∧ J'.I H w ∧ (∀ k, K' k → K k) ∧ (∀ k, H k → K k) ∧ ∀ k, K' k → ¬ H k) : Many w0 w (updI (updI Is i J) j J') := by
  obtain ⟨O, h1, h2⟩ := h
  obtain ⟨K', H, a1, a2, a3, a4, a5⟩ := ha (O i) (h2 i) (h1.lt i)
  have f1 := (h1.own i (K := K') (fun k hk => Or.inl (a3 k hk)))
  have f2 := f1.drop j
  have f3 := f2.own j (K := H) (fun k hk => Or.inr ⟨h1.lt i k (a4 k hk), h1.lo i k (a4 k hk), fun q hq => by
    by_cases e : q = j
    · subst e; rw [updO_same] at hq; exact hq
    · rw [updO_other _ e] at hq
      by_cases e2 : q = i
      · subst e2; rw [updO_same] at hq; exact a5 k hq hk
      · rw [updO_other _ e2] at hq; exact h1.apart q i k e2 hq (a4 k hk)⟩)
  refine ⟨_, f3, fun q => ?_⟩
  by_cases e : q = j
  · subst e
    rw [updI_same, updO_same]
    exact a2
  · rw [updI_other _ e, updO_other _ e, updO_other _ e]
    by_cases e2 : q = i
    · subst e2
      rw [updI_same, updO_same]
      exact a1
    · rw [updI_other _ e2, updO_other _ e2]
      exact h2 q
/-- owner j's blocks go to owner i. -/
theorem Many.merge {w0 w : World} {Is : Nat → Ows} (h : Many w0 w Is) (i j : Nat) (hij : i ≠ j) (J : Ows) (ha : ∀ K H, (Is i).I K w → (Is j).I H w → (∀ k, K k → ¬ H k) → ∃ K', J.I K' w ∧ ∀ k, K' k → K k ∨ H k) : Many w0 w (updI (updI Is j nobody) i J) := by
  obtain ⟨O, h1, h2⟩ := h
  obtain ⟨K', a1, a2⟩ := ha (O i) (O j) (h2 i) (h2 j) (fun k hk => h1.apart i j k hij hk)
  have f1 := h1.drop j
  have f2 := f1.own i (K := K') (fun k hk => by
    rcases a2 k hk with e | e
    · exact Or.inl (by rw [updO_other _ hij]; exact e)
    · refine Or.inr ⟨h1.lt j k e, h1.lo j k e, fun q hq => ?_⟩
      by_cases e2 : q = j
      · subst e2; rw [updO_same] at hq; exact hq
      · rw [updO_other _ e2] at hq; exact h1.apart q j k e2 hq e)
  refine ⟨_, f2, fun q => ?_⟩
  by_cases e : q = i
  · subst e
    rw [updI_same, updO_same]
    exact a1
  · rw [updI_other _ e, updO_other _ e]
    by_cases e2 : q = j
    · subst e2
      rw [updI_same]
      trivial
    · rw [updI_other _ e2, updO_other _ e2]
      exact h2 q
/-- owners i and j do something together. -/
theorem Many.act2 {w0 w w' : World} {Is : Nat → Ows} (h : Many w0 w Is) (i j : Nat) (hij : i ≠ j) (J J' : Ows) (ha : ∀ K H, (Is i).I K w → (Is j).I H w → (∀ k, K k → k < w.heap.size) → (∀ k, H k → k < w.heap.size) → (∀ k, K k → ¬ H k) → ∃ K' H', J.I K' w' ∧ J'.I H' w' ∧ Only (fun k => K k ∨ H k) w w' ∧ (∀ k, K' k → K k ∨ w.heap.size ≤ k) ∧ (∀ k, H' k → H k) ∧ (∀ k, K' k → k < w'.heap.size)) : Many w0 w' (updI (updI Is i J) j J') := by
  obtain ⟨O, h1, h2⟩ := h
  obtain ⟨K', H', a1, a2, a3, a4, a5, a6⟩ := ha (O i) (O j) (h2 i) (h2 j) (h1.lt i) (h1.lt j) (fun k hk => h1.apart i j k hij hk)
  have hs := a3.size
  have f0 := (h1.drop j).own i (K := fun k => O i k ∨ O j k) (fun k hk => by
    rcases hk with e | e
    · exact Or.inl (by rw [updO_other _ hij]; exact e)
    · refine Or.inr ⟨h1.lt j k e, h1.lo j k e, fun q hq => ?_⟩
      by_cases e2 : q = j
      · subst e2; rw [updO_same] at hq; exact hq
      · rw [updO_other _ e2] at hq; exact h1.apart q j k e2 hq e)
  obtain ⟨f1, g1⟩ := f0.turn i (K := K') (w' := w') ⟨by rw [updO_same]; exact a3, fun k hk => by rw [updO_same]; exact (a4 k hk).imp Or.inl id⟩ a6
  have f2 := f1.own j (K := H') (fun k hk => by
    have hj := a5 k hk
    have hl := h1.lt j k hj
    refine Or.inr ⟨by omega, h1.lo j k hj, fun q hq => ?_⟩
    by_cases e : q = i
    · subst e
      rw [updO_same] at hq
      rcases a4 k hq with e2 | e2
      · exact h1.apart q j k hij e2 hj
      · omega
    · rw [updO_other _ e, updO_other _ e] at hq
      by_cases e2 : q = j
      · subst e2; rw [updO_same] at hq; exact hq
      · rw [updO_other _ e2] at hq; exact h1.apart q j k e2 hq hj)
  refine ⟨_, f2, fun q => ?_⟩
  by_cases e : q = j
  · subst e
    rw [updI_same, updO_same]
    exact a2
  · rw [updI_other _ e, updO_other _ e]
    by_cases e2 : q = i
    · subst e2
      rw [updI_same, updO_same]
      exact a1
    · rw [updI_other _ e2, updO_other _ e2, updO_other _ e2, updO_other _ e]
      refine (Is q).keep _ w w' (h2 q) fun k hk => g1 q e2 k ?_
      rw [updO_other _ e2, updO_other _ e]
      exact hk
end Go.Proofs.Ythipdchdbdmmnaa
