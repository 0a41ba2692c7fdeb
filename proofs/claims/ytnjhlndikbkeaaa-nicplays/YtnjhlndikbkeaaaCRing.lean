/-
  What becomes of a ring when a place of it is filled or emptied.
-/
import Derived.Test.YtnjhlndikbkeaaaCCard
namespace Go.Proofs.Ytnjhlndikbkeaaa
open Go.RowKit
set_option linter.all false

theorem splice_at {α : Type} (L X : List α) (o k : Nat) (h : o + X.length ≤ L.length) : (splice L o X)[k]? = if k < o then L[k]? else if k < o + X.length then X[k - o]? else L[k]? := by
  have ht : (L.take o).length = o := by simp; omega
  unfold splice
  by_cases h1 : k < o
  · rw [if_pos h1, List.getElem?_append_left (by omega), List.getElem?_take, if_pos h1]
  · rw [if_neg h1, List.getElem?_append_right (by omega), ht]
    by_cases h2 : k < o + X.length
    · rw [if_pos h2, List.getElem?_append_left (by omega)]
    · rw [if_neg h2, List.getElem?_append_right (by omega), List.getElem?_drop]
      congr 1
      omega
/-- a place that was filled. -/
def filledC (C : Array Value) (o : Nat) (zs : List Int) (b : Bool) : Array Value := ((splice C.toList (o + 2) (u8s zs)).toArray.setIfInBounds (o + 1) (.int .i64 zs.length)).setIfInBounds o (.bool b)
def emptyC (C : Array Value) (o : Nat) (b : Bool) : Array Value := (C.setIfInBounds (o + 1) (.int .i64 0)).setIfInBounds o (.bool b)
theorem filled_size (C : Array Value) (o : Nat) (zs : List Int) (b : Bool) (hs : o + 1516 ≤ C.size) (hl : zs.length ≤ 1514) : (filledC C o zs b).size = C.size := by
  simp only [filledC, Array.size_setIfInBounds, List.size_toArray]
  rw [length_splice _ _ _ (by rw [u8s_len]; simp; omega)]
  simp
theorem filled_out (C : Array Value) (o : Nat) (zs : List Int) (b : Bool) (hs : o + 1516 ≤ C.size) (hl : zs.length ≤ 1514) (k : Nat) (hk : k < o ∨ o + 1516 ≤ k) : (filledC C o zs b)[k]? = C[k]? := by
  simp only [filledC]
  rw [Array.getElem?_setIfInBounds_ne (by omega), Array.getElem?_setIfInBounds_ne (by omega), List.getElem?_toArray, splice_at _ _ _ _ (by rw [u8s_len]; simp; omega), u8s_len]
  rcases hk with hk | hk
  · rw [if_pos (by omega)]; simp
  · rw [if_neg (by omega), if_neg (by omega)]; simp
theorem filled_at (C : Array Value) (o : Nat) (zs : List Int) (b : Bool) (hs : o + 1516 ≤ C.size) (hl : zs.length ≤ 1514) (hz : ∀ z, z ∈ zs → 0 ≤ z ∧ z ≤ 255) : PlAt (filledC C o zs b) o ⟨b, zs⟩ := by
  have e0 : (splice C.toList (o + 2) (u8s zs)).length = C.size := by rw [length_splice _ _ _ (by rw [u8s_len]; simp; omega)]; simp
  refine ⟨?_, ?_, fun j hj => ?_, hl, hz⟩
  · simp only [filledC]
    rw [Array.getElem?_setIfInBounds_self_of_lt (by simp [e0]; omega)]
  · simp only [filledC]
    rw [Array.getElem?_setIfInBounds_ne (by omega), Array.getElem?_setIfInBounds_self_of_lt (by simp [e0]; omega)]
  · simp only at hj
    simp only [filledC]
    rw [Array.getElem?_setIfInBounds_ne (by omega), Array.getElem?_setIfInBounds_ne (by omega), List.getElem?_toArray, splice_at _ _ _ _ (by rw [u8s_len]; simp; omega), u8s_len, if_neg (by omega), if_pos (by omega), show o + 2 + j - (o + 2) = j by omega]
    simp [u8s, hj]
theorem empty_size (C : Array Value) (o : Nat) (b : Bool) : (emptyC C o b).size = C.size := by simp [emptyC]
theorem empty_out (C : Array Value) (o : Nat) (b : Bool) (k : Nat) (hk : k < o ∨ o + 1516 ≤ k) : (emptyC C o b)[k]? = C[k]? := by
  simp only [emptyC]
  rw [Array.getElem?_setIfInBounds_ne (by omega), Array.getElem?_setIfInBounds_ne (by omega)]
theorem empty_at (C : Array Value) (o : Nat) (b : Bool) (hs : o + 1516 ≤ C.size) : PlAt (emptyC C o b) o ⟨b, []⟩ := by
  refine ⟨?_, ?_, fun j hj => by simp at hj, by simp, by simp⟩
  · simp only [emptyC]
    rw [Array.getElem?_setIfInBounds_self_of_lt (by rw [Array.size_setIfInBounds]; omega)]
  · simp only [emptyC]
    rw [Array.getElem?_setIfInBounds_ne (by omega), Array.getElem?_setIfInBounds_self_of_lt (by omega)]
    rfl
theorem PlAt.out {C C' : Array Value} {o : Nat} {p : Pl} (h : PlAt C o p) (hk : ∀ k, o ≤ k → k < o + 1516 → C'[k]? = C[k]?) : PlAt C' o p := by
  obtain ⟨h1, h2, h3, h4, h5⟩ := h
  exact ⟨(hk o (by omega) (by omega)).trans h1, (hk (o + 1) (by omega) (by omega)).trans h2, fun j hj => (hk (o + 2 + j) (by omega) (by omega)).trans (h3 j hj), h4, h5⟩
set_option maxRecDepth 20000 in
theorem far1 {i j k : Nat} (h : i < j) (h2 : k < i * 1516 + 1516) : k < j * 1516 := by omega
set_option maxRecDepth 20000 in
theorem far2 {i j k : Nat} (h : j < i) (h2 : i * 1516 ≤ k) : j * 1516 + 1516 ≤ k := by omega
theorem ring_set {C C' : Array Value} {ps : List Pl} {j : Nat} {p' : Pl} (hp : ∀ i p, ps[i]? = some p → PlAt C (i * 1516) p) (hout : ∀ k, k < j * 1516 ∨ j * 1516 + 1516 ≤ k → C'[k]? = C[k]?) (hn : PlAt C' (j * 1516) p') : ∀ i p, (ps.set j p')[i]? = some p → PlAt C' (i * 1516) p := by
  intro i p hi
  by_cases hij : i = j
  · subst hij
    have : i < (ps.set i p').length := (List.getElem?_eq_some_iff.1 hi).1
    rw [List.getElem?_set_self (by simpa using this)] at hi
    simp only [Option.some.injEq] at hi
    subst hi
    exact hn
  · rw [List.getElem?_set_ne (fun e => hij e.symm)] at hi
    refine (hp i p hi).out fun k h1 h2 => hout k ?_
    rcases Nat.lt_or_ge i j with h3 | h3
    · exact Or.inl (far1 h3 h2)
    · exact Or.inr (far2 (by omega) h1)
/-- the ring behind it. -/
theorem RingAt.fill {w w' : World} {g : Nat} {ps : List Pl} {C : Array Value} {j : Nat} (hs : C.size = ps.length * 1516) (hp : ∀ i p, ps[i]? = some p → PlAt C (i * 1516) p) (hj : j < ps.length) {zs : List Int} {b : Bool} (hl : zs.length ≤ 1514) (hz : ∀ z, z ∈ zs → 0 ≤ z ∧ z ≤ 255)
    (hg : w'.heap[g]? = some (.cells (filledC C (j * 1516) zs b) 102 (0, 0))) : RingAt w' g (ps.set j ⟨b, zs⟩) := by
  have hj1 : (j + 1) * 1516 ≤ ps.length * 1516 := by omega
  exact ⟨_, hg, by rw [filled_size _ _ _ _ (by omega) hl, hs]; simp, ring_set hp (fun k hk => filled_out _ _ _ _ (by omega) hl k hk) (filled_at _ _ _ _ (by omega) hl hz)⟩
theorem RingAt.emptied {w w' : World} {g : Nat} {ps : List Pl} {C : Array Value} {j : Nat} (hs : C.size = ps.length * 1516) (hp : ∀ i p, ps[i]? = some p → PlAt C (i * 1516) p) (hj : j < ps.length) {b : Bool}
    (hg : w'.heap[g]? = some (.cells (emptyC C (j * 1516) b) 102 (0, 0))) : RingAt w' g (ps.set j ⟨b, []⟩) := by
  have hj1 : (j + 1) * 1516 ≤ ps.length * 1516 := by omega
  exact ⟨_, hg, by rw [empty_size, hs]; simp, ring_set hp (fun k hk => empty_out _ _ _ k hk) (empty_at _ _ _ (by omega))⟩
end Go.Proofs.Ytnjhlndikbkeaaa
