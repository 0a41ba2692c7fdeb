/-
  Heaps of numbers, as lists: what rises, what sinks, what is taken out.
-/
namespace Go.Proofs.Ythgcjocjkeieaaa
set_option linter.all false

/-- a is ahead of b: by the key, then by the number. -/
def ahead (f : Int → Int) (a b : Int) : Prop := f a < f b ∨ (f a = f b ∧ a < b)
instance (f : Int → Int) (a b : Int) : Decidable (ahead f a b) := by unfold ahead; infer_instance
/-- b is not ahead of a. -/
def upTo (f : Int → Int) (a b : Int) : Prop := f a < f b ∨ (f a = f b ∧ a ≤ b)
theorem upTo_of_not {f : Int → Int} {a b : Int} (h : ¬ ahead f b a) : upTo f a b := by unfold ahead at h; unfold upTo; omega
theorem upTo_of_ahead {f : Int → Int} {a b : Int} (h : ahead f a b) : upTo f a b := by unfold ahead at h; unfold upTo; omega
theorem not_of_upTo {f : Int → Int} {a b : Int} (h : upTo f a b) : ¬ ahead f b a := by unfold upTo at h; unfold ahead; omega
theorem upTo_trans {f : Int → Int} {a b c : Int} (h : upTo f a b) (k : upTo f b c) : upTo f a c := by unfold upTo at *; omega
theorem upTo_refl (f : Int → Int) (a : Int) : upTo f a a := by unfold upTo; omega
theorem ahead_trans {f : Int → Int} {a b c : Int} (h : ahead f a b) (k : ahead f b c) : ahead f a c := by unfold ahead at *; omega

/-- what stands at a place. -/
def nth (H : List Int) (j : Nat) : Int := H.getD j 0
theorem nth_eq {H : List Int} {j : Nat} (h : j < H.length) : nth H j = H[j] := by simp [nth, h]
theorem nth_mem {H : List Int} {j : Nat} (h : j < H.length) : nth H j ∈ H := by rw [nth_eq h]; exact List.getElem_mem h
theorem nth_set (H : List Int) (i j : Nat) (v : Int) (hi : i < H.length) : nth (H.set i v) j = if j = i then v else nth H j := by
  unfold nth
  rw [List.getD_eq_getElem?_getD, List.getElem?_set]
  by_cases h : j = i
  · subst h; simp [hi]
  · rw [if_neg h, if_neg (Ne.symm h), List.getD_eq_getElem?_getD]
theorem nth_take {H : List Int} {n j : Nat} (h : j < n) : nth (H.take n) j = nth H j := by
  unfold nth
  rw [List.getD_eq_getElem?_getD, List.getD_eq_getElem?_getD, List.getElem?_take, if_pos h]
theorem nth_left {H K : List Int} {j : Nat} (h : j < H.length) : nth (H ++ K) j = nth H j := by
  unfold nth
  rw [List.getD_eq_getElem?_getD, List.getD_eq_getElem?_getD, List.getElem?_append_left h]
theorem nth_end (H : List Int) (x : Int) : nth (H ++ [x]) H.length = x := by simp [nth]

def swp (H : List Int) (i j : Nat) : List Int := (H.set i (nth H j)).set j (nth H i)
theorem swp_len (H : List Int) (i j : Nat) : (swp H i j).length = H.length := by simp [swp]
theorem nth_swp {H : List Int} {i j : Nat} (hi : i < H.length) (hj : j < H.length) (k : Nat) : nth (swp H i j) k = if k = j then nth H i else if k = i then nth H j else nth H k := by
  unfold swp
  rw [nth_set _ _ _ _ (by simpa using hj), nth_set _ _ _ _ hi]
theorem set_perm1 : ∀ (H : List Int) (i : Nat) (x : Int), i < H.length → (x :: H).Perm (nth H i :: H.set i x)
  | [], i, x, h => by simp at h
  | a :: r, 0, x, h => by simp only [nth, List.getD_cons_zero, List.set_cons_zero]; exact List.Perm.swap a x r
  | a :: r, i + 1, x, h => by
    have ih := set_perm1 r i x (by simpa using h)
    have e : nth (a :: r) (i + 1) = nth r i := by simp [nth]
    rw [e, List.set_cons_succ]
    exact (List.Perm.swap a x r).trans ((ih.cons a).trans (List.Perm.swap _ _ _))
theorem swp_perm {H : List Int} {i j : Nat} (hi : i < H.length) (hj : j < H.length) : (swp H i j).Perm H := by
  have h1 := set_perm1 H i (nth H j) hi
  have h2 := set_perm1 (H.set i (nth H j)) j (nth H i) (by simpa using hj)
  have e : nth (H.set i (nth H j)) j = nth H j := by
    rw [nth_set _ _ _ _ hi]; split
    · rfl
    · rfl
  rw [e] at h2
  exact ((List.Perm.cons_inv (h1.trans h2))).symm
theorem split_last {H : List Int} (h : 0 < H.length) : H = H.take (H.length - 1) ++ [nth H (H.length - 1)] := by
  have e : nth H (H.length - 1) = H[H.length - 1]'(by omega) := nth_eq (by omega)
  rw [e]
  have := List.take_append_drop (H.length - 1) H
  rw [List.drop_eq_getElem_cons (by omega), show H.length - 1 + 1 = H.length from by omega, List.drop_length] at this
  exact this.symm
/-- the last one laid into place i. -/
def cut (H : List Int) (i : Nat) : List Int := (H.set i (nth H (H.length - 1))).take (H.length - 1)
theorem cut_len {H : List Int} {i : Nat} : (cut H i).length = H.length - 1 := by simp [cut]
theorem nth_cut {H : List Int} {i j : Nat} (hi : i < H.length) (hj : j < H.length - 1) : nth (cut H i) j = if j = i then nth H (H.length - 1) else nth H j := by
  unfold cut
  rw [nth_take hj, nth_set _ _ _ _ hi]
theorem cut_perm {H : List Int} {i : Nat} (hi : i < H.length) : (nth H i :: cut H i).Perm H := by
  have hs := split_last (H := H) (by omega)
  have hz : H.Perm (nth H (H.length - 1) :: H.take (H.length - 1)) := by
    conv => lhs; rw [hs]
    exact List.perm_append_singleton _ _
  by_cases h : i = H.length - 1
  · have e : cut H i = H.take (H.length - 1) := by
      unfold cut
      rw [← h, List.take_set_of_le (Nat.le_refl _)]
    rw [e, h]
    exact hz.symm
  · have e : cut H i = (H.take (H.length - 1)).set i (nth H (H.length - 1)) := by unfold cut; rw [List.take_set]
    rw [e, ← nth_take (H := H) (n := H.length - 1) (j := i) (by omega)]
    exact (set_perm1 (H.take (H.length - 1)) i _ (by simp; omega)).symm.trans hz.symm

/-! ### What is a heap, and nearly one -/
def Heap (f : Int → Int) (H : List Int) : Prop := ∀ j, 0 < j → j < H.length → upTo f (nth H ((j - 1) / 2)) (nth H j)
/-- but for i, which may be ahead of what stands above it. -/
def HeapUp (f : Int → Int) (H : List Int) (i : Nat) : Prop := (∀ j, 0 < j → j < H.length → j ≠ i → upTo f (nth H ((j - 1) / 2)) (nth H j)) ∧ ∀ j, 0 < j → j < H.length → (j - 1) / 2 = i → 0 < i → upTo f (nth H ((i - 1) / 2)) (nth H j)
/-- but for i, which may belong below. -/
def HeapDn (f : Int → Int) (H : List Int) (i : Nat) : Prop := (∀ j, 0 < j → j < H.length → (j - 1) / 2 ≠ i → upTo f (nth H ((j - 1) / 2)) (nth H j)) ∧ ∀ j, 0 < j → j < H.length → (j - 1) / 2 = i → 0 < i → upTo f (nth H ((i - 1) / 2)) (nth H j)
/-- but for i, which may belong above or below. -/
def Loose (f : Int → Int) (H : List Int) (i : Nat) : Prop := (∀ j, 0 < j → j < H.length → j ≠ i → (j - 1) / 2 ≠ i → upTo f (nth H ((j - 1) / 2)) (nth H j)) ∧ ∀ j, 0 < j → j < H.length → (j - 1) / 2 = i → 0 < i → upTo f (nth H ((i - 1) / 2)) (nth H j)
theorem HeapDn.loose {f : Int → Int} {H : List Int} {i : Nat} (h : HeapDn f H i) : Loose f H i := ⟨fun j h0 hl _ hp => h.1 j h0 hl hp, h.2⟩
theorem Heap.up {f : Int → Int} {H : List Int} (h : Heap f H) (i : Nat) : HeapUp f H i := ⟨fun j h0 hl _ => h j h0 hl, fun j h0 hl hp hi => by
  have h1 := h j h0 hl
  rw [hp] at h1
  exact upTo_trans (h i hi (by omega)) h1⟩
theorem Heap.nil (f : Int → Int) : Heap f [] := fun j _ h => by simp at h
theorem Heap.first {f : Int → Int} {H : List Int} (h : Heap f H) : ∀ j, j < H.length → upTo f (nth H 0) (nth H j) := fun j => by
  induction j using Nat.strongRecOn with
  | ind j ih =>
    intro hl
    rcases Nat.eq_zero_or_pos j with rfl | h0
    · exact upTo_refl _ _
    · exact upTo_trans (ih ((j - 1) / 2) (by omega) (by omega)) (h j h0 hl)
theorem Heap.min {f : Int → Int} {H : List Int} (h : Heap f H) {x : Int} (hx : x ∈ H) : upTo f (nth H 0) x := by
  obtain ⟨j, hj, rfl⟩ := List.getElem_of_mem hx
  have := h.first j hj
  rwa [nth_eq hj] at this
theorem rise_stop {f : Int → Int} {H : List Int} {i : Nat} (h : HeapUp f H i) (hn : 0 < i → ¬ ahead f (nth H i) (nth H ((i - 1) / 2))) : Heap f H := fun j h0 hl => by
  by_cases e : j = i
  · subst e; exact upTo_of_not (hn h0)
  · exact h.1 j h0 hl e
theorem rise_go {f : Int → Int} {H : List Int} {i : Nat} (h : HeapUp f H i) (hi : 0 < i) (hl : i < H.length) (ha : ahead f (nth H i) (nth H ((i - 1) / 2))) : HeapUp f (swp H i ((i - 1) / 2)) ((i - 1) / 2) := by
  have hp : (i - 1) / 2 < H.length := by omega
  have hne : (i - 1) / 2 ≠ i := by omega
  refine ⟨fun j h0 hj hjp => ?_, fun j h0 hj hjp hpp => ?_⟩
  · rw [swp_len] at hj
    rw [nth_swp hl hp, nth_swp hl hp]
    by_cases e : j = i
    · subst e
      rw [if_pos rfl, if_neg hjp, if_pos rfl]
      exact upTo_of_ahead ha
    · rw [if_neg hjp, if_neg e]
      by_cases e2 : (j - 1) / 2 = i
      · rw [if_neg (by omega), if_pos e2]
        exact h.2 j h0 hj e2 hi
      · by_cases e3 : (j - 1) / 2 = (i - 1) / 2
        · rw [if_pos e3]
          have := h.1 j h0 hj e
          rw [e3] at this
          exact upTo_trans (upTo_of_ahead ha) this
        · rw [if_neg e3, if_neg e2]
          exact h.1 j h0 hj e
  · rw [swp_len] at hj
    rw [nth_swp hl hp, nth_swp hl hp]
    have h1 := h.1 ((i - 1) / 2) hpp hp hne
    rw [if_neg (show ¬ ((i - 1) / 2 - 1) / 2 = (i - 1) / 2 from by omega), if_neg (show ¬ ((i - 1) / 2 - 1) / 2 = i from by omega), if_neg (show ¬ j = (i - 1) / 2 from by omega)]
    by_cases e : j = i
    · rw [if_pos e]; exact h1
    · rw [if_neg e]
      have h2 := h.1 j h0 hj e
      rw [hjp] at h2
      exact upTo_trans h1 h2
/-- m is the least of i and what stands below it. -/
def Least (f : Int → Int) (H : List Int) (i m : Nat) : Prop := (m = i ∨ (0 < m ∧ (m - 1) / 2 = i ∧ m < H.length ∧ ahead f (nth H m) (nth H i))) ∧ ∀ j, 0 < j → j < H.length → (j - 1) / 2 = i → ¬ ahead f (nth H j) (nth H m)
theorem sink_stop {f : Int → Int} {H : List Int} {i : Nat} (h : Loose f H i) (hm : Least f H i i) : HeapUp f H i := ⟨fun j h0 hl hj => by
  by_cases e : (j - 1) / 2 = i
  · rw [e]; exact upTo_of_not (hm.2 j h0 hl e)
  · exact h.1 j h0 hl hj e, h.2⟩
theorem dn_stop {f : Int → Int} {H : List Int} {i : Nat} (h : HeapDn f H i) (hm : Least f H i i) : Heap f H := fun j h0 hl => by
  by_cases e : (j - 1) / 2 = i
  · rw [e]; exact upTo_of_not (hm.2 j h0 hl e)
  · exact h.1 j h0 hl e
theorem sink_go {f : Int → Int} {H : List Int} {c m : Nat} (h : Loose f H c) (hc : c < H.length) (hm : Least f H c m) (hne : m ≠ c) : HeapDn f (swp H c m) m := by
  obtain ⟨h1, h2⟩ := hm
  rcases h1 with h1 | ⟨hm0, hmp, hml, hma⟩
  · exact absurd h1 hne
  refine ⟨fun j h0 hj hjp => ?_, fun j h0 hj hjp hpp => ?_⟩
  · rw [swp_len] at hj
    rw [nth_swp hc hml, nth_swp hc hml]
    rw [if_neg hjp]
    by_cases e : j = m
    · subst e
      rw [if_pos hmp, if_pos rfl]
      exact upTo_of_ahead hma
    · rw [if_neg e]
      by_cases e2 : (j - 1) / 2 = c
      · rw [if_pos e2, if_neg (show ¬ j = c from by omega)]
        exact upTo_of_not (h2 j h0 hj e2)
      · rw [if_neg e2]
        by_cases e3 : j = c
        · subst e3
          rw [if_pos rfl]
          exact h.2 m hm0 hml hmp h0
        · rw [if_neg e3]
          exact h.1 j h0 hj e3 e2
  · rw [swp_len] at hj
    rw [nth_swp hc hml, nth_swp hc hml, hmp, if_neg (Ne.symm hne), if_pos rfl, if_neg (show ¬ j = m from by omega), if_neg (show ¬ j = c from by omega)]
    have := h.1 j h0 hj (by omega) (by omega)
    rwa [hjp] at this
theorem cut_last {f : Int → Int} {H : List Int} {i : Nat} (h : Heap f H) (hi : i = H.length - 1) (hl : i < H.length) : Heap f (cut H i) := fun j h0 hj => by
  rw [cut_len] at hj
  rw [nth_cut hl hj, nth_cut hl (by omega), if_neg (by omega), if_neg (by omega)]
  exact h j h0 (by omega)
theorem cut_loose {f : Int → Int} {H : List Int} {i : Nat} (h : Heap f H) (hl : i < H.length) : Loose f (cut H i) i := by
  refine ⟨fun j h0 hj h1 h2 => ?_, fun j h0 hj h1 h2 => ?_⟩
  · rw [cut_len] at hj
    rw [nth_cut hl hj, nth_cut hl (by omega), if_neg h2, if_neg h1]
    exact h j h0 (by omega)
  · rw [cut_len] at hj
    rw [nth_cut hl hj, nth_cut hl (by omega), if_neg (by omega), if_neg (by omega)]
    have e1 := h j h0 (by omega)
    rw [h1] at e1
    exact upTo_trans (h i h2 hl) e1
theorem push_up {f : Int → Int} {H : List Int} (h : Heap f H) (x : Int) : HeapUp f (H ++ [x]) H.length := by
  refine ⟨fun j h0 hj h1 => ?_, fun j h0 hj h1 h2 => ?_⟩
  · simp only [List.length_append, List.length_cons, List.length_nil] at hj
    rw [nth_left (by omega), nth_left (by omega)]
    exact h j h0 (by omega)
  · simp only [List.length_append, List.length_cons, List.length_nil] at hj
    omega
end Go.Proofs.Ythgcjocjkeieaaa
