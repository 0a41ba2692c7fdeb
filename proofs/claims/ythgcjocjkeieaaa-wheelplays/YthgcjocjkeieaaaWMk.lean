/-
  Both pairs and the book are made; the lists stand.
-/
import Derived.Test.YthgcjocjkeieaaaWStp2
import Derived.Test.YthgcjocjkeieaaaWOpen
namespace Go.Proofs.Ythgcjocjkeieaaa
open Go.RowKit
set_option linter.all false

section
variable {w0 w : World} {b b' p p' kb N : Nat} {x y x' : Tms} {c : Prop} {P : List (Nat × Obj)}
theorem PQ.stands (h : PQ w0 w b p x y b' p' x' kb N True P) (hN : (N + 1) * 24 ≤ 140737488355328) :
    Calls Try.prog 11 #[.pointer (some ⟨kb, 0, none⟩)] w fun e w' => e = .returned (.bool true) ∧ Hid (PQ w0 w' b p x y b' p' x' kb N False P) := by
  obtain ⟨O, tv, tv', ls, ws, lv, wv, h1, h2⟩ := h.ex
  refine (stands_any kb ls ws lv wv (by omega) w h1.bk (h1.ct trivial)).mono ?_
  rintro e w' ⟨rfl, H⟩
  exact ⟨rfl, O, tv, tv', ls, ws, lv, wv, h1.stood H.out, h2⟩
/-- two wheels. -/
structure M2 (w0 w : World) (O : Nat → Nat → Prop) (b b' : Nat) : Prop where
  fam : Fam w0 w O
  a : ∃ m, WA w b m 0 0 [] (O 0)
  a' : ∃ m, WA w b' m 0 0 [] (O 2)
  no : ∀ j, j ≠ 0 → j ≠ 2 → ∀ k, ¬ O j k
/-- .. and one of the document's; two. -/
structure M3 (w0 w : World) (O : Nat → Nat → Prop) (b b' p : Nat) : Prop where
  fam : Fam w0 w O
  a : ∃ m, WA w b m 0 0 [] (O 0)
  a' : ∃ m, WA w b' m 0 0 [] (O 2)
  r : RW w p 0 0 [] (.slice none 0 0)
  rk : O 1 = RK p (.slice none 0 0)
structure M4 (w0 w : World) (O : Nat → Nat → Prop) (b b' p p' : Nat) : Prop where
  m : M3 w0 w O b b' p
  r : RW w p' 0 0 [] (.slice none 0 0)
  rk : O 3 = RK p' (.slice none 0 0)
theorem mk2 (h : LV w0 w b 0 0 []) : Calls Try.prog 8 #[] w fun e w' => ∃ b', e = .returned (.pointer (some ⟨b', 0, none⟩)) ∧ Hid (∃ O, M2 w0 w' O b b') := by
  obtain ⟨m, K, q, hk, hb⟩ := h.ex
  refine (wa_new w).mono ?_
  rintro e w' ⟨b', m', K', rfl, H⟩
  obtain ⟨q', hk', hb'⟩ := H.out
  obtain ⟨f1, _⟩ := (Fam.start w0).add 0 hb (K := K) (fun k hK => ⟨Or.inl (hk k hK), q.lt hK⟩)
  obtain ⟨f2, k2⟩ := f1.add 2 hb' (K := K') (fun k hK => ⟨Or.inl (hk' k hK), q'.lt hK⟩)
  refine ⟨b', rfl, _, f2, ⟨m, ?_⟩, ⟨m', by rw [updO_same]; exact q'⟩, fun j h0 h2 k => by rw [updO_other _ h2, updO_other _ h0]; exact id⟩
  rw [updO_other _ (by decide), updO_same]
  exact q.below hb'
theorem mk3 {O : Nat → Nat → Prop} (h : M2 w0 w O b b') : Calls Try.prog 9 #[] w fun e w' => e = .returned (.pointer (some ⟨w.heap.size, 0, none⟩)) ∧ Hid (∃ O, M3 w0 w' O b b' w.heap.size) := by
  refine (refNew_any w).mono ?_
  rintro e w' ⟨rfl, H⟩
  obtain ⟨q, hb⟩ := H.out
  obtain ⟨f, _⟩ := h.fam.add 1 hb (K := RK w.heap.size (.slice none 0 0)) (fun k hK => ⟨Or.inl (by
    rcases hK with rfl | hK
    · exact Nat.le_refl _
    · exact absurd hK (blk_nil k)), q.lt hK⟩)
  obtain ⟨m1, a1⟩ := h.a
  obtain ⟨m2, a2⟩ := h.a'
  exact ⟨rfl, _, f, ⟨m1, by rw [updO_other _ (by decide)]; exact a1.below hb⟩, ⟨m2, by rw [updO_other _ (by decide)]; exact a2.below hb⟩, q, updO_same _ _ _⟩
theorem mk4 {O : Nat → Nat → Prop} (h : M3 w0 w O b b' p) : Calls Try.prog 9 #[] w fun e w' => e = .returned (.pointer (some ⟨w.heap.size, 0, none⟩)) ∧ Hid (∃ O, M4 w0 w' O b b' p w.heap.size) := by
  refine (refNew_any w).mono ?_
  rintro e w' ⟨rfl, H⟩
  obtain ⟨q, hb⟩ := H.out
  obtain ⟨f, _⟩ := h.fam.add 3 hb (K := RK w.heap.size (.slice none 0 0)) (fun k hK => ⟨Or.inl (by
    rcases hK with rfl | hK
    · exact Nat.le_refl _
    · exact absurd hK (blk_nil k)), q.lt hK⟩)
  obtain ⟨m1, a1⟩ := h.a
  obtain ⟨m2, a2⟩ := h.a'
  exact ⟨rfl, _, ⟨f, ⟨m1, by rw [updO_other _ (by decide)]; exact a1.below hb⟩, ⟨m2, by rw [updO_other _ (by decide)]; exact a2.below hb⟩, h.r.below hb, by rw [updO_other _ (by decide)]; exact h.rk⟩, q, updO_same _ _ _⟩
theorem mk5 {O : Nat → Nat → Prop} (h : M4 w0 w O b b' p p') : PQ w0 (w.alloc (.cells #[.slice none 0 0, .slice none 0 0] 31)) b p ⟨0, 0, []⟩ ⟨0, 0, []⟩ b' p' ⟨0, 0, []⟩ w.heap.size 0 True [] := by
  have hb := balloc w (.cells #[.slice none 0 0, .slice none 0 0] 31)
  have hs : (w.alloc (.cells #[.slice none 0 0, .slice none 0 0] 31)).heap.size = w.heap.size + 1 := by simp
  have hbk : BK (w.alloc (.cells #[.slice none 0 0, .slice none 0 0] 31)) w.heap.size [] [] (.slice none 0 0) (.slice none 0 0) := ⟨heap_new w _, Row.nil _ _, Row.nil _ _, fun k hk => absurd hk (blk_nil k), rfl⟩
  obtain ⟨f, _⟩ := h.m.fam.add 4 hb (K := BKK w.heap.size (.slice none 0 0) (.slice none 0 0)) (fun k hK => ⟨Or.inl (by
    rcases hK with rfl | hK | hK
    · exact Nat.le_refl _
    · exact absurd hK (blk_nil k)
    · exact absurd hK (blk_nil k)), hbk.lt hK⟩)
  obtain ⟨m1, a1⟩ := h.m.a
  obtain ⟨m2, a2⟩ := h.m.a'
  refine ⟨_, .slice none 0 0, .slice none 0 0, [], [], .slice none 0 0, .slice none 0 0, ⟨f, ⟨m1, ?_⟩, h.m.r.below hb, ?_, ⟨m2, ?_⟩, h.r.below hb, ?_, hbk, updO_same _ _ _, fun m hm => by simp at hm, fun _ => ⟨fun j hj => by simp at hj, fun i j hi => by simp at hi⟩, Holds.nil _, by simp⟩, by simp⟩
  · rw [updO_other _ (by decide)]; exact a1.below hb
  · rw [updO_other _ (by decide)]; exact h.m.rk
  · rw [updO_other _ (by decide)]; exact a2.below hb
  · rw [updO_other _ (by decide)]; exact h.rk
end
end Go.Proofs.Ythgcjocjkeieaaa
