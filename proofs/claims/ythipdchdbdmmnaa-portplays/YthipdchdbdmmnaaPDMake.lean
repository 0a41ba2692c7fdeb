/-
  New and Add, of the program and of the document.
-/
import Derived.Test.YthipdchdbdmmnaaPDNext
namespace Go.Proofs.Ythipdchdbdmmnaa
open Go.RowKit
set_option linter.all false

/-- the list's block, if it has one, is new. -/
def FreshA (w : World) (a : Option Addr) : Prop := ∀ b, blk a = some b → w.heap.size ≤ b
set_option maxHeartbeats 1000000 in
theorem clone_any (a : Option Addr) (c : Nat) (zs : List Int) (w : World) (hp : PartU w a c zs) (hl : zs.length * 4 ≤ 140737488355328) :
    Calls Try.prog 27 #[.slice a zs.length c] w fun e w' => ∃ a' c', e = .returned (.slice a' zs.length c') ∧ Hid (RowU w' a' c' zs) ∧ Hid (FreshA w a') ∧ Hid (Below w.heap.size w w') := by
  cases a with
  | none =>
    have hz : zs = [] := by
      rcases hp.lies with h | ⟨b, o, h, _⟩
      · exact h
      · simp at h
    subst hz
    clear hp hl
    have he : ∀ wx : World, (binOp .eql 28 (.slice none 0 c) (.slice none 0 0)).run Try.prog wx = .ok (.bool true) wx := fun wx => Lib.run_eql_slice_nil wx _ _ _ _ _ _ _ Try.underlying28
    go_enter Try.func27, Try.ntmps27
    go_wp2
    go_ret
    exact ⟨none, 0, rfl, RowU.nil w, by intro b hb; simp [blk] at hb, Below.refl _ _⟩
  | some x =>
    have hrow : RowU (w.alloc (.cells #[] 50)) (some ⟨w.heap.size, 0, none⟩) 0 [] := Or.inr ⟨w.heap.size, 0, #[], rfl, heap_new w _, by simp, by simp, fun j hj => by simp at hj⟩
    obtain ⟨a', c', w', hrun, hr, ho, hf⟩ := append_u hrow (hp.below (balloc w _)) (by simpa using hl) 28
    have HR := hid hr
    have HO := hid ho
    have HF := hid hf
    have HN := hid hrun
    clear hp hl hrow hrun hr ho hf
    rw [List.nil_append] at HN HR
    have he : ∀ wx : World, (binOp .eql 28 (.slice (some x) zs.length c) (.slice none 0 0)).run Try.prog wx = .ok (.bool false) wx := fun wx => Lib.run_eql_slice_nil wx _ _ _ _ _ _ _ Try.underlying28
    go_enter Try.func27, Try.ntmps27
    go_wp2_with (first | (at_builtin; refine wpList_append_run _ rfl _ _ _ _ rfl _ _ rfl rfl HN.out ?_))
    go_ret
    have h1 : Below w.heap.size w w' := (balloc w _).trans ((HO.out.below (B := w.heap.size) (fun k hk => by simp [blk] at hk; omega) (by simp)))
    refine ⟨a', c', rfl, HR, ?_, h1⟩
    intro b hb
    rcases HF.out with h | h
    · rw [h] at hb; simp [blk] at hb; omega
    · have := h b hb; simp at this; omega
/-- what is made: a dice of some draws, in new blocks. -/
structure MadeI (t : TypeId) (w : World) (w' : World) (p : Nat) (a : Option Addr) (c : Nat) (zs : List Int) : Prop where
  dice : DiceW t w' p a c zs
  new : ∀ k, DiceK p a k → w.heap.size ≤ k
  bel : Below w.heap.size w w'
set_option maxHeartbeats 1000000 in
theorem new_any (a : Option Addr) (c : Nat) (zs : List Int) (w : World) (hp : PartU w a c zs) (hl : zs.length * 4 ≤ 140737488355328) :
    Calls Try.prog 12 #[.slice a zs.length c] w fun e w' => ∃ p a' c', e = .returned (.pointer (some ⟨p, 0, none⟩)) ∧ Hid (MadeI 92 w w' p a' c' zs) := by
  have H1 := hid (clone_any a c zs w hp hl)
  have HW := hid hp.words
  clear hp hl
  go_enter Try.func12, Try.ntmps12
  go_wp2_with (first | (go_at_call 27; refine H1.out.mono ?_; rintro e w1 ⟨a', c', rfl, HR, HF, HB⟩; clear H1))
  go_ret
  have s1 := HB.out.size
  refine ⟨w1.heap.size, a', c', rfl, ⟨heap_new w1 _, HR.out.below (balloc w1 _), HW.out⟩, fun k hk => ?_, bpush HB.out _⟩
  rcases hk with rfl | hk
  · omega
  · exact HF.out k hk
/-- what Add leaves. -/
structure AddI (t : TypeId) (w : World) (p : Nat) (a : Option Addr) (zs : List Int) (w' : World) (a' : Option Addr) (c' : Nat) : Prop where
  dice : DiceW t w' p a' c' zs
  only : Only (DiceK p a) w w'
  blk : blk a' = blk a ∨ FreshA w a'
theorem AddI.mk' {t : TypeId} (ht : t ≠ 50) {w w1 : World} {p : Nat} {a : Option Addr} {v : Value} (hbox : w.heap[p]? = some (.cells #[v] t (0, 0))) (hpa : Go.Proofs.Ythipdchdbdmmnaa.blk a ≠ some p) {zs : List Int} {a' : Option Addr} {c' : Nat} (hr : RowU w1 a' c' zs) (hw : Words zs)
    (ho : Only (fun k => Go.Proofs.Ythipdchdbdmmnaa.blk a = some k) w w1) (hb : Go.Proofs.Ythipdchdbdmmnaa.blk a' = Go.Proofs.Ythipdchdbdmmnaa.blk a ∨ FreshA w a') : AddI t w p a zs (w1.setCell ⟨p, 0, none⟩ (.slice a' zs.length c')) a' c' := by
  have hp := heap_lt hbox
  have hbox1 : w1.heap[p]? = some (.cells #[v] t (0, 0)) := (ho.block p hpa hp).trans hbox
  refine ⟨⟨?_, hr.keep fun b hb' => Below.heap_setCell _ _ _ _ ?_, hw⟩, (ho.mono fun k hk => Or.inr hk).trans (Only.of_but (But.setCell _ _ _ _) (Or.inl rfl)), hb⟩
  · have := heap_setCell (j := 0) (v := .slice a' zs.length c') hbox1
    simpa using this
  · rintro rfl
    obtain ⟨cur, hg⟩ := hr.cells hb'
    rw [hbox1] at hg
    simp only [Option.some.injEq, Obj.cells.injEq] at hg
    exact ht hg.2.1
set_option maxHeartbeats 1000000 in
theorem refAdd_any (p : Nat) (a : Option Addr) (c : Nat) (zs : List Int) (a2 : Option Addr) (c2 : Nat) (ps : List Int) (w : World) (x : DiceW 94 w p a c zs) (hp : PartU w a2 c2 ps) (hl : (zs.length + ps.length) * 4 ≤ 140737488355328) :
    Calls Try.prog 28 #[.pointer (some ⟨p, 0, none⟩), .slice a2 ps.length c2] w fun e w' => e = .returned (.tuple #[]) ∧ ∃ a' c', AddI 94 w p a (zs ++ ps) w' a' c' := by
  obtain ⟨a1, c1, w1, hrun1, hr1, ho1, hf1⟩ := append_u (RowU.nil w) (x.row.part x.words) (by simp; omega) 28
  have hB1 : Below w.heap.size w w1 := ho1.below (fun k hk => by simp [blk] at hk) (Nat.le_refl _)
  have hn1 : FreshA w a1 := fun b hb => by
    rcases hf1 with h | h
    · rw [h] at hb; simp [blk] at hb
    · exact h b hb
  obtain ⟨a', c', w2, hrun2, hr2, ho2, hf2⟩ := append_u hr1 (hp.below hB1) (by simpa using hl) 28
  have hO : Only (fun k => blk a = some k) w w2 := ((Only.of_below hB1).trans (K := fun k => blk a1 = some k) ho2).old (fun k hk hl => by have := hn1 k hk; omega)
  have hn2 : FreshA w a' := fun b hb => by
    rcases hf2 with h | h
    · rw [h] at hb; exact hn1 b hb
    · have := h b hb; have := hB1.size; omega
  have hb := cellHeap x.box 0 rfl
  have hpl := heap_lt x.box
  have hbox2 := (hO.block p (x.apart (by decide)) hpl).trans x.box
  have hb2 := cellHeap hbox2 0 rfl
  have hf2 := frozen_of_heap hbox2 0
  simp only [List.nil_append] at hrun1 hrun2 hr2
  have HA : Hid (AddI 94 w p a (zs ++ ps) (w2.setCell ⟨p, 0, none⟩ (.slice a' (zs ++ ps).length c')) a' c') := AddI.mk' (by decide) x.box (x.apart (by decide)) hr2 (x.words.app hp.words) hO (Or.inr hn2)
  have HN1 := hid hrun1
  have HN2 := hid hrun2
  clear hp hl hrun1 hrun2 hr1 hr2 ho1 ho2 hf1 hbox2 hpl x hn1 hn2 hO hB1
  go_enter Try.func28, Try.ntmps28
  go_wp2_with (first | (at_builtin; refine wpList_append_run _ rfl _ _ _ _ rfl _ _ rfl rfl HN1.out ?_; clear HN1) | (at_builtin; refine wpList_append_run _ rfl _ _ _ _ rfl _ _ rfl rfl HN2.out ?_))
  exact bodyPost_end (v := .tuple #[]) (by simp [results, Try.results28, go_sem]) rfl ⟨rfl, a', c', by have h := HA.out; simp only [List.length_append] at h; exact h⟩
set_option maxHeartbeats 1000000 in
theorem refNew_any (a : Option Addr) (c : Nat) (zs : List Int) (w : World) (hp : PartU w a c zs) (hl : zs.length * 4 ≤ 140737488355328) :
    Calls Try.prog 13 #[.slice a zs.length c] w fun e w' => ∃ p a' c', e = .returned (.pointer (some ⟨p, 0, none⟩)) ∧ Hid (MadeI 94 w w' p a' c' zs) := by
  have hx : DiceW 94 (w.alloc (.cells #[.slice none 0 0] 94)) w.heap.size none 0 [] := ⟨heap_new w _, RowU.nil _, Words.nil⟩
  have H1 := hid (refAdd_any w.heap.size none 0 [] a c zs _ hx (hp.below (balloc w _)) (by simpa using hl))
  clear hx hp hl
  go_enter Try.func13, Try.ntmps13
  go_wp2_with (first | (go_at_call 28; refine H1.out.mono ?_; go_loud (rintro e w1 ⟨rfl, a', c', hA⟩; have HA := hid hA; clear hA H1)))
  go_ret
  have s1 := HA.out.only.size
  have h0 : ∀ k, DiceK w.heap.size none k → w.heap.size ≤ k := fun k hk => by
    rcases hk with rfl | hk
    · exact Nat.le_refl _
    · simp [blk] at hk
  have hd := HA.out.dice
  rw [List.nil_append] at hd
  refine ⟨w.heap.size, a', c', rfl, hd, fun k hk => ?_, (balloc w _).trans (HA.out.only.below h0 (by simp))⟩
  rcases hk with rfl | hk
  · exact Nat.le_refl _
  · rcases HA.out.blk with h | h
    · rw [h] at hk; simp [blk] at hk
    · have := h k hk; simp at this; omega
end Go.Proofs.Ythipdchdbdmmnaa
