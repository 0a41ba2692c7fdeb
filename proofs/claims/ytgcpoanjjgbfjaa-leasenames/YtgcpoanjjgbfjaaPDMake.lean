/-
  New and Add, of the program and of the document.
-/
import Derived.Test.YtgcpoanjjgbfjaaPDNext
namespace Go.Proofs.Ytgcpoanjjgbfjaa
open Go.RowKit
set_option linter.all false

/-- the list's block, if it has one, is new. -/
def FreshA (w : World) (a : Option Addr) : Prop := ∀ b, blk a = some b → w.heap.size ≤ b
set_option maxHeartbeats 1000000 in
theorem clone_any (a : Option Addr) (c : Nat) (zs : List Int) (w : World) (hp : PartU w a c zs) (hl : zs.length * 4 ≤ 140737488355328) :
    Calls Try.prog 13 #[.slice a zs.length c] w fun e w' => ∃ a' c', e = .returned (.slice a' zs.length c') ∧ Hid (RowU w' a' c' zs) ∧ Hid (FreshA w a') ∧ Hid (Below w.heap.size w w') := by
  cases a with
  | none =>
    have hz : zs = [] := by
      rcases hp.lies with h | ⟨b, o, h, _⟩
      · exact h
      · simp at h
    subst hz
    clear hp hl
    have he : ∀ wx : World, (binOp .eql 31 (.slice none 0 c) (.slice none 0 0)).run Try.prog wx = .ok (.bool true) wx := fun wx => Lib.run_eql_slice_nil wx _ _ _ _ _ _ _ Try.underlying31
    go_enter Try.func13, Try.ntmps13
    go_wp2
    go_ret
    exact ⟨none, 0, rfl, RowU.nil w, by intro b hb; simp [blk] at hb, Below.refl _ _⟩
  | some x =>
    have hrow : RowU (w.alloc (.cells #[] 30)) (some ⟨w.heap.size, 0, none⟩) 0 [] := Or.inr ⟨w.heap.size, 0, #[], rfl, heap_new w _, by simp, by simp, fun j hj => by simp at hj⟩
    obtain ⟨a', c', w', hrun, hr, ho, hf⟩ := append_u hrow (hp.below (balloc w _)) (by simpa using hl) 31
    have HR := hid hr
    have HO := hid ho
    have HF := hid hf
    have HN := hid hrun
    clear hp hl hrow hrun hr ho hf
    rw [List.nil_append] at HN HR
    have he : ∀ wx : World, (binOp .eql 31 (.slice (some x) zs.length c) (.slice none 0 0)).run Try.prog wx = .ok (.bool false) wx := fun wx => Lib.run_eql_slice_nil wx _ _ _ _ _ _ _ Try.underlying31
    go_enter Try.func13, Try.ntmps13
    go_wp2_with (first | (at_builtin; refine wpList_append_run _ rfl _ _ _ _ rfl _ _ rfl rfl HN.out ?_))
    go_ret
    have h1 : Below w.heap.size w w' := (balloc w _).trans ((HO.out.below (B := w.heap.size) (fun k hk => by simp [blk] at hk; omega) (by simp)))
    refine ⟨a', c', rfl, HR, ?_, h1⟩
    intro b hb
    rcases HF.out with h | h
    · rw [h] at hb; simp [blk] at hb; omega
    · have := h b hb; simp at this; omega
/-- what is made: a dice of some draws, in new blocks. -/
structure MadeI (t : TypeId) (w : World) (w' : World) (p : Nat) (a : Option Addr) (c : Nat) (zs : List Int) : Prop where
  dice : DiceW t w' p a c zs
  new : ∀ k, DiceK p a k → w.heap.size ≤ k
  bel : Below w.heap.size w w'
set_option maxHeartbeats 1000000 in
theorem new_any (a : Option Addr) (c : Nat) (zs : List Int) (w : World) (hp : PartU w a c zs) (hl : zs.length * 4 ≤ 140737488355328) :
    Calls Try.prog 6 #[.slice a zs.length c] w fun e w' => ∃ p a' c', e = .returned (.pointer (some ⟨p, 0, none⟩)) ∧ Hid (MadeI 56 w w' p a' c' zs) := by
  have H1 := hid (clone_any a c zs w hp hl)
  have HW := hid hp.words
  clear hp hl
  go_enter Try.func6, Try.ntmps6
  go_wp2_with (first | (go_at_call 13; refine H1.out.mono ?_; rintro e w1 ⟨a', c', rfl, HR, HF, HB⟩; clear H1))
  go_ret
  have s1 := HB.out.size
  refine ⟨w1.heap.size, a', c', rfl, ⟨heap_new w1 _, HR.out.below (balloc w1 _), HW.out⟩, fun k hk => ?_, bpush HB.out _⟩
  rcases hk with rfl | hk
  · omega
  · exact HF.out k hk
/-- what Add leaves. -/
structure AddI (t : TypeId) (w : World) (p : Nat) (a : Option Addr) (zs : List Int) (w' : World) (a' : Option Addr) (c' : Nat) : Prop where
  dice : DiceW t w' p a' c' zs
  only : Only (DiceK p a) w w'
  blk : blk a' = blk a ∨ FreshA w a'
theorem AddI.mk' {t : TypeId} (ht : t ≠ 30) {w w1 : World} {p : Nat} {a : Option Addr} {v : Value} (hbox : w.heap[p]? = some (.cells #[v] t (0, 0))) (hpa : Go.Proofs.Ytgcpoanjjgbfjaa.blk a ≠ some p) {zs : List Int} {a' : Option Addr} {c' : Nat} (hr : RowU w1 a' c' zs) (hw : Words zs)
    (ho : Only (fun k => Go.Proofs.Ytgcpoanjjgbfjaa.blk a = some k) w w1) (hb : Go.Proofs.Ytgcpoanjjgbfjaa.blk a' = Go.Proofs.Ytgcpoanjjgbfjaa.blk a ∨ FreshA w a') : AddI t w p a zs (w1.setCell ⟨p, 0, none⟩ (.slice a' zs.length c')) a' c' := by
  have hp := heap_lt hbox
  have hbox1 : w1.heap[p]? = some (.cells #[v] t (0, 0)) := (ho.block p hpa hp).trans hbox
  refine ⟨⟨?_, hr.keep fun b hb' => Below.heap_setCell _ _ _ _ ?_, hw⟩, (ho.mono fun k hk => Or.inr hk).trans (Only.of_but (But.setCell _ _ _ _) (Or.inl rfl)), hb⟩
  · have := heap_setCell (j := 0) (v := .slice a' zs.length c') hbox1
    simpa using this
  · rintro rfl
    obtain ⟨cur, hg⟩ := hr.cells hb'
    rw [hbox1] at hg
    simp only [Option.some.injEq, Obj.cells.injEq] at hg
    exact ht hg.2.1
end Go.Proofs.Ytgcpoanjjgbfjaa
