/-
  The contract of bytes.Clone. For every seat.
-/
import Derived.Test.YtgcpoanjjgbfjaaBApp
import Derived.Test.YtgcpoanjjgbfjaaBAns
import Derived.Lib.SliceRun
namespace Go.Proofs.Ytgcpoanjjgbfjaa
open Go.RowKit
set_option linter.all false

set_option maxHeartbeats 1000000 in
theorem bclone_any (pt : Part) (w : World) (hok : pt.ok w) (hl : pt.zs.length ≤ 140737488355328) :
    Calls Try.prog 76 #[pt.val] w fun e w' => ∃ a c, e = .returned (.slice a pt.zs.length c) ∧ Hid (Ans w w' pt.zs a pt.zs.length c) := by
  obtain ⟨a, c, zs⟩ := pt
  simp only [Part.val] at *
  cases a with
  | none =>
    have hz : zs = [] := by
      rcases hok.2.2 with h | ⟨b, o, h, _⟩
      · exact h
      · simp at h
    subst hz
    clear hok hl
    have he : ∀ wx : World, (binOp .eql 36 (.slice none 0 c) (.slice none 0 0)).run Try.prog wx = .ok (.bool true) wx := fun wx => Lib.run_eql_slice_nil wx _ _ _ _ _ _ _ Try.underlying36
    go_enter Try.func76, Try.ntmps76
    go_wp2
    go_ret
    exact ⟨none, 0, rfl, ans_nil (Below.refl _ _)⟩
  | some x =>
    have hrow : Row (w.alloc (.cells #[] 5)) 5 (.slice (some ⟨w.heap.size, 0, none⟩) 0 0) (u8s []) := Row.of_heap (vs := []) (heap_new w _) (by simp)
    obtain ⟨a', c', w', hrun, hr, hb, hf⟩ := append_row_part hrow w.heap.size (by simp) (fun b hb => by simp [Value.ownBlock] at hb; omega) ⟨some x, c, zs⟩ (Part.ok_below hok (bpush (Below.refl _ _) _)) (by simpa using hl) 36
    simp only [List.length_nil, Nat.zero_add, List.nil_append, Part.val] at hrun hr hf
    have HN := hid hrun
    have HA : Hid (Ans w w' zs a' zs.length c') := ⟨hr, hf, (bpush (Below.refl _ w) (.cells #[] 5)).trans hb⟩
    clear hok hl hrow hrun hr hb hf
    have he : ∀ wx : World, (binOp .eql 36 (.slice (some x) zs.length c) (.slice none 0 0)).run Try.prog wx = .ok (.bool false) wx := fun wx => Lib.run_eql_slice_nil wx _ _ _ _ _ _ _ Try.underlying36
    go_enter Try.func76, Try.ntmps76
    go_wp2_with (first | (at_builtin; refine wpList_append_run _ rfl _ _ _ _ rfl _ _ rfl rfl HN.out ?_))
    go_ret
    exact ⟨a', c', rfl, HA⟩
end Go.Proofs.Ytgcpoanjjgbfjaa
