/-
  The walk of BootpNumbers.
-/
import Derived.Test.YtoifblndpcelkaaBoLiv
namespace Go.Proofs.Ytoifblndpcelkaa
open Go.RowKit
set_option linter.all false

theorem part_nil (w : World) : Part.ok w ⟨none, 0, []⟩ := ⟨by simp, Nat.le_refl _, Or.inl rfl⟩
set_option maxRecDepth 20000 in
set_option maxHeartbeats 4000000 in
theorem bootpNumbers_walk (w : World) : Calls Try.prog 3 #[] w fun e w' => e = .returned (.bool true) ∧ Below w.heap.size w w' := by
  have HD : Hid (∀ W, Calls Try.prog 10 #[.slice none 0 0] W fun e w' => ∃ X, e = .returned (.tuple #[.agg X, .int .i64 5]) ∧ Hid (Below W.heap.size W w' ∧ BpV zeroBp [] X w')) := fun W => by
    refine (bp_decode ⟨none, 0, []⟩ W (part_nil W) (by simp)).mono ?_
    rintro e w' ⟨X, rfl, HI⟩
    exact ⟨X, rfl, HI.out.2.1, HI.out.1⟩
  go_enter Try.func3, Try.ntmps3
  go_wp2_with (first
    | (go_at_call 9; refine (live_any _).mono ?_; rintro e w1 ⟨rfl, HB1⟩)
    | (go_at_call 10; refine (HD.out _).mono ?_; rintro e w2 ⟨X, rfl, HB2⟩)
    | (refine wpList_alloc_to rfl 28 rfl zeroC (by kernel_rfl) ?_)
    | (refine wpList_store_row rfl 28 _ _ rfl w2.heap.size X rfl rfl 28 _ (heap_new w2 _) HB2.out.2.info (by rw [HB2.out.2.size]; rfl) HB2.out.2.one ?_)
    | fail)
  go_ret
  exact ⟨rfl, bstep (bstep HB1.out HB2.out.1) (box_laid w2 X).2⟩
end Go.Proofs.Ytoifblndpcelkaa
