/-
  The statements' own function live.
-/
import Derived.Test.YtlephdpplfpliaaDAwake
namespace Go.Proofs.Ytlephdpplfpliaa
open Go.RowKit
set_option linter.unusedVariables false
set_option linter.unusedSimpArgs false

set_option maxRecDepth 20000 in
set_option maxHeartbeats 1000000 in
theorem live_any (w : World) : Calls Try.prog 5 #[] w fun e w' => e = .returned (.bool true) ∧ Below w.heap.size w w' := by
  have hcv := conv_const
  have HZB : Hid (z32.length = 32 ∧ ∀ z, z ∈ z32 → 0 ≤ z ∧ z ≤ 255) := ⟨rfl, fun z hz => by rw [List.eq_of_mem_replicate hz]; omega⟩
  have HXS : Hid ((strOfNums (hexL z32)).size = 64) := rfl
  go_enter Try.func5, Try.ntmps5
  go_wp2_with (first
    | (go_at_call 12; refine (new_any _).mono ?_; rintro en w' ⟨rfl, rfl⟩))
  have HH1 := ((Holds.nil w).push (.cells hsI.cells.toArray 51)).push (.cells #[Value.int .u8 97] 5 (1, 2))
  simp only [World.size_alloc] at HH1
  refine (write_abc w.heap.size (w.heap.size + 1) _ [] [97] (by simp) (by simp) (by simp) (HH1.at 1 _ _ rfl) _ (HH1.at 0 _ _ rfl) (by omega)).mono ?_
  rintro e w1 ⟨rfl, hg1, hb1⟩
  have HB1 : Hid (Below w.heap.size w w1) := bbut (bpush (bpush (Below.refl _ _) _) _) hb1 (Nat.le_refl _)
  have HLN : Hid (Calls Try.prog 18 #[.pointer (some ⟨w.heap.size, 0, none⟩)] w1 fun e w' => e = .returned (.int .i64 1) ∧ w' = w1) := len_any w.heap.size (absorb hsI [97]) _ (absorb_ok _ _ hsI_ok (by simp)).2.1 hg1
  clear hg1 hb1 HH1
  go_wp2_with (first
    | (go_at_call 18; refine HLN.out.mono ?_; rintro en w' ⟨rfl, rfl⟩)
    | (refine wpList_build_to rfl 26 _ rfl (u8s z32).toArray (by kernel_rfl) ?_))
  refine (hex_any z32 _ HZB.out.1 HZB.out.2).mono ?_
  rintro e w2 ⟨rfl, hb2⟩
  have HB2 : Hid (Below w.heap.size w w2) := bstep HB1.out hb2
  generalize strOfNums (hexL z32) = X at *
  have hxs := HXS.out
  clear hb2 HLN
  go_wp2_with fail
  refine (awake_any _).mono ?_
  rintro e w3 ⟨rfl, hb3⟩
  have HB3 : Hid (Below w.heap.size w w3) := bstep HB2.out hb3
  clear hb3
  go_wp2
  go_ret
  exact ⟨rfl, HB3.out⟩
end Go.Proofs.Ytlephdpplfpliaa
