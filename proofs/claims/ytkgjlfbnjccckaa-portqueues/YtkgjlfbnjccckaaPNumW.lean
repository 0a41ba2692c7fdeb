/-
  Port: PortNumbers and PortMakes, walked.
-/
import Derived.Test.YtkgjlfbnjccckaaPLive
namespace Go.Proofs.Ytkgjlfbnjccckaa
open Go.RowKit
set_option linter.all false

set_option maxHeartbeats 1000000 in
theorem portNumbers_walk (w : World) : Calls Try.prog 3 #[] w fun e w' => e = .returned (.bool true) ∧ Below w.heap.size w w' := by
  have HL := hid (live_any w)
  go_enter Try.func3, Try.ntmps3
  go_wp2_with (first | (go_at_call 7; refine HL.out.mono ?_; rintro e w1 ⟨rfl, HB⟩))
  go_ret
  exact ⟨rfl, HB.out⟩
set_option maxHeartbeats 2000000 in
theorem portMakes_walk (M D : Int) (w : World) : Calls Try.prog 4 #[.int .i64 M, .int .i64 D] w fun e w' => e = .returned (.bool true) ∧ Below w.heap.size w w' := by
  have HL := hid (live_any w)
  by_cases h : 1 ≤ M ∧ M ≤ 16 ∧ 1 ≤ D ∧ D ≤ 32
  · have HN : Hid (∀ w1 : World, Calls Try.prog 8 #[.int .i64 M, .int .i64 D] w1 fun e w' => ∃ c m, e = .returned (.pointer (some ⟨c, 0, none⟩)) ∧ Hid (PMade w1 w' c m M D)) := fun w1 => pnew_yes M D w1 h
    have HK : Hid (∀ w1 c m, PoW w1 c m M D [] → Calls Try.prog 9 #[.pointer (some ⟨c, 0, none⟩)] w1 fun e w' => ∃ a cp, e = .returned (.slice a 0 cp) ∧ Hid (PLk w1 w' a 0 cp [])) := fun w1 c m x => plook_any c m M D [] w1 x
    obtain ⟨h1, h2, h3, h4⟩ := h
    go_enter Try.func4, Try.ntmps4
    go_wp2_with (first
      | (go_at_call 7; refine HL.out.mono ?_; rintro e w1 ⟨rfl, HB⟩)
      | (go_at_call 8; refine (HN.out w1).mono ?_; go_loud (rintro e w2 ⟨c, m, rfl, HP⟩))
      | (go_at_call 9; refine (HK.out w2 c m HP.out.tab).mono ?_; go_loud (rintro e w3 ⟨la, lc, rfl, HLK⟩)))
    go_ret
    exact ⟨rfl, bstep (bstep HB.out HP.out.bel) HLK.out.below⟩
  · have HN : Hid (∀ w1 : World, Calls Try.prog 8 #[.int .i64 M, .int .i64 D] w1 fun e w' => e = .returned (.pointer none) ∧ w' = w1) := fun w1 => pnew_no M D w1 h
    go_enter Try.func4, Try.ntmps4
    go_wp2_with (first
      | (go_at_call 7; refine HL.out.mono ?_; rintro e w1 ⟨rfl, HB⟩)
      | (go_at_call 8; refine (HN.out w1).mono ?_; go_loud (rintro e w2 ⟨rfl, rfl⟩)))
    all_goals first
      | (exfalso; omega)
      | (go_ret; exact ⟨rfl, HB.out⟩)
      | (go_ret; exact ⟨ret_bool (by simp; omega), HB.out⟩)
end Go.Proofs.Ytkgjlfbnjccckaa
