/-
  The statement CardFlows where no card is made.
-/
import Derived.Test.YtclmmncadlbaiaaCFlowsC
namespace Go.Proofs.Ytclmmncadlbaiaa
open Go.RowKit
set_option linter.all false

set_option maxRecDepth 20000 in
set_option maxHeartbeats 2000000 in
theorem flows_no (rx tx : Int) (v : Value) (w : World) (h : fitsB rx = false ∨ fitsB tx = false) :
    Calls Try.prog 6 #[.int .i64 rx, .int .i64 tx, v] w fun e w' => e = .returned (.bool true) ∧ Below w.heap.size w w' := by
  have H := hid h
  by_cases h1 : rx < 1
  · clear h
    go_enter Try.func6, Try.ntmps6
    go_wp2_with (first
      | (go_at_call 7; refine (live_any w).mono ?_; rintro e w1 ⟨rfl, hb1⟩; have HB1 := hid hb1; clear hb1)
      | (go_at_call 8; refine (new_no rx tx w1 H.out).mono ?_; rintro e w' ⟨rfl, hw⟩; have hw2 := hw.symm; clear hw; subst hw2))
    go_ret
    exact ⟨rfl, HB1.out⟩
  · by_cases h2 : 64 < rx
    · clear h
      go_enter Try.func6, Try.ntmps6
      go_wp2_with (first
        | (go_at_call 7; refine (live_any w).mono ?_; rintro e w1 ⟨rfl, hb1⟩; have HB1 := hid hb1; clear hb1)
        | (go_at_call 8; refine (new_no rx tx w1 H.out).mono ?_; rintro e w' ⟨rfl, hw⟩; have hw2 := hw.symm; clear hw; subst hw2))
      go_ret
      exact ⟨rfl, HB1.out⟩
    · by_cases h3 : tx < 1
      · clear h
        go_enter Try.func6, Try.ntmps6
        go_wp2_with (first
          | (go_at_call 7; refine (live_any w).mono ?_; rintro e w1 ⟨rfl, hb1⟩; have HB1 := hid hb1; clear hb1)
          | (go_at_call 8; refine (new_no rx tx w1 H.out).mono ?_; rintro e w' ⟨rfl, hw⟩; have hw2 := hw.symm; clear hw; subst hw2))
        go_ret
        exact ⟨rfl, HB1.out⟩
      · have h4 : 64 < tx := by simp [fitsB] at h; omega
        clear h
        go_enter Try.func6, Try.ntmps6
        go_wp2_with (first
          | (go_at_call 7; refine (live_any w).mono ?_; rintro e w1 ⟨rfl, hb1⟩; have HB1 := hid hb1; clear hb1)
          | (go_at_call 8; refine (new_no rx tx w1 H.out).mono ?_; rintro e w' ⟨rfl, hw⟩; have hw2 := hw.symm; clear hw; subst hw2))
        go_ret
        exact ⟨rfl, HB1.out⟩
end Go.Proofs.Ytclmmncadlbaiaa
