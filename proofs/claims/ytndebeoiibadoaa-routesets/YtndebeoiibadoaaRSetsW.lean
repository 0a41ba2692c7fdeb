/-
  RouteSets, walked.
-/
import Derived.Test.YtndebeoiibadoaaRStep2
import Derived.Test.YtndebeoiibadoaaRLive
namespace Go.Proofs.Ytndebeoiibadoaa
open Go.RowKit
set_option linter.all false

/-- a table beside the document's, both new. -/
theorem PX.start {w0 w1 w2 : World} {g h : Nat} (hb : Below w0.heap.size w0 w1) (ht : TabW w1 g Pl.zero) (hg : w0.heap.size ≤ g) (hr : RTabW w2 h false Pl.zero) (hh : w1.heap.size ≤ h) (hb2 : Below w1.heap.size w1 w2) : PX w0 w2 g h Pl.zero Pl.zero [] :=
  ⟨ht.below hb2, hr, Pl.zero_ok, Pl.zero_ok, Holds.nil _, fun x hx => by simp at hx, bstep hb hb2, hg, by have := hb.size; omega⟩
set_option maxRecDepth 20000 in
set_option maxHeartbeats 1600000 in
theorem routeSets_walk (i m r d : Int) (w : World) (hi : 0 ≤ i ∧ i ≤ 4294967295) (hm : 0 ≤ m ∧ m ≤ 4294967295) (hr : 0 ≤ r ∧ r ≤ 4294967295) (hd : 0 ≤ d ∧ d ≤ 4294967295) :
    Calls Try.prog 5 #[.int .u32 i, .int .u32 m, .int .u32 r, .int .u32 d] w fun e w' => e = .returned (.bool true) ∧ Below w.heap.size w w' := by
  have HQ : Hid (Pl.mk i m r).ok := ⟨hi, hm, hr⟩
  have HD : Hid (U32 d) := hd
  clear hi hm hr hd
  go_enter Try.func5, Try.ntmps5
  go_wp2_with fail
  refine (live_any _).mono ?_
  rintro e w1 ⟨rfl, hb⟩
  have HB1 : Hid (Below w.heap.size w w1) := hb
  clear hb
  go_wp2_with fail
  refine (new_any _).mono ?_
  rintro e w2 ⟨g, rfl, ht, hg, hb⟩
  have HN : Hid (TabW w2 g Pl.zero ∧ w1.heap.size ≤ g ∧ Below w1.heap.size w1 w2) := ⟨ht, hg, hb⟩
  clear ht hg hb
  go_wp2_with fail
  refine (refNew_any _).mono ?_
  rintro e w3 ⟨h, rfl, ht, hg, hb⟩
  have HP : Hid (PX w1 w3 g h Pl.zero Pl.zero []) := PX.start HN.out.2.2 HN.out.1 HN.out.2.1 ht hg hb
  clear ht hg hb HN
  go_wp2_with fail
  refine (step_set HP.out i m r HQ.out).mono ?_
  rintro e w4 ⟨rfl, p4, HP4⟩
  clear HP
  go_wp2_with fail
  refine (step_own HP4.out 0 0 0).mono ?_
  rintro e w5 ⟨rfl, p5, HP5⟩
  clear HP4
  go_wp2_with fail
  refine (step_takes HP5.out d 0 0).mono ?_
  rintro e w6 ⟨rfl, p6, HP6⟩
  clear HP5
  go_wp2_with fail
  refine (step_hop HP6.out d 0 0 HD.out).mono ?_
  rintro e w7 ⟨rfl, p7, HP7⟩
  clear HP6
  go_wp2_with fail
  go_ret
  exact ⟨rfl, bstep HB1.out HP7.out.below⟩
end Go.Proofs.Ytndebeoiibadoaa
