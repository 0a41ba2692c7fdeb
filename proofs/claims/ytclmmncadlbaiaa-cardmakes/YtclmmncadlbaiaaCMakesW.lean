/-
  The walk of the statement CardMakes.
-/
import Derived.Test.YtclmmncadlbaiaaCLiveW
import Derived.Test.YtclmmncadlbaiaaCRefN
namespace Go.Proofs.Ytclmmncadlbaiaa
open Go.RowKit
set_option linter.all false

theorem RNewE.below {w w' : World} {n m : Nat} (h : RNewE w w' n m) : Below w.heap.size w w' := by
  obtain ⟨B2, a, cp, a2, cp2, h, _⟩ := h
  exact h.bel
theorem ringsN (n m c g h : Nat) (w : World) (x : CardW w c g h (CS.new n m)) :
    Calls Try.prog 10 #[.pointer (some ⟨c, 0, none⟩)] w fun e w' => e = .returned (.tuple #[.int .i64 n, .int .i64 m]) ∧ Below w.heap.size w w' :=
  (rings_any c g h _ w x).mono (by rintro e w' ⟨rfl, hb⟩; exact ⟨by simp [CS.new], hb⟩)
theorem countsN (n m c g h : Nat) (w : World) (x : CardW w c g h (CS.new n m)) :
    Calls Try.prog 11 #[.pointer (some ⟨c, 0, none⟩)] w fun e w' => e = .returned (.agg #[.int .i64 0, .int .i64 0, .int .i64 0]) ∧ Below w.heap.size w w' :=
  (counts_any c g h _ w x).mono (by rintro e w' ⟨rfl, hb⟩; exact ⟨by simp [CS.new], hb⟩)
set_option maxHeartbeats 1000000 in
theorem cardMakes_walk (rx tx : Int) (w : World) (b1 : -9223372036854775808 ≤ rx ∧ rx ≤ 9223372036854775807) (b2 : -9223372036854775808 ≤ tx ∧ tx ≤ 9223372036854775807) :
    Calls Try.prog 4 #[.int .i64 rx, .int .i64 tx] w fun e w' => e = .returned (.bool true) ∧ Below w.heap.size w w' := by
  by_cases h : fitsB rx = false ∨ fitsB tx = false
  · have H := hid h
    clear h
    go_enter Try.func4, Try.ntmps4
    go_wp2_with (first
      | (go_at_call 7; refine (live_any w).mono ?_; rintro e w1 ⟨rfl, hb1⟩; have HB1 := hid hb1; clear hb1)
      | (go_at_call 8; refine (new_no rx tx w1 H.out).mono ?_; rintro e w' ⟨rfl, hw⟩; have hw2 := hw.symm; clear hw; subst hw2)
      | (go_at_call 9; refine (refNew_no rx tx w1 H.out).mono ?_; rintro e w' ⟨rfl, hw⟩; have hw2 := hw.symm; clear hw; subst hw2))
    go_ret
    exact ⟨rfl, HB1.out⟩
  · obtain ⟨n, rfl, hn1, hn⟩ : ∃ n : Nat, rx = n ∧ 1 ≤ n ∧ n ≤ 64 := ⟨rx.toNat, by simp [fitsB] at h; omega, by simp [fitsB] at h; omega, by simp [fitsB] at h; omega⟩
    obtain ⟨m, rfl, hm1, hm⟩ : ∃ m : Nat, tx = m ∧ 1 ≤ m ∧ m ≤ 64 := ⟨tx.toNat, by simp [fitsB] at h; omega, by simp [fitsB] at h; omega, by simp [fitsB] at h; omega⟩
    clear h
    go_enter Try.func4, Try.ntmps4
    go_wp2_with (first
      | (go_at_call 7; refine (live_any w).mono ?_; rintro e w1 ⟨rfl, hb1⟩; have HB1 := hid hb1; clear hb1)
      | (go_at_call 8; refine (new_yes n m w1 hn1 hn hm1 hm).mono ?_; rintro e w2 ⟨c, g, h, rfl, hx, hk, hb⟩; have HX := hid hx; have HB2 := hid (bstep HB1.out hb); clear hx hk hb HB1)
      | (go_at_call 9; refine (refNew_own n m w2 hn1 hn hm1 hm).mono ?_; rintro e w3 ⟨rfl, hr⟩; have HX3 := hid (HX.out.below hr.below); have HB3 := hid (bstep HB2.out hr.below); clear hr HX HB2)
      | (go_at_call 10; refine (ringsN n m c g h w3 HX3.out).mono ?_; rintro e w4 ⟨rfl, hb⟩; have HX4 := hid (HX3.out.below hb); have HB4 := hid (bstep HB3.out hb); clear hb HX3 HB3)
      | (go_at_call 11; refine (countsN n m c g h w4 HX4.out).mono ?_; rintro e w5 ⟨rfl, hb⟩; have HB5 := hid (bstep HB4.out hb); clear hb HX4 HB4))
    go_ret
    exact ⟨rfl, bpush HB5.out _⟩
end Go.Proofs.Ytclmmncadlbaiaa
