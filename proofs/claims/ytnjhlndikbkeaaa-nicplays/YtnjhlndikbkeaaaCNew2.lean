/-
  card.New, whole.
-/
import Derived.Test.YtnjhlndikbkeaaaCNew
namespace Go.Proofs.Ytnjhlndikbkeaaa
open Go.RowKit
set_option linter.all false

def CS.new (n m : Nat) : CS := ⟨List.replicate n ⟨true, []⟩, List.replicate m ⟨false, []⟩, 0, 0, 0, 0, 0⟩
set_option maxHeartbeats 1000000 in
theorem new_no (rx tx : Int) (w : World) (h : fitsB rx = false ∨ fitsB tx = false) :
    Calls Try.prog 7 #[.int .i64 rx, .int .i64 tx] w fun e w' => e = .returned (.pointer none) ∧ w' = w := by
  by_cases h1 : fitsB rx = false
  · clear h
    go_enter Try.func7, Try.ntmps7
    go_wp2_with (first | (go_at_call 23; refine (fits_any _ w).mono ?_; rintro e w' ⟨rfl, hw⟩; have hw2 := hw.symm; clear hw; subst hw2))
    go_ret
    exact ⟨rfl, rfl⟩
  · have h2 : fitsB rx = true := by simpa using h1
    have h3 : fitsB tx = false := by rcases h with h | h; · exact absurd h h1
                                     · exact h
    clear h h1
    go_enter Try.func7, Try.ntmps7
    go_wp2_with (first | (go_at_call 23; refine (fits_any _ w).mono ?_; rintro e w' ⟨rfl, hw⟩; have hw2 := hw.symm; clear hw; subst hw2))
    go_ret
    exact ⟨rfl, rfl⟩
set_option maxHeartbeats 1000000 in
theorem new_yes (n m : Nat) (w : World) (hn1 : 1 ≤ n) (hn : n ≤ 64) (hm1 : 1 ≤ m) (hm : m ≤ 64) :
    Calls Try.prog 7 #[.int .i64 n, .int .i64 m] w fun e w' => ∃ c g h, e = .returned (.pointer (some ⟨c, 0, none⟩)) ∧ CardW w' c g h (CS.new n m) ∧ (∀ k, CardK c g h k → w.heap.size ≤ k) ∧ Below w.heap.size w w' := by
  have f1 : fitsB n = true := by simp [fitsB]; omega
  have f2 : fitsB m = true := by simp [fitsB]; omega
  go_enter Try.func7, Try.ntmps7
  go_wp2_with (first
    | (go_at_call 23; refine (fits_any _ w).mono ?_; rintro e w' ⟨rfl, hw⟩; have hw2 := hw.symm; clear hw; subst hw2)
    | (go_at_call 24; with_reducible refine (newRing_any n true w hn).mono ?_; rintro e w1 ⟨g, rfl, hg1, hr1, hb1⟩; have HG1 := hid hg1; have HR1 := hid hr1; have HB1 := hid hb1; clear hg1 hr1 hb1)
    | (go_at_call 24; with_reducible refine (newRing_any m false w1 hm).mono ?_; rintro e w2 ⟨h, rfl, hg2, hr2, hb2⟩; have HG2 := hid hg2; have HR2 := hid hr2; have HB2 := hid hb2; clear hg2 hr2 hb2))
  go_ret
  have s1 := HB1.out.size
  have s2 := HB2.out.size
  have gl : g < w1.heap.size := HR1.out.lt
  have hl : h < w2.heap.size := HR2.out.lt
  have g0 := HG1.out
  have h0 := HG2.out
  have B0 := balloc w2 (.cells ((CS.new n m).box g h) 75)
  refine ⟨w2.heap.size, g, h, rfl, ⟨?_, ?_, ?_, by simp [CS.new]; omega, by simp [CS.new]; omega, by simp [CS.new]; omega, by simp [CS.new]; omega, by omega, by omega, by omega⟩, fun k hk => ?_, ?_⟩
  · have := heap_new w2 (.cells ((CS.new n m).box g h) 75)
    simpa [CS.box, CS.new] using this
  · exact HR1.out.keep ((heap_old _ _ (by omega)).trans (HB2.out.block g gl))
  · exact HR2.out.keep (heap_old _ _ hl)
  · rcases hk with rfl | rfl | rfl <;> omega
  · exact bpush (bstep HB1.out HB2.out) _
end Go.Proofs.Ytnjhlndikbkeaaa
