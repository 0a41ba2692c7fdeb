/-
  The statement CardPlays where a card can't be.
-/
import Derived.Test.YtclmmncadlbaiaaCAll
namespace Go.Proofs.Ytclmmncadlbaiaa
open Go.RowKit
set_option linter.all false

/-- New of both: not made, or both made. -/
theorem newP_no (rx tx : Int) (w : World) (h : fitsB rx = false ∨ fitsB tx = false) : Calls Try.prog 8 #[.int .i64 rx, .int .i64 tx] w fun e w' => e = .returned (.pointer none) ∧ w' = w := new_no rx tx w h
set_option maxRecDepth 20000 in
set_option maxHeartbeats 2000000 in
theorem plays_nn (rx tx r2 t2 : Int) (v : Value) (w : World) (h : fitsB rx = false ∨ fitsB tx = false) (h2 : fitsB r2 = false ∨ fitsB t2 = false) :
    Calls Try.prog 5 #[.int .i64 rx, .int .i64 tx, .int .i64 r2, .int .i64 t2, v] w fun e w' => e = .returned (.bool true) ∧ Below w.heap.size w w' := by
  have HN : Hid (∀ wz, Calls Try.prog 8 #[.int .i64 rx, .int .i64 tx] wz fun e w' => e = .returned (.pointer none) ∧ w' = wz) := fun wz => new_no rx tx wz h
  have HR : Hid (∀ wz, Calls Try.prog 9 #[.int .i64 rx, .int .i64 tx] wz fun e w' => e = .returned (.pointer none) ∧ w' = wz) := fun wz => refNew_no rx tx wz h
  have HN2 : Hid (∀ wz, Calls Try.prog 8 #[.int .i64 r2, .int .i64 t2] wz fun e w' => e = .returned (.pointer none) ∧ w' = wz) := fun wz => new_no r2 t2 wz h2
  have HR2 : Hid (∀ wz, Calls Try.prog 9 #[.int .i64 r2, .int .i64 t2] wz fun e w' => e = .returned (.pointer none) ∧ w' = wz) := fun wz => refNew_no r2 t2 wz h2
  clear h h2
  go_enter Try.func5, Try.ntmps5
  go_wp2_with (first
    | (go_at_call 7; refine (live_any w).mono ?_; rintro e w1 ⟨rfl, hb1⟩; have HB1 := hid hb1; clear hb1)
    | (go_at_call 8; with_reducible refine (HN.out _).mono ?_; rintro e w' ⟨rfl, hw⟩; rw [hw]; clear hw)
    | (go_at_call 9; with_reducible refine (HR.out _).mono ?_; rintro e w' ⟨rfl, hw⟩; rw [hw]; clear hw)
    | (go_at_call 8; with_reducible refine (HN2.out _).mono ?_; rintro e w' ⟨rfl, hw⟩; rw [hw]; clear hw)
    | (go_at_call 9; with_reducible refine (HR2.out _).mono ?_; rintro e w' ⟨rfl, hw⟩; rw [hw]; clear hw))
  go_quiet (fail)
  go_wp2
  go_ret
  exact ⟨rfl, bstep (bpush (bpush (bpush HB1.out _) _) _) (drewN_below _ _)⟩
set_option maxRecDepth 20000 in
set_option maxHeartbeats 2000000 in
theorem plays_ny (rx tx : Int) (n2 m2 : Nat) (v : Value) (w : World) (h : fitsB rx = false ∨ fitsB tx = false) (hn1 : 1 ≤ n2) (hn : n2 ≤ 64) (hm1 : 1 ≤ m2) (hm : m2 ≤ 64) :
    Calls Try.prog 5 #[.int .i64 rx, .int .i64 tx, .int .i64 n2, .int .i64 m2, v] w fun e w' => e = .returned (.bool true) ∧ Below w.heap.size w w' := by
  have HN : Hid (∀ wz, Calls Try.prog 8 #[.int .i64 rx, .int .i64 tx] wz fun e w' => e = .returned (.pointer none) ∧ w' = wz) := fun wz => new_no rx tx wz h
  have HR : Hid (∀ wz, Calls Try.prog 9 #[.int .i64 rx, .int .i64 tx] wz fun e w' => e = .returned (.pointer none) ∧ w' = wz) := fun wz => refNew_no rx tx wz h
  have HN2 : Hid (∀ wz, Calls Try.prog 8 #[.int .i64 n2, .int .i64 m2] wz fun e w' => ∃ c, e = .returned (.pointer (some ⟨c, 0, none⟩)) ∧ Hid (Below wz.heap.size wz w')) := fun wz => (new_yes n2 m2 wz hn1 hn hm1 hm).mono (by rintro e w' ⟨c, g, h, rfl, _, _, hb⟩; exact ⟨c, rfl, hb⟩)
  have HR2 : Hid (∀ wz, Calls Try.prog 9 #[.int .i64 n2, .int .i64 m2] wz fun e w' => ∃ c, e = .returned (.pointer (some ⟨c, 0, none⟩)) ∧ Hid (Below wz.heap.size wz w')) := fun wz => (refNew_own n2 m2 wz hn1 hn hm1 hm).mono (by
    rintro e w' ⟨rfl, hr⟩
    obtain ⟨_, _, _, _, _, hr, _⟩ := hr
    exact ⟨_, rfl, hr.bel⟩)
  clear h
  go_enter Try.func5, Try.ntmps5
  go_wp2_with (first
    | (go_at_call 7; refine (live_any w).mono ?_; rintro e w1 ⟨rfl, hb1⟩; have HB1 := hid hb1; clear hb1)
    | (go_at_call 8; with_reducible refine (HN.out _).mono ?_; rintro e w' ⟨rfl, hw⟩; rw [hw]; clear hw)
    | (go_at_call 9; with_reducible refine (HR.out _).mono ?_; rintro e w' ⟨rfl, hw⟩; rw [hw]; clear hw)
    | (go_at_call 8; with_reducible refine (HN2.out _).mono ?_; rintro e w2 ⟨c2, rfl, HB2⟩)
    | (go_at_call 9; with_reducible refine (HR2.out _).mono ?_; rintro e w3 ⟨x2, rfl, HB3⟩; have HB4 := hid (bstep (bstep (bpush (bpush HB1.out _) _) HB2.out) HB3.out); have hx3 : w3.heap[w1.heap.size + 1]? = _ := (HB3.out.block _ (by have := HB2.out.size; simp at this; omega)).trans ((HB2.out.block _ (by simp)).trans (heap2 w1 _ _).2); have y0 : w3.cell? ⟨w1.heap.size + 1, 0, none⟩ = some (.pointer none) := cellHeap hx3 0 rfl; have y1 : w3.cell? ⟨w1.heap.size + 1, 1, none⟩ = some (.pointer none) := cellHeap hx3 1 rfl; have hl3 : w1.heap.size + 1 < w3.heap.size := heap_lt hx3; clear hx3))
  go_quiet (fail)
  go_wp2
  go_ret
  exact ⟨rfl, bstep (bpush HB4.out _) (drewN_below _ _)⟩
set_option maxRecDepth 20000 in
set_option maxHeartbeats 2000000 in
theorem plays_yn (n m : Nat) (r2 t2 : Int) (v : Value) (w : World) (h : fitsB r2 = false ∨ fitsB t2 = false) (hn1 : 1 ≤ n) (hn : n ≤ 64) (hm1 : 1 ≤ m) (hm : m ≤ 64) :
    Calls Try.prog 5 #[.int .i64 n, .int .i64 m, .int .i64 r2, .int .i64 t2, v] w fun e w' => e = .returned (.bool true) ∧ Below w.heap.size w w' := by
  have HN2 : Hid (∀ wz, Calls Try.prog 8 #[.int .i64 r2, .int .i64 t2] wz fun e w' => e = .returned (.pointer none) ∧ w' = wz) := fun wz => new_no r2 t2 wz h
  have HR2 : Hid (∀ wz, Calls Try.prog 9 #[.int .i64 r2, .int .i64 t2] wz fun e w' => e = .returned (.pointer none) ∧ w' = wz) := fun wz => refNew_no r2 t2 wz h
  have HN : Hid (∀ wz, Calls Try.prog 8 #[.int .i64 n, .int .i64 m] wz fun e w' => ∃ c, e = .returned (.pointer (some ⟨c, 0, none⟩)) ∧ Hid (Below wz.heap.size wz w')) := fun wz => (new_yes n m wz hn1 hn hm1 hm).mono (by rintro e w' ⟨c, g, h, rfl, _, _, hb⟩; exact ⟨c, rfl, hb⟩)
  have HR : Hid (∀ wz, Calls Try.prog 9 #[.int .i64 n, .int .i64 m] wz fun e w' => ∃ c, e = .returned (.pointer (some ⟨c, 0, none⟩)) ∧ Hid (Below wz.heap.size wz w')) := fun wz => (refNew_own n m wz hn1 hn hm1 hm).mono (by
    rintro e w' ⟨rfl, hr⟩
    obtain ⟨_, _, _, _, _, hr, _⟩ := hr
    exact ⟨_, rfl, hr.bel⟩)
  clear h
  go_enter Try.func5, Try.ntmps5
  go_wp2_with (first
    | (go_at_call 7; refine (live_any w).mono ?_; rintro e w1 ⟨rfl, hb1⟩; have HB1 := hid hb1; clear hb1)
    | (go_at_call 8; with_reducible refine (HN.out _).mono ?_; rintro e w2 ⟨c2, rfl, HB2⟩)
    | (go_at_call 9; with_reducible refine (HR.out _).mono ?_; rintro e w3 ⟨x2, rfl, HB3⟩; have HB4 := hid (bstep (bstep (bpush HB1.out _) HB2.out) HB3.out))
    | (go_at_call 8; with_reducible refine (HN2.out _).mono ?_; rintro e w' ⟨rfl, hw⟩; rw [hw]; clear hw)
    | (go_at_call 9; with_reducible refine (HR2.out _).mono ?_; rintro e w' ⟨rfl, hw⟩; rw [hw]; clear hw))
  go_quiet (fail)
  go_wp2
  go_ret
  exact ⟨rfl, bstep (bpush (bpush HB4.out _) _) (drewN_below _ _)⟩
end Go.Proofs.Ytclmmncadlbaiaa
