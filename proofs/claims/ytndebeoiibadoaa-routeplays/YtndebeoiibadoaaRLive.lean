/-
  Route: a few calls; the statement RouteNumbers.
-/
import Derived.Test.YtndebeoiibadoaaRAct
namespace Go.Proofs.Ytndebeoiibadoaa
open Go.RowKit
set_option linter.all false

def Pl.ten : Pl := ⟨167772165, 4294967040, 167772161⟩
theorem Pl.ten_ok : Pl.ten.ok := by simp [Pl.ok, Pl.ten, U32]
theorem live_1 : takesB Pl.zero 0 = false := by decide +kernel
theorem live_2 : takesB Pl.zero 4294967295 = true := by decide +kernel
theorem live_3 : faultV Pl.ten = 0 := by decide +kernel
theorem live_4 : hopV Pl.ten 167772169 = (2, 167772169) := by decide +kernel
theorem live_5 : hopV Pl.ten 167837705 = (3, 167772161) := by decide +kernel
theorem live_6 : takesB Pl.ten 167772415 = true := by decide +kernel
theorem u32_lit (n : Int) (h0 : 0 ≤ n := by decide) (h1 : n ≤ 4294967295 := by decide) : U32 n := ⟨h0, h1⟩

set_option maxHeartbeats 1600000 in
theorem live_any (w : World) : Calls Try.prog 7 #[] w fun e w' => e = .returned (.bool true) ∧ Below w.heap.size w w' := by
  go_enter Try.func7, Try.ntmps7
  go_wp2_with fail
  refine (new_any _).mono ?_
  rintro e w1 ⟨g, rfl, ht, hg, hb⟩
  have HB : Hid (Below w.heap.size w w1) := hb
  have HT : Hid (TabW w1 g Pl.zero) := ht
  clear hb ht
  go_wp2_with fail
  refine (takes_any g Pl.zero 0 w1 Pl.zero_ok HT.out).mono ?_
  rw [live_1]
  rintro e w2 ⟨rfl, hb⟩
  have HB2 : Hid (Below w.heap.size w w2) := bstep HB.out hb
  have HT2 : Hid (TabW w2 g Pl.zero) := HT.out.below hb
  clear hb HT HB
  go_wp2_with fail
  refine (takes_any g Pl.zero 4294967295 w2 Pl.zero_ok HT2.out).mono ?_
  rw [live_2]
  rintro e w3 ⟨rfl, hb⟩
  have HB3 : Hid (Below w.heap.size w w3) := bstep HB2.out hb
  have HT3 : Hid (TabW w3 g Pl.zero) := HT2.out.below hb
  clear hb HT2 HB2
  go_wp2_with fail
  refine (set_any g Pl.zero 167772165 4294967040 167772161 w3 HT3.out Pl.ten_ok).mono ?_
  rw [show faultV ⟨167772165, 4294967040, 167772161⟩ = 0 from live_3, if_pos rfl]
  rintro e w4 ⟨rfl, ht, hb⟩
  have HB4 : Hid (Below w.heap.size w w4) := bbut HB3.out hb hg
  have HT4 : Hid (TabW w4 g Pl.ten) := ht
  clear hb HT3 HB3 ht
  go_wp2_with fail
  refine (hop_any g Pl.ten 167772169 w4 Pl.ten_ok (u32_lit _) HT4.out).mono ?_
  rw [live_4]
  rintro e w5 ⟨rfl, hb⟩
  have HB5 : Hid (Below w.heap.size w w5) := bstep HB4.out hb
  have HT5 : Hid (TabW w5 g Pl.ten) := HT4.out.below hb
  clear hb HT4 HB4
  go_wp2_with fail
  refine (hop_any g Pl.ten 167837705 w5 Pl.ten_ok (u32_lit _) HT5.out).mono ?_
  rw [live_5]
  rintro e w6 ⟨rfl, hb⟩
  have HB6 : Hid (Below w.heap.size w w6) := bstep HB5.out hb
  have HT6 : Hid (TabW w6 g Pl.ten) := HT5.out.below hb
  clear hb HT5 HB5
  go_wp2_with fail
  refine (own_any g Pl.ten w6 HT6.out).mono ?_
  rw [show Pl.ten.ip = 167772165 from rfl]
  rintro e w' ⟨rfl, hw⟩
  subst w'
  go_wp2_with fail
  refine (takes_any g Pl.ten 167772415 w6 Pl.ten_ok HT6.out).mono ?_
  rw [live_6]
  rintro e w7 ⟨rfl, hb⟩
  have HB7 : Hid (Below w.heap.size w w7) := bstep HB6.out hb
  clear hb HT6 HB6
  go_wp2_with fail
  go_ret
  exact ⟨rfl, HB7.out⟩

set_option maxHeartbeats 400000 in
theorem routeNumbers_walk (w : World) : Calls Try.prog 3 #[] w fun e w' => e = .returned (.bool true) ∧ Below w.heap.size w w' := by
  go_enter Try.func3, Try.ntmps3
  go_wp2_with (go_at_call 7; refine (live_any _).mono ?_; rintro e w' ⟨rfl, hb⟩)
  go_ret
  exact ⟨rfl, by assumption⟩
end Go.Proofs.Ytndebeoiibadoaa
