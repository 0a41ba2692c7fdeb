/-
  The walks of the statements FrameNames and FrameMine.
-/
import Derived.Test.YtkhongkfnedflaaFAwake
import Derived.Test.YtkhongkfnedflaaFRefMine
namespace Go.Proofs.Ytkhongkfnedflaa
open Go.RowKit
set_option linter.all false

set_option maxHeartbeats 400000 in
theorem frameNames_walk (w : World) : Calls Try.prog 3 #[] w fun e w' => e = .returned (.bool true) ∧ Below w.heap.size w w' := by
  go_enter Try.func3, Try.ntmps3
  go_wp2_with fail
  refine (awake_any _).mono ?_
  rintro e w1 ⟨rfl, hb1⟩
  have HB1 := hid hb1
  clear hb1
  go_wp2
  go_ret
  exact ⟨rfl, HB1.out⟩

set_option maxRecDepth 20000 in
set_option maxHeartbeats 1000000 in
theorem frameMine_walk (own d s : Mac) (k : Int) (pt : Part) (w : World) (ho : own.ok) (hd : d.ok) (hs : s.ok) (hk : -9223372036854775808 ≤ k ∧ k ≤ 9223372036854775807) (hp : pt.ok w) (hz : pt.zs.length ≤ 140737488351232) :
    Calls Try.prog 6 #[own.val, frameV d s k pt.val] w fun e w' => e = .returned (.bool true) ∧ Below w.heap.size w w' := by
  have HM : Hid (∀ w, Calls Try.prog 18 #[own.val, frameV d s k pt.val] w fun e w' => e = .returned (.bool (mineB own d s)) ∧ Below w.heap.size w w') := fun w => mine_any own d s k pt.a pt.zs.length pt.c w ho hd hs
  have HR : Hid (∀ w, Calls Try.prog 19 #[own.val, frameV d s k pt.val] w fun e w' => e = .returned (.bool (mineB own d s)) ∧ Below w.heap.size w w') := fun w => refMine_any own d s k pt.a pt.zs.length pt.c w ho hd hs
  clear ho hd hs hp hz hk
  generalize mineB own d s = R at *
  obtain ⟨d0, d1, d2, d3, d4, d5⟩ := d
  obtain ⟨s0, s1, s2, s3, s4, s5⟩ := s
  obtain ⟨o0, o1, o2, o3, o4, o5⟩ := own
  simp only [Mac.val, frameV, Part.val] at *
  go_enter Try.func6, Try.ntmps6
  go_wp2_with fail
  refine (awake_any _).mono ?_
  rintro e w1 ⟨rfl, hb1⟩
  obtain ⟨hc1, hc2, hb3, hlt⟩ := mine_keep (mine_start0 _ _ _ _ _) hb1
  have HK := hid (mine_keep (mine_start0 _ _ _ _ _) hb1)
  clear hb1 hb3 hlt
  go_wp2_with fail
  refine (HM.out _).mono ?_
  rintro e w2 ⟨rfl, hb2⟩
  have HK2 := hid (mine_keep HK.out hb2)
  obtain ⟨hc3, hc4, hb4, hlt4⟩ := mine_keep HK.out hb2
  clear hb2 hb4 hlt4 hc1 hc2
  go_wp2_with fail
  refine (HR.out _).mono ?_
  rintro e w3 ⟨rfl, hb3⟩
  have HK3 := hid (mine_keep HK2.out hb3)
  clear hb3 hc3 hc4
  go_wp2
  go_ret
  exact ⟨by simp, HK3.out.2.2.1⟩
end Go.Proofs.Ytkhongkfnedflaa
