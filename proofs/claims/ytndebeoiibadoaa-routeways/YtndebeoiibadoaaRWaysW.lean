/-
  The walk of the statement RouteWays.
-/
import Derived.Test.YtndebeoiibadoaaRMath
import Derived.Test.YtndebeoiibadoaaRLive
namespace Go.Proofs.Ytndebeoiibadoaa
open Go.RowKit
set_option linter.all false

set_option maxRecDepth 20000 in
set_option maxHeartbeats 4000000 in
theorem routeWays_walk (i m r d : Int) (w : World) (hi : 0 ≤ i ∧ i ≤ 4294967295) (hm : 0 ≤ m ∧ m ≤ 4294967295) (hr : 0 ≤ r ∧ r ≤ 4294967295) (hd : 0 ≤ d ∧ d ≤ 4294967295) :
    Calls Try.prog 6 #[.int .u32 i, .int .u32 m, .int .u32 r, .int .u32 d] w fun e w' => e = .returned (.bool true) ∧ Below w.heap.size w w' := by
  have HQ : Hid (Pl.mk i m r).ok := ⟨hi, hm, hr⟩
  have HD : Hid (U32 d) := hd
  clear hi hm hr hd
  go_enter Try.func6, Try.ntmps6
  go_wp2_with fail
  refine (live_any _).mono ?_
  rintro e w1 ⟨rfl, hb⟩
  have HB1 : Hid (Below w.heap.size w w1) := hb
  clear hb
  go_wp2_with fail
  refine (new_any _).mono ?_
  rintro e w2 ⟨g, rfl, ht, hg, hb⟩
  have HB2 : Hid (Below w.heap.size w w2) := bstep HB1.out hb
  have HG : Hid (w.heap.size ≤ g) := Nat.le_trans HB1.out.size hg
  have HT2 : Hid (TabW w2 g Pl.zero) := ht
  clear hb ht HB1 hg
  go_wp2_with fail
  refine (set_any g Pl.zero i m r w2 HT2.out HQ.out).mono ?_
  by_cases hF : faultV ⟨i, m, r⟩ = 0
  · have HF : Hid (faultV ⟨i, m, r⟩ = 0) := hF
    have HGD : Hid (Good ⟨i, m, r⟩) := good_of hF
    have HOWN : Hid (takesB ⟨i, m, r⟩ i = true) := takes_own HGD.out
    clear hF
    rw [HF.out, if_pos rfl]
    rintro e w3 ⟨rfl, ht, hb⟩
    have HB3 : Hid (Below w.heap.size w w3) := bbut HB2.out hb HG.out
    have HT3 : Hid (TabW w3 g ⟨i, m, r⟩) := ht
    clear hb HT2 HB2 ht
    rcases hop_cases HQ.out HGD.out d with hh | ⟨hh, htk, hc⟩ | ⟨hh, f1, f2, htk⟩ | ⟨hh, f1, f2, f3, f4, htk⟩
    · obtain ⟨tk, htk⟩ : ∃ tk, takesB ⟨i, m, r⟩ d = tk := ⟨_, rfl⟩
      have HH : Hid (hopV ⟨i, m, r⟩ d = _) := hh
      have HTK : Hid (takesB ⟨i, m, r⟩ d = _) := htk
      clear hh htk
      go_wp2_with fail
      refine (hop_any g ⟨i, m, r⟩ d w3 HQ.out HD.out HT3.out).mono ?_
      rw [HH.out]
      rintro e w4 ⟨rfl, hb⟩
      have HB4 : Hid (Below w.heap.size w w4) := bstep HB3.out hb
      have HT4 : Hid (TabW w4 g ⟨i, m, r⟩) := HT3.out.below hb
      clear hb HT3 HB3
      go_wp2_with fail
      refine (takes_any g ⟨i, m, r⟩ d w4 HQ.out HT4.out).mono ?_
      rw [HTK.out]
      rintro e w5 ⟨rfl, hb⟩
      have HB5 : Hid (Below w.heap.size w w5) := bstep HB4.out hb
      have HT5 : Hid (TabW w5 g ⟨i, m, r⟩) := HT4.out.below hb
      clear hb HT4 HB4
      go_wp2_with fail
      refine (takes_any g ⟨i, m, r⟩ i w5 HQ.out HT5.out).mono ?_
      rw [HOWN.out]
      rintro e w6 ⟨rfl, hb⟩
      have HB6 : Hid (Below w.heap.size w w6) := bstep HB5.out hb
      have HT6 : Hid (TabW w6 g ⟨i, m, r⟩) := HT5.out.below hb
      clear hb HT5 HB5
      go_wp2_with fail
      refine (clear_any g ⟨i, m, r⟩ w6 HT6.out).mono ?_
      rintro e w7 ⟨rfl, ht, hb⟩
      have HB7 : Hid (Below w.heap.size w w7) := bbut HB6.out hb HG.out
      have HT7 : Hid (TabW w7 g Pl.zero) := ht
      clear hb HT6 HB6 ht
      go_wp2_with fail
      refine (own_any g Pl.zero w7 HT7.out).mono ?_
      rw [show Pl.zero.ip = 0 from rfl]
      rintro e w' ⟨rfl, hw⟩
      subst w'
      go_wp2_with fail
      refine (set_any g Pl.zero i m r w7 HT7.out HQ.out).mono ?_
      rw [HF.out, if_pos rfl]
      rintro e w8 ⟨rfl, ht, hb⟩
      have HB8 : Hid (Below w.heap.size w w8) := bbut HB7.out hb HG.out
      have HT8 : Hid (TabW w8 g ⟨i, m, r⟩) := ht
      clear hb HT7 HB7 ht
      go_wp2_with fail
      refine (hop_any g ⟨i, m, r⟩ d w8 HQ.out HD.out HT8.out).mono ?_
      rw [HH.out]
      rintro e w9 ⟨rfl, hb⟩
      have HB9 : Hid (Below w.heap.size w w9) := bstep HB8.out hb
      have HT9 : Hid (TabW w9 g ⟨i, m, r⟩) := HT8.out.below hb
      clear hb HT8 HB8
      go_wp2_with fail
      refine (takes_any g ⟨i, m, r⟩ d w9 HQ.out HT9.out).mono ?_
      rw [HTK.out]
      rintro e w10 ⟨rfl, hb⟩
      have HB10 : Hid (Below w.heap.size w w10) := bstep HB9.out hb
      have HT10 : Hid (TabW w10 g ⟨i, m, r⟩) := HT9.out.below hb
      clear hb HT9 HB9
      go_wp2_with fail
      refine (own_any g ⟨i, m, r⟩ w10 HT10.out).mono ?_
      rintro e w' ⟨rfl, hw⟩
      subst w'
      go_wp2_with fail
      go_ret
      exact ⟨ret_bool (by simp), HB10.out⟩
    · have HH : Hid (hopV ⟨i, m, r⟩ d = _) := hh
      have HTK : Hid (takesB ⟨i, m, r⟩ d = _) := htk
      clear hh htk
      rcases hc with hc | ⟨hc, hc2⟩
      all_goals
          go_wp2_with fail
          refine (hop_any g ⟨i, m, r⟩ d w3 HQ.out HD.out HT3.out).mono ?_
          rw [HH.out]
          rintro e w4 ⟨rfl, hb⟩
          have HB4 : Hid (Below w.heap.size w w4) := bstep HB3.out hb
          have HT4 : Hid (TabW w4 g ⟨i, m, r⟩) := HT3.out.below hb
          clear hb HT3 HB3
          go_wp2_with fail
          refine (takes_any g ⟨i, m, r⟩ d w4 HQ.out HT4.out).mono ?_
          rw [HTK.out]
          rintro e w5 ⟨rfl, hb⟩
          have HB5 : Hid (Below w.heap.size w w5) := bstep HB4.out hb
          have HT5 : Hid (TabW w5 g ⟨i, m, r⟩) := HT4.out.below hb
          clear hb HT4 HB4
          go_wp2_with fail
          refine (takes_any g ⟨i, m, r⟩ i w5 HQ.out HT5.out).mono ?_
          rw [HOWN.out]
          rintro e w6 ⟨rfl, hb⟩
          have HB6 : Hid (Below w.heap.size w w6) := bstep HB5.out hb
          have HT6 : Hid (TabW w6 g ⟨i, m, r⟩) := HT5.out.below hb
          clear hb HT5 HB5
          go_wp2_with fail
          refine (clear_any g ⟨i, m, r⟩ w6 HT6.out).mono ?_
          rintro e w7 ⟨rfl, ht, hb⟩
          have HB7 : Hid (Below w.heap.size w w7) := bbut HB6.out hb HG.out
          have HT7 : Hid (TabW w7 g Pl.zero) := ht
          clear hb HT6 HB6 ht
          go_wp2_with fail
          refine (own_any g Pl.zero w7 HT7.out).mono ?_
          rw [show Pl.zero.ip = 0 from rfl]
          rintro e w' ⟨rfl, hw⟩
          subst w'
          go_wp2_with fail
          refine (set_any g Pl.zero i m r w7 HT7.out HQ.out).mono ?_
          rw [HF.out, if_pos rfl]
          rintro e w8 ⟨rfl, ht, hb⟩
          have HB8 : Hid (Below w.heap.size w w8) := bbut HB7.out hb HG.out
          have HT8 : Hid (TabW w8 g ⟨i, m, r⟩) := ht
          clear hb HT7 HB7 ht
          go_wp2_with fail
          refine (hop_any g ⟨i, m, r⟩ d w8 HQ.out HD.out HT8.out).mono ?_
          rw [HH.out]
          rintro e w9 ⟨rfl, hb⟩
          have HB9 : Hid (Below w.heap.size w w9) := bstep HB8.out hb
          have HT9 : Hid (TabW w9 g ⟨i, m, r⟩) := HT8.out.below hb
          clear hb HT8 HB8
          go_wp2_with fail
          refine (takes_any g ⟨i, m, r⟩ d w9 HQ.out HT9.out).mono ?_
          rw [HTK.out]
          rintro e w10 ⟨rfl, hb⟩
          have HB10 : Hid (Below w.heap.size w w10) := bstep HB9.out hb
          have HT10 : Hid (TabW w10 g ⟨i, m, r⟩) := HT9.out.below hb
          clear hb HT9 HB9
          go_wp2_with fail
          refine (own_any g ⟨i, m, r⟩ w10 HT10.out).mono ?_
          rintro e w' ⟨rfl, hw⟩
          subst w'
          go_wp2_with fail
          go_ret
          exact ⟨ret_bool (by simp), HB10.out⟩
    · have HH : Hid (hopV ⟨i, m, r⟩ d = _) := hh
      have HTK : Hid (takesB ⟨i, m, r⟩ d = _) := htk
      clear hh htk
      go_wp2_with fail
      refine (hop_any g ⟨i, m, r⟩ d w3 HQ.out HD.out HT3.out).mono ?_
      rw [HH.out]
      rintro e w4 ⟨rfl, hb⟩
      have HB4 : Hid (Below w.heap.size w w4) := bstep HB3.out hb
      have HT4 : Hid (TabW w4 g ⟨i, m, r⟩) := HT3.out.below hb
      clear hb HT3 HB3
      go_wp2_with fail
      refine (takes_any g ⟨i, m, r⟩ d w4 HQ.out HT4.out).mono ?_
      rw [HTK.out]
      rintro e w5 ⟨rfl, hb⟩
      have HB5 : Hid (Below w.heap.size w w5) := bstep HB4.out hb
      have HT5 : Hid (TabW w5 g ⟨i, m, r⟩) := HT4.out.below hb
      clear hb HT4 HB4
      go_wp2_with fail
      refine (takes_any g ⟨i, m, r⟩ i w5 HQ.out HT5.out).mono ?_
      rw [HOWN.out]
      rintro e w6 ⟨rfl, hb⟩
      have HB6 : Hid (Below w.heap.size w w6) := bstep HB5.out hb
      have HT6 : Hid (TabW w6 g ⟨i, m, r⟩) := HT5.out.below hb
      clear hb HT5 HB5
      go_wp2_with fail
      refine (clear_any g ⟨i, m, r⟩ w6 HT6.out).mono ?_
      rintro e w7 ⟨rfl, ht, hb⟩
      have HB7 : Hid (Below w.heap.size w w7) := bbut HB6.out hb HG.out
      have HT7 : Hid (TabW w7 g Pl.zero) := ht
      clear hb HT6 HB6 ht
      go_wp2_with fail
      refine (own_any g Pl.zero w7 HT7.out).mono ?_
      rw [show Pl.zero.ip = 0 from rfl]
      rintro e w' ⟨rfl, hw⟩
      subst w'
      go_wp2_with fail
      refine (set_any g Pl.zero i m r w7 HT7.out HQ.out).mono ?_
      rw [HF.out, if_pos rfl]
      rintro e w8 ⟨rfl, ht, hb⟩
      have HB8 : Hid (Below w.heap.size w w8) := bbut HB7.out hb HG.out
      have HT8 : Hid (TabW w8 g ⟨i, m, r⟩) := ht
      clear hb HT7 HB7 ht
      go_wp2_with fail
      refine (hop_any g ⟨i, m, r⟩ d w8 HQ.out HD.out HT8.out).mono ?_
      rw [HH.out]
      rintro e w9 ⟨rfl, hb⟩
      have HB9 : Hid (Below w.heap.size w w9) := bstep HB8.out hb
      have HT9 : Hid (TabW w9 g ⟨i, m, r⟩) := HT8.out.below hb
      clear hb HT8 HB8
      go_wp2_with fail
      refine (takes_any g ⟨i, m, r⟩ d w9 HQ.out HT9.out).mono ?_
      rw [HTK.out]
      rintro e w10 ⟨rfl, hb⟩
      have HB10 : Hid (Below w.heap.size w w10) := bstep HB9.out hb
      have HT10 : Hid (TabW w10 g ⟨i, m, r⟩) := HT9.out.below hb
      clear hb HT9 HB9
      go_wp2_with fail
      refine (own_any g ⟨i, m, r⟩ w10 HT10.out).mono ?_
      rintro e w' ⟨rfl, hw⟩
      subst w'
      go_wp2_with fail
      go_ret
      exact ⟨ret_bool (by simp), HB10.out⟩
    · have HH : Hid (hopV ⟨i, m, r⟩ d = _) := hh
      have HTK : Hid (takesB ⟨i, m, r⟩ d = _) := htk
      clear hh htk
      go_wp2_with fail
      refine (hop_any g ⟨i, m, r⟩ d w3 HQ.out HD.out HT3.out).mono ?_
      rw [HH.out]
      rintro e w4 ⟨rfl, hb⟩
      have HB4 : Hid (Below w.heap.size w w4) := bstep HB3.out hb
      have HT4 : Hid (TabW w4 g ⟨i, m, r⟩) := HT3.out.below hb
      clear hb HT3 HB3
      go_wp2_with fail
      refine (takes_any g ⟨i, m, r⟩ d w4 HQ.out HT4.out).mono ?_
      rw [HTK.out]
      rintro e w5 ⟨rfl, hb⟩
      have HB5 : Hid (Below w.heap.size w w5) := bstep HB4.out hb
      have HT5 : Hid (TabW w5 g ⟨i, m, r⟩) := HT4.out.below hb
      clear hb HT4 HB4
      go_wp2_with fail
      refine (takes_any g ⟨i, m, r⟩ i w5 HQ.out HT5.out).mono ?_
      rw [HOWN.out]
      rintro e w6 ⟨rfl, hb⟩
      have HB6 : Hid (Below w.heap.size w w6) := bstep HB5.out hb
      have HT6 : Hid (TabW w6 g ⟨i, m, r⟩) := HT5.out.below hb
      clear hb HT5 HB5
      go_wp2_with fail
      refine (clear_any g ⟨i, m, r⟩ w6 HT6.out).mono ?_
      rintro e w7 ⟨rfl, ht, hb⟩
      have HB7 : Hid (Below w.heap.size w w7) := bbut HB6.out hb HG.out
      have HT7 : Hid (TabW w7 g Pl.zero) := ht
      clear hb HT6 HB6 ht
      go_wp2_with fail
      refine (own_any g Pl.zero w7 HT7.out).mono ?_
      rw [show Pl.zero.ip = 0 from rfl]
      rintro e w' ⟨rfl, hw⟩
      subst w'
      go_wp2_with fail
      refine (set_any g Pl.zero i m r w7 HT7.out HQ.out).mono ?_
      rw [HF.out, if_pos rfl]
      rintro e w8 ⟨rfl, ht, hb⟩
      have HB8 : Hid (Below w.heap.size w w8) := bbut HB7.out hb HG.out
      have HT8 : Hid (TabW w8 g ⟨i, m, r⟩) := ht
      clear hb HT7 HB7 ht
      go_wp2_with fail
      refine (hop_any g ⟨i, m, r⟩ d w8 HQ.out HD.out HT8.out).mono ?_
      rw [HH.out]
      rintro e w9 ⟨rfl, hb⟩
      have HB9 : Hid (Below w.heap.size w w9) := bstep HB8.out hb
      have HT9 : Hid (TabW w9 g ⟨i, m, r⟩) := HT8.out.below hb
      clear hb HT8 HB8
      go_wp2_with fail
      refine (takes_any g ⟨i, m, r⟩ d w9 HQ.out HT9.out).mono ?_
      rw [HTK.out]
      rintro e w10 ⟨rfl, hb⟩
      have HB10 : Hid (Below w.heap.size w w10) := bstep HB9.out hb
      have HT10 : Hid (TabW w10 g ⟨i, m, r⟩) := HT9.out.below hb
      clear hb HT9 HB9
      go_wp2_with fail
      refine (own_any g ⟨i, m, r⟩ w10 HT10.out).mono ?_
      rintro e w' ⟨rfl, hw⟩
      subst w'
      go_wp2_with fail
      go_ret
      exact ⟨ret_bool (by simp), HB10.out⟩
  · have HN : Hid (¬ faultV ⟨i, m, r⟩ = 0) := hF
    have hFb : (faultV ⟨i, m, r⟩ != 0) = true := by simpa using hF
    clear hF
    rw [if_neg HN.out]
    have HZ := hop_zero d
    have HZ2 := takes_zero d
    generalize faultV ⟨i, m, r⟩ = F at *
    rintro e w3 ⟨rfl, ht, hb⟩
    have HB3 : Hid (Below w.heap.size w w3) := bbut HB2.out hb HG.out
    have HT3 : Hid (TabW w3 g Pl.zero) := ht
    clear hb HT2 HB2 ht HN
    generalize hz : (d == 4294967295) = z at *
    have hz2 : (d != 4294967295) = !z := by rw [← hz]; rfl
    have HH : Hid (hopV Pl.zero d = _) := HZ
    have HTK : Hid (takesB Pl.zero d = _) := HZ2
    clear HZ HZ2
    cases z
    all_goals
      go_wp2_with fail
      refine (hop_any g Pl.zero d w3 Pl.zero_ok HD.out HT3.out).mono ?_
      rw [HH.out]
      simp only [if_true, if_false, Bool.false_eq_true]
      rintro e w4 ⟨rfl, hb⟩
      have HB4 : Hid (Below w.heap.size w w4) := bstep HB3.out hb
      have HT4 : Hid (TabW w4 g Pl.zero) := HT3.out.below hb
      clear hb HT3 HB3
      go_wp2_with fail
      refine (takes_any g Pl.zero d w4 Pl.zero_ok HT4.out).mono ?_
      rw [HTK.out]
      rintro e w5 ⟨rfl, hb⟩
      have HB5 : Hid (Below w.heap.size w w5) := bstep HB4.out hb
      have HT5 : Hid (TabW w5 g Pl.zero) := HT4.out.below hb
      clear hb HT4 HB4
      go_wp2_with fail
      refine (own_any g Pl.zero w5 HT5.out).mono ?_
      rw [show Pl.zero.ip = 0 from rfl]
      rintro e w' ⟨rfl, hw⟩
      subst w'
      go_wp2_with fail
      go_ret
      exact ⟨ret_bool (by simp), HB5.out⟩
end Go.Proofs.Ytndebeoiibadoaa
