/-
  The walk of BootpBack.
-/
import Derived.Test.YtoifblndpcelkaaBoLiv
import Derived.Test.YtoifblndpcelkaaBoBey
import Derived.Test.YtoifblndpcelkaaBConv
namespace Go.Proofs.Ytoifblndpcelkaa
open Go.RowKit
set_option linter.all false

set_option maxRecDepth 20000 in
set_option maxHeartbeats 4000000 in
theorem bootpBack_walk (m : Bp) (os : List OP) (a : Option Addr) (c : Nat) (pb : Part) (w : World) (hm : m.ok) (h : OV w a os) (hpb : pb.ok w) (hl : pb.zs.length ≤ 140737488351232) :
    Calls Try.prog 6 #[m.val (.slice a os.length c), pb.val] w fun e w' => e = .returned (.bool true) ∧ Below w.heap.size w w' := by
  have HBY := hid (fun (W : World) (hb : Below w.heap.size w W) => bobey_any a c os W (h.below hb))
  have HV0 : Hid (BpV m (absO os) (m.cells (.slice a os.length c)) w) := ⟨a, os, c, rfl, h, rfl⟩
  have H17 : Hid ((m.cells (.slice a os.length c))[17]? = some (.slice a os.length c)) := rfl
  have HLAY : Hid (¬ 2147483647 < bulkO os → (layL (absO os)).length ≤ 35184372088832) := fun hb => bulkO_lay (by omega)
  obtain ⟨g, hg⟩ : ∃ g, g = absO os := ⟨_, rfl⟩
  rw [← hg] at HV0 HLAY
  clear hg h
  unfold Bp.val
  generalize m.cells (.slice a os.length c) = X at *
  generalize os.length = n at *
  obtain ⟨pa, pc, pz⟩ := pb
  simp only [Part.val] at *
  have HPB := hid hpb
  have HM := hid hm
  have k17 : (w.alloc (.cells X 28)).cell? ⟨w.heap.size, 17, none⟩ = some (.slice a n c) := (cell_of_heap (heap_new w _) 17).trans H17.out
  have HB0 := hid (bpush (Below.refl _ w) (.cells X 28))
  have HX0 := hid (heap_new w (.cells X 28))
  have HV1 := hid (HV0.out.below HB0.out)
  clear hpb hm H17 HV0
  go_enter Try.func6, Try.ntmps6
  by_cases hby : 2147483647 < bulkO os
  · have HBY2 : Hid (∀ W, Below w.heap.size w W → Calls Try.prog 11 #[.slice a n c] W fun e w' => e = .returned (.bool true) ∧ w' = W) := fun W hb => by
      have := HBY.out W hb
      rw [decide_eq_true hby] at this
      exact this
    clear HBY hby HLAY
    go_wp2_with (first
      | (go_at_call 11; refine (HBY2.out _ HB0.out).mono ?_; rintro e w1 ⟨rfl, hw⟩; subst w1)
      | fail)
    go_ret
    exact ⟨rfl, HB0.out⟩
  · have HBY2 : Hid (∀ W, Below w.heap.size w W → Calls Try.prog 11 #[.slice a n c] W fun e w' => e = .returned (.bool false) ∧ w' = W) := fun W hb => by
      have := HBY.out W hb
      rw [decide_eq_false hby] at this
      exact this
    have HL := hid (HLAY.out hby)
    clear HBY hby HLAY
    go_upto_region 5 with (first
      | (go_at_call 11; refine (HBY2.out _ HB0.out).mono ?_; rintro e w1 ⟨rfl, hw⟩; subst w1)
      | (go_at_call 9; refine (live_any _).mono ?_; rintro e w1 ⟨rfl, HB1⟩)
      | fail)
    have HX1 := hid (kept HX0.out HB1.out)
    have HV2 := hid (HV1.out.below HB1.out)
    have HBB := hid (bstep HB0.out HB1.out)
    clear HX0 HV1 HB0 HB1 k17 HBY2
    generalize w.alloc (.cells X 28) = w0 at *
    obtain ⟨g0, hg0⟩ : ∃ g0, g0 = w.heap.size := ⟨_, rfl⟩
    rw [← hg0] at HX1 ⊢
    have HG0 := hid hg0
    clear hg0
    have HENC := hid (fun (W : World) (hX : BpV m g X W) => bp_encode HM.out hX HL.out)
    have HZB : Hid (∀ z, z ∈ encZ m g → 0 ≤ z ∧ z ≤ 255) := encZ_bd HM.out.mac HV2.out.bd
    by_cases hx : encX m g = 0
    · have HZL := hid (encZ_len hx)
      have HDB := hid (fun rest => decZ_back HM.out hx rest)
      rw [hx] at HENC
      clear hx
      generalize encZ m g = Z at *
      obtain ⟨N, hN⟩ : ∃ N, N = Z.length := ⟨_, rfl⟩
      rw [← hN] at HENC HZL
      have HN := hid hN
      have hn1 : (300 : Int) ≤ (N : Int) := by have := HZL.out; omega
      have hn2 : (N : Int) ≤ 1472 := by have := HZL.out; omega
      clear hN
      go_upto_region 8 with (first
        | (refine wpList_load_row rfl 28 _ rfl g0 rfl 28 X (0, 0) _ HX1.out Try.underlying28 rfl HV2.out.info ?_)
        | (go_at_call 14; refine (HENC.out _ HV2.out).mono ?_; rintro e w2 ⟨ax, cx, rfl, HA⟩)
        | fail)
      have hA := HA.out
      rw [HN.out] at hA
      obtain ⟨b, o, hax, hok⟩ := ans_part hA HZB.out (by have := HZL.out; have := HN.out; omega)
      subst hax
      have HOK := hid hok
      have HX2 := hid (kept HX1.out hA.2.2)
      have HV3 := hid (HV2.out.below hA.2.2)
      have HB2 := hid (bstep HBB.out hA.2.2)
      clear HA hA hok HX1 HV2 HBB HENC
      have HDC : Hid (∀ W, Part.ok W ⟨some ⟨b, o, none⟩, cx, Z⟩ → Calls Try.prog 10 #[.slice (some ⟨b, o, none⟩) N cx] W fun e w' => ∃ Y, e = .returned (.tuple #[.agg Y, .int .i64 0]) ∧ Hid (BpV m g Y w' ∧ Below W.heap.size W w')) := fun W hk => by
        have h := bp_decode _ W hk (by have := HZL.out; have := HN.out; simp only; omega)
        have e := HDB.out []
        rw [List.append_nil] at e
        simp only [Part.val, e, ← HN.out] at h
        refine h.mono ?_
        rintro e w' ⟨Y, rfl, HI⟩
        exact ⟨Y, rfl, HI.out.1, HI.out.2.1⟩
      go_upto_region 9 with (first
        | (go_at_call 10; refine (HDC.out _ HOK.out).mono ?_; rintro e w3 ⟨Y, rfl, HY⟩)
        | (refine wpList_alloc_to rfl 28 rfl zeroC (by kernel_rfl) ?_)
        | (refine wpList_store_row rfl 28 _ _ rfl w3.heap.size Y rfl rfl 28 _ (heap_new w3 _) HY.out.1.info (by rw [HY.out.1.size]; rfl) HY.out.1.one ?_)
        | fail)
      have hl3 := box_laid w3 Y
      have hb3 := bstep HY.out.2 hl3.2
      have HX3 := hid (kept HX2.out hb3)
      have HV4 := hid (HV3.out.below hb3)
      have HK3 := hid (Part.ok_below HOK.out hb3)
      have HB3 := hid (bstep HB2.out hb3)
      have HY3 := hid (HY.out.1.below hl3.2)
      have HQ3 := hid hl3.1
      clear hl3 hb3 HY HX2 HV3 HOK HB2 HDC
      generalize (w3.alloc (.cells zeroC 28)).setRow w3.heap.size Y = W3 at *
      generalize w3.heap.size = g3 at *
      have cv := conv_part ⟨some ⟨b, o, none⟩, cx, Z⟩ W3 HK3.out
      obtain ⟨cap, w4, cw, rw4, bw4, _⟩ := conv_row W3 Z HZB.out (by have := HZL.out; have := HN.out; unfold maxLen; omega)
      simp only [Part.val, ← HN.out] at cv cw rw4
      have hb4 := HPB.out
      obtain ⟨a5, c5, w5, r5, R5, B5, F5⟩ := append_row_part rw4 W3.heap.size bw4.size (fun b hb => by simp [Value.ownBlock] at hb; omega) ⟨pa, pc, pz⟩ (Part.ok_below HPB.out (bstep HB3.out bw4)) (by have := HZL.out; have := HN.out; simp only; omega) 33
      simp only [Part.val] at r5
      have HR5 := hid r5
      have hb5 : Below W3.heap.size W3 w5 := bw4.trans B5
      have HX5 := hid (kept HX3.out hb5)
      have HV5 := hid (HV4.out.below hb5)
      have HB5 := hid (bstep HB3.out hb5)
      have HY5 := hid (HY3.out.below hb5)
      have HQ5 := hid (kept HQ3.out hb5)
      have HAL : Hid (∀ z, z ∈ Z ++ pz → 0 ≤ z ∧ z ≤ 255) := fun z hz => by
        rcases List.mem_append.1 hz with h | h
        · exact HZB.out z h
        · exact HPB.out.1 z h
      obtain ⟨pt5, e51, e52, ok5⟩ := R5.part HAL.out
      obtain ⟨qa, qc, qz⟩ := pt5
      simp only [Part.val, Value.slice.injEq] at e51 e52
      obtain ⟨rfl, hq1, rfl⟩ := e51
      subst e52
      have HDC : Hid (∀ W, Part.ok W ⟨a5, c5, Z ++ pz⟩ → Calls Try.prog 10 #[.slice a5 (Z.length + pz.length) c5] W fun e w' => ∃ Y, e = .returned (.tuple #[.agg Y, .int .i64 0]) ∧ Hid (BpV m g Y w' ∧ Below W.heap.size W w')) := fun W hk => by
        have h := bp_decode _ W hk (by have := HZL.out; have := HN.out; simp only [List.length_append]; omega)
        simp only [Part.val, HDB.out pz, List.length_append] at h
        refine h.mono ?_
        rintro e w' ⟨Y, rfl, HI⟩
        exact ⟨Y, rfl, HI.out.1, HI.out.2.1⟩
      have HOK5 := hid ok5
      clear r5 R5 B5 F5 rw4 bw4 hb5 HX3 HV4 HB3 HY3 HQ3 HK3 hb4 ok5 hq1
      generalize strOfNums Z = SZ at *
      generalize Z.length + pz.length = N5 at *
      go_upto_region 10 with (first
        | (at_builtin; refine wpList_append_run _ rfl _ _ 33 33 rfl _ _ rfl rfl HR5.out ?_)
        | fail)
      clear cv cw HR5
      go_upto_region 11 with (first
        | (go_at_call 10; refine (HDC.out _ HOK5.out).mono ?_; rintro e w6 ⟨Y6, rfl, HY6⟩)
        | (refine wpList_alloc_to rfl 28 rfl zeroC (by kernel_rfl) ?_)
        | (refine wpList_store_row rfl 28 _ _ rfl w6.heap.size Y6 rfl rfl 28 _ (heap_new w6 _) HY6.out.1.info (by rw [HY6.out.1.size]; rfl) HY6.out.1.one ?_)
        | fail)
      have hl6 := box_laid w6 Y6
      have hb6 := bstep HY6.out.2 hl6.2
      have HX6 := hid (kept HX5.out hb6)
      have HV6 := hid (HV5.out.below hb6)
      have HB6 := hid (bstep HB5.out hb6)
      have HY7 := hid (HY5.out.below hb6)
      have HQ6 := hid (kept HQ5.out hb6)
      have HZ6 := hid (HY6.out.1.below hl6.2)
      have HP6 := hid hl6.1
      clear hl6 hb6 HY6 HX5 HV5 HB5 HY5 HQ5 HOK5 HDC
      generalize (w6.alloc (.cells zeroC 28)).setRow w6.heap.size Y6 = W6 at *
      generalize w6.heap.size = g6 at *
      go_upto_region 12 with (first
        | (refine wpList_load_row rfl 28 _ rfl g3 rfl 28 Y (0, 0) _ HQ6.out Try.underlying28 rfl HY7.out.info ?_)
        | (refine wpList_load_row rfl 28 _ rfl g0 rfl 28 X (0, 0) _ HX6.out Try.underlying28 rfl HV6.out.info ?_)
        | (go_at_call 21; refine (bp_same HM.out HY7.out HV6.out).mono ?_; rintro e w7 ⟨rfl, HB7⟩)
        | fail)
      have HX7 := hid (kept HX6.out HB7.out)
      have HV7 := hid (HV6.out.below HB7.out)
      have HZ7 := hid (HZ6.out.below HB7.out)
      have HP7 := hid (kept HP6.out HB7.out)
      have HB8 := hid (bstep HB6.out HB7.out)
      clear HX6 HV6 HZ6 HP6 HB6 HB7 HQ6 HY7
      go_wp2_with (first
        | (refine wpList_load_row rfl 28 _ rfl g6 rfl 28 Y6 (0, 0) _ HP7.out Try.underlying28 rfl HZ7.out.info ?_)
        | (refine wpList_load_row rfl 28 _ rfl g0 rfl 28 X (0, 0) _ HX7.out Try.underlying28 rfl HV7.out.info ?_)
        | (go_at_call 21; refine (bp_same HM.out HZ7.out HV7.out).mono ?_; rintro e w8 ⟨rfl, HB9⟩)
        | fail)
      go_ret
      exact ⟨rfl, bstep HB8.out HB9.out⟩
    · have hz : encZ m g = [] := by unfold encZ; rw [if_neg hx]
      rw [hz] at HENC
      have hx' : (encX m g != 0) = true := by simpa using hx
      generalize encX m g = E at *
      clear hx hz HZB
      go_wp2_with (first
        | (refine wpList_load_row rfl 28 _ rfl g0 rfl 28 X (0, 0) _ HX1.out Try.underlying28 rfl HV2.out.info ?_)
        | (go_at_call 14; refine (HENC.out _ HV2.out).mono ?_; rintro e w2 ⟨ax, cx, rfl, HA⟩)
        | fail)
      go_ret
      exact ⟨rfl, bstep HBB.out HA.out.2.2⟩
end Go.Proofs.Ytoifblndpcelkaa
