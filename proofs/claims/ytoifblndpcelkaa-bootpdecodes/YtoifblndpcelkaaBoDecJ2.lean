import Derived.Test.YtoifblndpcelkaaBoDecJ1
/-
  bootp.Decode.
-/
namespace Go.Proofs.Ytoifblndpcelkaa
open Go.RowKit
set_option linter.all false

set_option maxRecDepth 20000 in
set_option maxHeartbeats 4000000 in
theorem decode_y2 (w : World) (b o n c : Nat) (v0 : Value) (R1 : Except Int (List Opt)) (ps : List Part) (R2 : Except Int (List Opt)) (X0 : Array Value) (S F : ByteArray) (K : DcK w b o n c v0 R1 2 0 ps R2 X0 S F) (R : Except Int (Bp × List Opt)) (hc : ¬ c = 240) (h1 : exR R1 = 0) (h2 : exR R2 = 0) (D : Bp) (c15 : X0[15]? = some (.string noText)) (c16 : X0[16]? = some (.string noText)) (c17 : X0[17]? = some (.slice none 0 0))
    (HX : Hid (∀ v, (X0.setIfInBounds 16 (.string F)).setIfInBounds 17 v = D.cells v))
    (HP : Hid (∀ w' a n c, OptI w w' (.slice a n c) ((okL R2).filter fun o => o.1 != 52) → Below w.heap.size w w' → DecP w R (.returned (.tuple #[D.val (.slice a n c), .int .i64 0])) w')) :
    Calls Try.prog 10 #[.slice (some ⟨b, o, none⟩) n c] w fun e w' => DecP w R e w' := by
  have q1 : (240 : Int) ≤ (n : Int) := by have := K.len; omega
  have q2 : (236 : Int) ≤ (c : Int) := by have := K.len; have := K.cap; omega
  have q3 : (108 : Int) ≤ (c : Int) := by omega
  have q4 : ¬ c = 108 := by omega
  have q5 : ¬ c = 44 := by omega
  have HU := hid K.ku
  have HV0 := hid K.kv
  have HPA := hid K.kp
  have HOV := hid K.ko
  have HRM := hid (K.kr (by omega) rfl)
  have HPB := hid K.kq
  have HF := hid K.kf
  have HS := hid K.ks
  have HT := hid K.kt
  have HD := hid K.kd
  have HZ := hid K.size
  have HO := hid K.one
  have H15 := hid c15
  have H16 := hid c16
  have H17 := hid c17
  rw [h1] at HPA
  rw [h2] at HPB
  clear K h1 c15 c16 c17 h2
  obtain ⟨w1, hw1⟩ : ∃ w1, w1 = w.alloc (.cells zeroC 28) := ⟨_, rfl⟩
  have HR1 : Hid (w1.heap[w.heap.size]? = some (.cells zeroC 28 (0, 0))) := by rw [hw1]; exact heap_new _ _
  have HB1 : Hid (Below w.heap.size w w1) := by unfold Hid; rw [hw1]; exact bpush (Below.refl _ _) _
  go_enter Try.func10, Try.ntmps10
  go_upto_region 15 with (first
    | (refine wpList_build_to rfl 28 _ rfl zeroC (by kernel_rfl) ?_)
    | (refine wpList_alloc_to rfl 28 rfl zeroC (by kernel_rfl) ?_; rw [← hw1]; clear hw1)
    | (go_at_call 30; refine (HU.out _ HB1.out).mono ?_; rintro e wx ⟨rfl, hw⟩; subst wx)
    | (go_at_call 32; refine (HOV.out _ _ _ _ HO2.out).mono ?_; rintro e w3 ⟨rfl, HB3⟩
       have HR3 := hid (kept HR2.out HB3.out)
       have HL3 := hid (bstep HL2.out HB3.out)
       have HO3 := hid (HO2.out.below HB3.out))
    | (go_at_call 33; refine (HRM.out _ HL3.out).mono ?_; rintro e w4 ⟨ar, nr, cr, rfl, HM4⟩
       have HR4 := hid (kept HR3.out HM4.2.2)
       have HL4 := hid (bstep HL3.out HM4.2.2))
    | (go_at_call 31; with_reducible refine (HPB.out _ _ _ _ _ HM4 HL4.out).mono ?_; rintro e w5 ⟨ay, ny, cy, rfl, HO5, HB5⟩
       have HR5 := hid (kept HR4.out HB5.out)
       have HL5 := hid (bstep HL4.out HB5.out))
    | (go_at_call 31; with_reducible refine (HPA.out _ _ (HV0.out _ _ (by first | exact Or.inl ⟨rfl, rfl, rfl⟩ | exact Or.inl ⟨trivial, rfl, rfl⟩ | exact Or.inl ⟨by assumption, rfl, rfl⟩ | exact Or.inr ⟨by assumption, rfl, rfl⟩)) HB1.out).mono ?_; rintro e w2 ⟨ax, nx, cx, rfl, HO2, HB2⟩
       have HR2 := hid (kept HR1.out HB2.out)
       have HL2 := hid (bstep HB1.out HB2.out))
    | (go_at_call 34; refine (HF.out _ HL5.out).mono ?_; rintro e w6 ⟨rfl, HB6⟩
       obtain ⟨w7, hw7⟩ : ∃ w7, w7 = w6.alloc (.cells zeroC 28) := ⟨_, rfl⟩
       have HS7 := hid (DcS.new (kept HR5.out HB6.out) (bstep HL5.out HB6.out) hw7)
       have HO7 := hid ((HO5.out.below HB6.out).below (show Below w6.heap.size w6 w7 by rw [hw7]; exact bpush (Below.refl _ _) _)))
    | (refine wpList_alloc_to rfl 28 rfl zeroC (by kernel_rfl) ?_; rw [← hw7]; clear hw7)
    | (refine wpList_store_row rfl 28 _ _ rfl w6.heap.size X0 rfl rfl 28 _ HS7.out.box (sizeBp.trans (by rw [HZ.out])) (by rw [HZ.out]; rfl) HO.out ?_)
    | fail)
  all_goals
    have HS8 := hid (HS7.out.next (But.setRow _ _ X0) (setRow_heap _ _ _ _ _ _ HS7.out.box))
    have HO8 := hid (HO7.out.but (But.setRow w6.heap.size w7 X0) HS7.out)
    generalize w7.setRow w6.heap.size X0 = W8 at *
    generalize w6.heap.size = gm at *
    go_upto_region 19 with (first
      | (go_at_call 35; refine (HT.out _ HS8.out.below).mono ?_; rintro e w9 ⟨rfl, HB9⟩
         have HS8k := hid (HS8.out.keep HB9.out)
         have HO8k := hid (HO8.out.below HB9.out)
         have k16 : w9.cell? ⟨gm, 16, none⟩ = some (.string noText) := (cell_of_heap HS8k.out.box 16).trans H16.out
         have f16 : w9.frozen? ⟨gm, 16, none⟩ = false := frozen_of_heap HS8k.out.box _)
      | fail)
    have HS9 := hid (HS8k.out.next (But.setCell gm w9 16 (.string F)) (heap_setCell HS8k.out.box))
    have HO9 := hid (HO8k.out.but (But.setCell gm w9 16 (.string F)) HS8k.out)
    generalize w9.setCell ⟨gm, 16, none⟩ (.string F) = W9 at *
    clear HS8 HO8 HS8k HO8k k16 f16 HB9
    go_upto_region 20 with (first
      | (go_at_call 36; refine (HD.out _ _ _ _ _ (Or.inr rfl) HO9.out HS9.out.below).mono ?_; rintro e w20 ⟨az, nz, cz, rfl, HO20, HK20, HB20⟩
         have HS20 := hid (HS9.out.del HO9.out HK20.out HB20.out)
         have k17 : w20.cell? ⟨gm, 17, none⟩ = some (.slice none 0 0) := (cell_of_heap HS20.out.box 17).trans (by rw [Array.getElem?_setIfInBounds_ne (by omega)]; exact H17.out)
         have f17 : w20.frozen? ⟨gm, 17, none⟩ = false := frozen_of_heap HS20.out.box _)
      | fail)
    have HS21 := hid (HS20.out.next (But.setCell gm w20 17 (.slice az nz cz)) (heap_setCell HS20.out.box))
    have HO21 := hid (HO20.out.but (But.setCell gm w20 17 (.slice az nz cz)) HS20.out)
    rw [HX.out] at HS21
    generalize w20.setCell ⟨gm, 17, none⟩ (.slice az nz cz) = W21 at *
    have HZ1 : Hid (some 18 = some (D.cells (.slice az nz cz)).size) := rfl
    have HZ2 : Hid (zeroC.size = (D.cells (.slice az nz cz)).size) := rfl
    have HON : Hid ((D.cells (.slice az nz cz)).all (·.oneCell') = true) := by simp [Hid, Bp.cells, Value.oneCell']
    have HPX : Hid (∀ w', OptI w w' (.slice az nz cz) ((okL R2).filter fun o => o.1 != 52) → Below w.heap.size w w' → DecP w R (.returned (.tuple #[.agg (D.cells (.slice az nz cz)), .int .i64 0])) w') := fun w' => HP.out w' az nz cz
    clear HP HX
    generalize D.cells (.slice az nz cz) = XD at *
    go_wp2_with (first
      | (refine wpList_load_row rfl 28 _ rfl gm rfl 28 XD (0, 0) _ (by exact HS21.out.box) Try.underlying28 rfl (sizeBp.trans HZ1.out) ?_)
      | (refine wpList_store_row rfl 28 _ _ rfl w.heap.size XD rfl rfl 28 _ HS21.out.res (sizeBp.trans HZ1.out) HZ2.out HON.out ?_)
      | fail)
    refine bodyPost_ret (v := .tuple #[.agg XD, .int .i64 0]) ?_ (by rfl) (HPX.out _ (HO21.out.res HS21.out (But.setRow _ _ _)) (bbut HS21.out.below (But.setRow _ _ _) (Nat.le_refl _)))
    exact results_row2 Try.results10 _ _ w.heap.size 28 _ (0, 0) _ _ rfl rfl (setRow_heap _ _ _ _ _ _ HS21.out.res) Try.underlying28 rfl (sizeBp.trans HZ1.out)
end Go.Proofs.Ytoifblndpcelkaa

/-
  bootp.Decode.
-/
namespace Go.Proofs.Ytoifblndpcelkaa
open Go.RowKit
set_option linter.all false

set_option maxRecDepth 20000 in
set_option maxHeartbeats 4000000 in
theorem decode_y3 (w : World) (b o n c : Nat) (v0 : Value) (R1 : Except Int (List Opt)) (ps : List Part) (R2 : Except Int (List Opt)) (X0 : Array Value) (S F : ByteArray) (K : DcK w b o n c v0 R1 3 0 ps R2 X0 S F) (R : Except Int (Bp × List Opt)) (hc : ¬ c = 240) (h1 : exR R1 = 0) (h2 : exR R2 = 0) (D : Bp) (c15 : X0[15]? = some (.string noText)) (c16 : X0[16]? = some (.string noText)) (c17 : X0[17]? = some (.slice none 0 0))
    (HX : Hid (∀ v, X0.setIfInBounds 17 v = D.cells v))
    (HP : Hid (∀ w' a n c, OptI w w' (.slice a n c) ((okL R2).filter fun o => o.1 != 52) → Below w.heap.size w w' → DecP w R (.returned (.tuple #[D.val (.slice a n c), .int .i64 0])) w')) :
    Calls Try.prog 10 #[.slice (some ⟨b, o, none⟩) n c] w fun e w' => DecP w R e w' := by
  have q1 : (240 : Int) ≤ (n : Int) := by have := K.len; omega
  have q2 : (236 : Int) ≤ (c : Int) := by have := K.len; have := K.cap; omega
  have q3 : (108 : Int) ≤ (c : Int) := by omega
  have q4 : ¬ c = 108 := by omega
  have q5 : ¬ c = 44 := by omega
  have HU := hid K.ku
  have HV0 := hid K.kv
  have HPA := hid K.kp
  have HOV := hid K.ko
  have HRM := hid (K.kr (by omega) rfl)
  have HPB := hid K.kq
  have HF := hid K.kf
  have HS := hid K.ks
  have HT := hid K.kt
  have HD := hid K.kd
  have HZ := hid K.size
  have HO := hid K.one
  have H15 := hid c15
  have H16 := hid c16
  have H17 := hid c17
  rw [h1] at HPA
  rw [h2] at HPB
  clear K h1 c15 c16 c17 h2
  obtain ⟨w1, hw1⟩ : ∃ w1, w1 = w.alloc (.cells zeroC 28) := ⟨_, rfl⟩
  have HR1 : Hid (w1.heap[w.heap.size]? = some (.cells zeroC 28 (0, 0))) := by rw [hw1]; exact heap_new _ _
  have HB1 : Hid (Below w.heap.size w w1) := by unfold Hid; rw [hw1]; exact bpush (Below.refl _ _) _
  go_enter Try.func10, Try.ntmps10
  go_upto_region 15 with (first
    | (refine wpList_build_to rfl 28 _ rfl zeroC (by kernel_rfl) ?_)
    | (refine wpList_alloc_to rfl 28 rfl zeroC (by kernel_rfl) ?_; rw [← hw1]; clear hw1)
    | (go_at_call 30; refine (HU.out _ HB1.out).mono ?_; rintro e wx ⟨rfl, hw⟩; subst wx)
    | (go_at_call 32; refine (HOV.out _ _ _ _ HO2.out).mono ?_; rintro e w3 ⟨rfl, HB3⟩
       have HR3 := hid (kept HR2.out HB3.out)
       have HL3 := hid (bstep HL2.out HB3.out)
       have HO3 := hid (HO2.out.below HB3.out))
    | (go_at_call 33; refine (HRM.out _ HL3.out).mono ?_; rintro e w4 ⟨ar, nr, cr, rfl, HM4⟩
       have HR4 := hid (kept HR3.out HM4.2.2)
       have HL4 := hid (bstep HL3.out HM4.2.2))
    | (go_at_call 31; with_reducible refine (HPB.out _ _ _ _ _ HM4 HL4.out).mono ?_; rintro e w5 ⟨ay, ny, cy, rfl, HO5, HB5⟩
       have HR5 := hid (kept HR4.out HB5.out)
       have HL5 := hid (bstep HL4.out HB5.out))
    | (go_at_call 31; with_reducible refine (HPA.out _ _ (HV0.out _ _ (by first | exact Or.inl ⟨rfl, rfl, rfl⟩ | exact Or.inl ⟨trivial, rfl, rfl⟩ | exact Or.inl ⟨by assumption, rfl, rfl⟩ | exact Or.inr ⟨by assumption, rfl, rfl⟩)) HB1.out).mono ?_; rintro e w2 ⟨ax, nx, cx, rfl, HO2, HB2⟩
       have HR2 := hid (kept HR1.out HB2.out)
       have HL2 := hid (bstep HB1.out HB2.out))
    | (go_at_call 34; refine (HF.out _ HL5.out).mono ?_; rintro e w6 ⟨rfl, HB6⟩
       obtain ⟨w7, hw7⟩ : ∃ w7, w7 = w6.alloc (.cells zeroC 28) := ⟨_, rfl⟩
       have HS7 := hid (DcS.new (kept HR5.out HB6.out) (bstep HL5.out HB6.out) hw7)
       have HO7 := hid ((HO5.out.below HB6.out).below (show Below w6.heap.size w6 w7 by rw [hw7]; exact bpush (Below.refl _ _) _)))
    | (refine wpList_alloc_to rfl 28 rfl zeroC (by kernel_rfl) ?_; rw [← hw7]; clear hw7)
    | (refine wpList_store_row rfl 28 _ _ rfl w6.heap.size X0 rfl rfl 28 _ HS7.out.box (sizeBp.trans (by rw [HZ.out])) (by rw [HZ.out]; rfl) HO.out ?_)
    | fail)
  all_goals
    have HS8 := hid (HS7.out.next (But.setRow _ _ X0) (setRow_heap _ _ _ _ _ _ HS7.out.box))
    have HO8 := hid (HO7.out.but (But.setRow w6.heap.size w7 X0) HS7.out)
    generalize w7.setRow w6.heap.size X0 = W8 at *
    generalize w6.heap.size = gm at *
    go_upto_region 20 with (first
      | (go_at_call 36; refine (HD.out _ _ _ _ _ (Or.inr rfl) HO8.out HS8.out.below).mono ?_; rintro e w20 ⟨az, nz, cz, rfl, HO20, HK20, HB20⟩
         have HS20 := hid (HS8.out.del HO8.out HK20.out HB20.out)
         have k17 : w20.cell? ⟨gm, 17, none⟩ = some (.slice none 0 0) := (cell_of_heap HS20.out.box 17).trans H17.out
         have f17 : w20.frozen? ⟨gm, 17, none⟩ = false := frozen_of_heap HS20.out.box _)
      | fail)
    have HS21 := hid (HS20.out.next (But.setCell gm w20 17 (.slice az nz cz)) (heap_setCell HS20.out.box))
    have HO21 := hid (HO20.out.but (But.setCell gm w20 17 (.slice az nz cz)) HS20.out)
    rw [HX.out] at HS21
    generalize w20.setCell ⟨gm, 17, none⟩ (.slice az nz cz) = W21 at *
    have HZ1 : Hid (some 18 = some (D.cells (.slice az nz cz)).size) := rfl
    have HZ2 : Hid (zeroC.size = (D.cells (.slice az nz cz)).size) := rfl
    have HON : Hid ((D.cells (.slice az nz cz)).all (·.oneCell') = true) := by simp [Hid, Bp.cells, Value.oneCell']
    have HPX : Hid (∀ w', OptI w w' (.slice az nz cz) ((okL R2).filter fun o => o.1 != 52) → Below w.heap.size w w' → DecP w R (.returned (.tuple #[.agg (D.cells (.slice az nz cz)), .int .i64 0])) w') := fun w' => HP.out w' az nz cz
    clear HP HX
    generalize D.cells (.slice az nz cz) = XD at *
    go_wp2_with (first
      | (refine wpList_load_row rfl 28 _ rfl gm rfl 28 XD (0, 0) _ (by exact HS21.out.box) Try.underlying28 rfl (sizeBp.trans HZ1.out) ?_)
      | (refine wpList_store_row rfl 28 _ _ rfl w.heap.size XD rfl rfl 28 _ HS21.out.res (sizeBp.trans HZ1.out) HZ2.out HON.out ?_)
      | fail)
    refine bodyPost_ret (v := .tuple #[.agg XD, .int .i64 0]) ?_ (by rfl) (HPX.out _ (HO21.out.res HS21.out (But.setRow _ _ _)) (bbut HS21.out.below (But.setRow _ _ _) (Nat.le_refl _)))
    exact results_row2 Try.results10 _ _ w.heap.size 28 _ (0, 0) _ _ rfl rfl (setRow_heap _ _ _ _ _ _ HS21.out.res) Try.underlying28 rfl (sizeBp.trans HZ1.out)
end Go.Proofs.Ytoifblndpcelkaa

/-
  bootp.Decode.
-/
namespace Go.Proofs.Ytoifblndpcelkaa
open Go.RowKit
set_option linter.all false

set_option maxRecDepth 20000 in
set_option maxHeartbeats 4000000 in
theorem decode_qy0 (w : World) (b o n : Nat) (v0 : Value) (R1 : Except Int (List Opt)) (ps : List Part) (R2 : Except Int (List Opt)) (X0 : Array Value) (S F : ByteArray) (K : DcK w b o n 240 v0 R1 0 0 ps R2 X0 S F) (R : Except Int (Bp × List Opt)) (h1 : exR R1 = 0) (D : Bp) (c15 : X0[15]? = some (.string noText)) (c16 : X0[16]? = some (.string noText)) (c17 : X0[17]? = some (.slice none 0 0))
    (HX : Hid (∀ v, ((X0.setIfInBounds 15 (.string S)).setIfInBounds 16 (.string F)).setIfInBounds 17 v = D.cells v))
    (HP : Hid (∀ w' a n c, OptI w w' (.slice a n c) ((okL R1).filter fun o => o.1 != 52) → Below w.heap.size w w' → DecP w R (.returned (.tuple #[D.val (.slice a n c), .int .i64 0])) w')) :
    Calls Try.prog 10 #[.slice (some ⟨b, o, none⟩) n 240] w fun e w' => DecP w R e w' := by
  have q1 : (240 : Int) ≤ (n : Int) := by have := K.len; omega
  have HU := hid K.ku
  have HV0 := hid K.kv
  have HPA := hid K.kp
  have HOV := hid K.ko
  have HF := hid K.kf
  have HS := hid K.ks
  have HT := hid K.kt
  simp only [Nat.reduceSub] at HS HT
  have HD := hid K.kd
  have HZ := hid K.size
  have HO := hid K.one
  have H15 := hid c15
  have H16 := hid c16
  have H17 := hid c17
  rw [h1] at HPA
  clear K h1 c15 c16 c17
  obtain ⟨w1, hw1⟩ : ∃ w1, w1 = w.alloc (.cells zeroC 28) := ⟨_, rfl⟩
  have HR1 : Hid (w1.heap[w.heap.size]? = some (.cells zeroC 28 (0, 0))) := by rw [hw1]; exact heap_new _ _
  have HB1 : Hid (Below w.heap.size w w1) := by unfold Hid; rw [hw1]; exact bpush (Below.refl _ _) _
  go_enter Try.func10, Try.ntmps10
  go_upto_region 15 with (first
    | (refine wpList_build_to rfl 28 _ rfl zeroC (by kernel_rfl) ?_)
    | (refine wpList_alloc_to rfl 28 rfl zeroC (by kernel_rfl) ?_; rw [← hw1]; clear hw1)
    | (go_at_call 30; refine (HU.out _ HB1.out).mono ?_; rintro e wx ⟨rfl, hw⟩; subst wx)
    | (go_at_call 32; refine (HOV.out _ _ _ _ HO2.out).mono ?_; rintro e w3 ⟨rfl, HB3⟩
       have HR3 := hid (kept HR2.out HB3.out)
       have HL3 := hid (bstep HL2.out HB3.out)
       have HO3 := hid (HO2.out.below HB3.out))
    | (go_at_call 31; with_reducible refine (HPA.out _ _ (HV0.out _ _ (by first | exact Or.inl ⟨rfl, rfl, rfl⟩ | exact Or.inl ⟨trivial, rfl, rfl⟩ | exact Or.inl ⟨by assumption, rfl, rfl⟩ | exact Or.inr ⟨by assumption, rfl, rfl⟩)) HB1.out).mono ?_; rintro e w2 ⟨ax, nx, cx, rfl, HO2, HB2⟩
       have HR2 := hid (kept HR1.out HB2.out)
       have HL2 := hid (bstep HB1.out HB2.out))
    | (go_at_call 34; refine (HF.out _ HL3.out).mono ?_; rintro e w6 ⟨rfl, HB6⟩
       obtain ⟨w7, hw7⟩ : ∃ w7, w7 = w6.alloc (.cells zeroC 28) := ⟨_, rfl⟩
       have HS7 := hid (DcS.new (kept HR3.out HB6.out) (bstep HL3.out HB6.out) hw7)
       have HO7 := hid ((HO3.out.below HB6.out).below (show Below w6.heap.size w6 w7 by rw [hw7]; exact bpush (Below.refl _ _) _)))
    | (refine wpList_alloc_to rfl 28 rfl zeroC (by kernel_rfl) ?_; rw [← hw7]; clear hw7)
    | (refine wpList_store_row rfl 28 _ _ rfl w6.heap.size X0 rfl rfl 28 _ HS7.out.box (sizeBp.trans (by rw [HZ.out])) (by rw [HZ.out]; rfl) HO.out ?_)
    | fail)
  all_goals
    have HS8 := hid (HS7.out.next (But.setRow _ _ X0) (setRow_heap _ _ _ _ _ _ HS7.out.box))
    have HO8 := hid (HO7.out.but (But.setRow w6.heap.size w7 X0) HS7.out)
    generalize w7.setRow w6.heap.size X0 = W8 at *
    generalize w6.heap.size = gm at *
    go_upto_region 17 with (first
      | (go_at_call 35; refine (HS.out _ HS8.out.below).mono ?_; rintro e w9 ⟨rfl, HB9⟩
         have HS8k := hid (HS8.out.keep HB9.out)
         have HO8k := hid (HO8.out.below HB9.out)
         have k15 : w9.cell? ⟨gm, 15, none⟩ = some (.string noText) := (cell_of_heap HS8k.out.box 15).trans H15.out
         have f15 : w9.frozen? ⟨gm, 15, none⟩ = false := frozen_of_heap HS8k.out.box _)
      | fail)
    have HS9 := hid (HS8k.out.next (But.setCell gm w9 15 (.string S)) (heap_setCell HS8k.out.box))
    have HO9 := hid (HO8k.out.but (But.setCell gm w9 15 (.string S)) HS8k.out)
    generalize w9.setCell ⟨gm, 15, none⟩ (.string S) = W9 at *
    clear HS8 HO8 HS8k HO8k k15 f15 HB9
    go_upto_region 19 with (first
      | (go_at_call 35; refine (HT.out _ HS9.out.below).mono ?_; rintro e w10 ⟨rfl, HB10⟩
         have HS9k := hid (HS9.out.keep HB10.out)
         have HO9k := hid (HO9.out.below HB10.out)
         have k16 : w10.cell? ⟨gm, 16, none⟩ = some (.string noText) := (cell_of_heap HS9k.out.box 16).trans (by rw [Array.getElem?_setIfInBounds_ne (by omega)]; exact H16.out)
         have f16 : w10.frozen? ⟨gm, 16, none⟩ = false := frozen_of_heap HS9k.out.box _)
      | fail)
    have HS10 := hid (HS9k.out.next (But.setCell gm w10 16 (.string F)) (heap_setCell HS9k.out.box))
    have HO10 := hid (HO9k.out.but (But.setCell gm w10 16 (.string F)) HS9k.out)
    generalize w10.setCell ⟨gm, 16, none⟩ (.string F) = W10 at *
    clear HS9 HO9 HS9k HO9k k16 f16 HB10
    go_upto_region 20 with (first
      | (go_at_call 36; refine (HD.out _ _ _ _ _ (Or.inl rfl) HO10.out HS10.out.below).mono ?_; rintro e w20 ⟨az, nz, cz, rfl, HO20, HK20, HB20⟩
         have HS20 := hid (HS10.out.del HO10.out HK20.out HB20.out)
         have k17 : w20.cell? ⟨gm, 17, none⟩ = some (.slice none 0 0) := (cell_of_heap HS20.out.box 17).trans (by rw [Array.getElem?_setIfInBounds_ne (by omega), Array.getElem?_setIfInBounds_ne (by omega)]; exact H17.out)
         have f17 : w20.frozen? ⟨gm, 17, none⟩ = false := frozen_of_heap HS20.out.box _)
      | fail)
    have HS21 := hid (HS20.out.next (But.setCell gm w20 17 (.slice az nz cz)) (heap_setCell HS20.out.box))
    have HO21 := hid (HO20.out.but (But.setCell gm w20 17 (.slice az nz cz)) HS20.out)
    rw [HX.out] at HS21
    generalize w20.setCell ⟨gm, 17, none⟩ (.slice az nz cz) = W21 at *
    have HZ1 : Hid (some 18 = some (D.cells (.slice az nz cz)).size) := rfl
    have HZ2 : Hid (zeroC.size = (D.cells (.slice az nz cz)).size) := rfl
    have HON : Hid ((D.cells (.slice az nz cz)).all (·.oneCell') = true) := by simp [Hid, Bp.cells, Value.oneCell']
    have HPX : Hid (∀ w', OptI w w' (.slice az nz cz) ((okL R1).filter fun o => o.1 != 52) → Below w.heap.size w w' → DecP w R (.returned (.tuple #[.agg (D.cells (.slice az nz cz)), .int .i64 0])) w') := fun w' => HP.out w' az nz cz
    clear HP HX
    generalize D.cells (.slice az nz cz) = XD at *
    go_wp2_with (first
      | (refine wpList_load_row rfl 28 _ rfl gm rfl 28 XD (0, 0) _ (by exact HS21.out.box) Try.underlying28 rfl (sizeBp.trans HZ1.out) ?_)
      | (refine wpList_store_row rfl 28 _ _ rfl w.heap.size XD rfl rfl 28 _ HS21.out.res (sizeBp.trans HZ1.out) HZ2.out HON.out ?_)
      | fail)
    refine bodyPost_ret (v := .tuple #[.agg XD, .int .i64 0]) ?_ (by rfl) (HPX.out _ (HO21.out.res HS21.out (But.setRow _ _ _)) (bbut HS21.out.below (But.setRow _ _ _) (Nat.le_refl _)))
    exact results_row2 Try.results10 _ _ w.heap.size 28 _ (0, 0) _ _ rfl rfl (setRow_heap _ _ _ _ _ _ HS21.out.res) Try.underlying28 rfl (sizeBp.trans HZ1.out)
end Go.Proofs.Ytoifblndpcelkaa
