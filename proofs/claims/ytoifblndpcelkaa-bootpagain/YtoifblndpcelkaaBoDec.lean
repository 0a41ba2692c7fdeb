/-
  bootp.Decode.
-/
import Derived.Test.YtoifblndpcelkaaBoRmJ
namespace Go.Proofs.Ytoifblndpcelkaa
open Go.RowKit
set_option linter.all false

set_option maxRecDepth 20000 in
set_option maxHeartbeats 4000000 in
theorem decode_e1 (a : Option Addr) (n c : Nat) (E : Int) (w : World) (R : Except Int (Bp × List Opt)) (HU : Hid (∀ W, Below w.heap.size w W → Calls Try.prog 30 #[.slice a n c] W fun e w' => e = .returned (.int .i64 E) ∧ w' = W)) (hE : (E != 0) = true)
    (HP : Hid (∀ w', Below w.heap.size w w' → DecP w R (.returned (.tuple #[.agg zeroC, .int .i64 E])) w')) :
    Calls Try.prog 10 #[.slice a n c] w fun e w' => DecP w R e w' := by
  obtain ⟨w1, hw1⟩ : ∃ w1, w1 = w.alloc (.cells zeroC 28) := ⟨_, rfl⟩
  have HR1 : Hid (w1.heap[w.heap.size]? = some (.cells zeroC 28 (0, 0))) := by rw [hw1]; exact heap_new _ _
  have HB1 : Hid (Below w.heap.size w w1) := by unfold Hid; rw [hw1]; exact bpush (Below.refl _ _) _
  go_enter Try.func10, Try.ntmps10
  go_wp2_with (first
    | (refine wpList_build_to rfl 28 _ rfl zeroC (by kernel_rfl) ?_)
    | (refine wpList_alloc_to rfl 28 rfl zeroC (by kernel_rfl) ?_; rw [← hw1]; clear hw1)
    | (go_at_call 30; refine (HU.out _ HB1.out).mono ?_; rintro e wx ⟨rfl, hw⟩; subst wx)
    | (refine wpList_store_row rfl 28 _ _ rfl w.heap.size zeroC rfl rfl 28 _ HR1.out (by kernel_rfl) rfl (by kernel_rfl) ?_)
    | fail)
  all_goals
    refine bodyPost_ret (v := .tuple #[.agg zeroC, .int .i64 E]) ?_ (by rfl) (HP.out _ (bbut HB1.out (But.setRow _ _ _) (Nat.le_refl _)))
    exact results_row2 Try.results10 _ _ w.heap.size 28 _ (0, 0) _ _ rfl rfl (setRow_heap _ _ _ _ _ _ HR1.out) Try.underlying28 rfl (by kernel_rfl)

/-- what a Decode calls, once there are bytes enough. -/
structure DcK (w : World) (b o n c : Nat) (v0 : Value) (R1 : Except Int (List Opt)) (h e2 : Int) (ps : List Part) (R2 : Except Int (List Opt)) (X0 : Array Value) (S F : ByteArray) : Prop where
  ku : ∀ W, Below w.heap.size w W → Calls Try.prog 30 #[.slice (some ⟨b, o, none⟩) n c] W fun e w' => e = .returned (.int .i64 0) ∧ w' = W
  kv : ∀ A m, (c = 240 ∧ A = some ⟨b, o, none⟩ ∧ m = 0) ∨ (¬ c = 240 ∧ A = some ⟨b, o + 240, none⟩ ∧ m = c - 240) → Value.slice A (n - 240) m = v0
  kp : ∀ W v, v = v0 → Below w.heap.size w W → Calls Try.prog 31 #[.slice (some ⟨W.heap.size, 0, none⟩) 1 1] (W.alloc (.cells #[v] 33)) fun e w' => ∃ ax nx cx, e = .returned (.tuple #[.slice ax nx cx, .int .i64 (exR R1)]) ∧ Hid (OptI w w' (.slice ax nx cx) (okL R1)) ∧ Hid (Below W.heap.size W w')
  ko : ∀ W ax nx cx, OptI w W (.slice ax nx cx) (okL R1) → Calls Try.prog 32 #[.slice ax nx cx] W fun e w' => e = .returned (.tuple #[.int .i64 h, .int .i64 e2]) ∧ Hid (Below W.heap.size W w')
  kr : h ≠ 0 → e2 = 0 → ∀ W, Below w.heap.size w W → Calls Try.prog 33 #[.slice (some ⟨b, o, none⟩) n c, .int .i64 h] W fun e w' => RmP W ps e w'
  kq : ∀ W W0 ar nr cr, RmI W0 W ar nr ps → Below w.heap.size w W → Calls Try.prog 31 #[.slice ar nr cr] W fun e w' => ∃ ax nx cx, e = .returned (.tuple #[.slice ax nx cx, .int .i64 (exR R2)]) ∧ Hid (OptI w w' (.slice ax nx cx) (okL R2)) ∧ Hid (Below W.heap.size W w')
  kf : ∀ W, Below w.heap.size w W → Calls Try.prog 34 #[.slice (some ⟨b, o, none⟩) n c] W fun e w' => e = .returned (.agg X0) ∧ Hid (Below W.heap.size W w')
  ks : ∀ W, Below w.heap.size w W → Calls Try.prog 35 #[.slice (some ⟨b, o + 44, none⟩) 64 (c - 44)] W fun e w' => e = .returned (.string S) ∧ Hid (Below W.heap.size W w')
  kt : ∀ W, Below w.heap.size w W → Calls Try.prog 35 #[.slice (some ⟨b, o + 108, none⟩) 128 (c - 108)] W fun e w' => e = .returned (.string F) ∧ Hid (Below W.heap.size W w')
  kd : ∀ W ax nx cx g, g = okL R1 ∨ g = okL R2 → OptI w W (.slice ax nx cx) g → Below w.heap.size w W → Calls Try.prog 36 #[.slice ax nx cx, .func (.func 37) #[] #[]] W fun e w' => ∃ ay ny cy, e = .returned (.slice ay ny cy) ∧ Hid (OptI w w' (.slice ay ny cy) (g.filter fun o => o.1 != 52)) ∧ Hid (Stays W w' (.slice ax nx cx)) ∧ Hid (Below w.heap.size W w')
  len : 240 ≤ n
  cap : n ≤ c
  size : X0.size = 18
  one : X0.all (·.oneCell') = true
set_option maxRecDepth 20000 in
set_option maxHeartbeats 4000000 in
theorem decode_e2 (w : World) (b o n c : Nat) (v0 : Value) (R1 : Except Int (List Opt)) (h e2 : Int) (ps : List Part) (R2 : Except Int (List Opt)) (X0 : Array Value) (S F : ByteArray) (K : DcK w b o n c v0 R1 h e2 ps R2 X0 S F) (R : Except Int (Bp × List Opt)) (hE : (exR R1 != 0) = true)
    (HP : Hid (∀ w', Below w.heap.size w w' → DecP w R (.returned (.tuple #[.agg zeroC, .int .i64 (exR R1)])) w')) :
    Calls Try.prog 10 #[.slice (some ⟨b, o, none⟩) n c] w fun e w' => DecP w R e w' := by
  have q1 : (240 : Int) ≤ (n : Int) := by have := K.len; omega
  have q2 : (236 : Int) ≤ (c : Int) := by have := K.len; have := K.cap; omega
  have q3 : (108 : Int) ≤ (c : Int) := by omega
  have q4 : ¬ c = 108 := by omega
  have q5 : ¬ c = 44 := by omega
  have HU := hid K.ku
  have HV0 := hid K.kv
  have HPA := hid K.kp
  clear K
  generalize exR R1 = E1 at *
  obtain ⟨w1, hw1⟩ : ∃ w1, w1 = w.alloc (.cells zeroC 28) := ⟨_, rfl⟩
  have HR1 : Hid (w1.heap[w.heap.size]? = some (.cells zeroC 28 (0, 0))) := by rw [hw1]; exact heap_new _ _
  have HB1 : Hid (Below w.heap.size w w1) := by unfold Hid; rw [hw1]; exact bpush (Below.refl _ _) _
  go_enter Try.func10, Try.ntmps10
  go_wp2_with (first
    | (refine wpList_build_to rfl 28 _ rfl zeroC (by kernel_rfl) ?_)
    | (refine wpList_alloc_to rfl 28 rfl zeroC (by kernel_rfl) ?_; rw [← hw1]; clear hw1)
    | (go_at_call 30; refine (HU.out _ HB1.out).mono ?_; rintro e wx ⟨rfl, hw⟩; subst wx)
    | (go_at_call 31; with_reducible refine (HPA.out _ _ (HV0.out _ _ (by first | exact Or.inl ⟨rfl, rfl, rfl⟩ | exact Or.inl ⟨trivial, rfl, rfl⟩ | exact Or.inl ⟨by assumption, rfl, rfl⟩ | exact Or.inr ⟨by assumption, rfl, rfl⟩)) HB1.out).mono ?_; rintro e w2 ⟨ax, nx, cx, rfl, HO2, HB2⟩
       have HR2 := hid (kept HR1.out HB2.out)
       have HL2 := hid (bstep HB1.out HB2.out))
    | (refine wpList_store_row rfl 28 _ _ rfl w.heap.size zeroC rfl rfl 28 _ HR2.out (by kernel_rfl) rfl (by kernel_rfl) ?_)
    | fail)
  all_goals
    refine bodyPost_ret (v := .tuple #[.agg zeroC, .int .i64 E1]) ?_ (by rfl) (HP.out _ (bbut HL2.out (But.setRow _ _ _) (Nat.le_refl _)))
    exact results_row2 Try.results10 _ _ w.heap.size 28 _ (0, 0) _ _ rfl rfl (setRow_heap _ _ _ _ _ _ HR2.out) Try.underlying28 rfl (by kernel_rfl)
set_option maxRecDepth 20000 in
set_option maxHeartbeats 4000000 in
theorem decode_e3 (w : World) (b o n c : Nat) (v0 : Value) (R1 : Except Int (List Opt)) (h e2 : Int) (ps : List Part) (R2 : Except Int (List Opt)) (X0 : Array Value) (S F : ByteArray) (K : DcK w b o n c v0 R1 h e2 ps R2 X0 S F) (R : Except Int (Bp × List Opt)) (h1 : exR R1 = 0) (hE : (e2 != 0) = true)
    (HP : Hid (∀ w', Below w.heap.size w w' → DecP w R (.returned (.tuple #[.agg zeroC, .int .i64 e2])) w')) :
    Calls Try.prog 10 #[.slice (some ⟨b, o, none⟩) n c] w fun e w' => DecP w R e w' := by
  have q1 : (240 : Int) ≤ (n : Int) := by have := K.len; omega
  have q2 : (236 : Int) ≤ (c : Int) := by have := K.len; have := K.cap; omega
  have q3 : (108 : Int) ≤ (c : Int) := by omega
  have q4 : ¬ c = 108 := by omega
  have q5 : ¬ c = 44 := by omega
  have HU := hid K.ku
  have HV0 := hid K.kv
  have HPA := hid K.kp
  have HOV := hid K.ko
  clear K
  rw [h1] at HPA
  clear h1
  obtain ⟨w1, hw1⟩ : ∃ w1, w1 = w.alloc (.cells zeroC 28) := ⟨_, rfl⟩
  have HR1 : Hid (w1.heap[w.heap.size]? = some (.cells zeroC 28 (0, 0))) := by rw [hw1]; exact heap_new _ _
  have HB1 : Hid (Below w.heap.size w w1) := by unfold Hid; rw [hw1]; exact bpush (Below.refl _ _) _
  go_enter Try.func10, Try.ntmps10
  go_wp2_with (first
    | (refine wpList_build_to rfl 28 _ rfl zeroC (by kernel_rfl) ?_)
    | (refine wpList_alloc_to rfl 28 rfl zeroC (by kernel_rfl) ?_; rw [← hw1]; clear hw1)
    | (go_at_call 30; refine (HU.out _ HB1.out).mono ?_; rintro e wx ⟨rfl, hw⟩; subst wx)
    | (go_at_call 31; with_reducible refine (HPA.out _ _ (HV0.out _ _ (by first | exact Or.inl ⟨rfl, rfl, rfl⟩ | exact Or.inl ⟨trivial, rfl, rfl⟩ | exact Or.inl ⟨by assumption, rfl, rfl⟩ | exact Or.inr ⟨by assumption, rfl, rfl⟩)) HB1.out).mono ?_; rintro e w2 ⟨ax, nx, cx, rfl, HO2, HB2⟩
       have HR2 := hid (kept HR1.out HB2.out)
       have HL2 := hid (bstep HB1.out HB2.out))
    | (go_at_call 32; refine (HOV.out _ _ _ _ HO2.out).mono ?_; rintro e w3 ⟨rfl, HB3⟩
       have HR3 := hid (kept HR2.out HB3.out)
       have HL3 := hid (bstep HL2.out HB3.out)
       have HO3 := hid (HO2.out.below HB3.out))
    | (refine wpList_store_row rfl 28 _ _ rfl w.heap.size zeroC rfl rfl 28 _ HR3.out (by kernel_rfl) rfl (by kernel_rfl) ?_)
    | fail)
  all_goals
    refine bodyPost_ret (v := .tuple #[.agg zeroC, .int .i64 e2]) ?_ (by rfl) (HP.out _ (bbut HL3.out (But.setRow _ _ _) (Nat.le_refl _)))
    exact results_row2 Try.results10 _ _ w.heap.size 28 _ (0, 0) _ _ rfl rfl (setRow_heap _ _ _ _ _ _ HR3.out) Try.underlying28 rfl (by kernel_rfl)
end Go.Proofs.Ytoifblndpcelkaa
