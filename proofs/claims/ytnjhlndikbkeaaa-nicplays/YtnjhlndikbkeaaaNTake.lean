/-
  The driver's take.
-/
import Derived.Test.YtnjhlndikbkeaaaNBase
namespace Go.Proofs.Ytnjhlndikbkeaaa
open Go.RowKit
set_option linter.all false

/-- what take leaves. -/
def TakeE (q : Nat) (own : Mac) (c n m : Nat) (N : NS) (zs : List Int) (w : World) (e : Ending) (w' : World) : Prop :=
  (goodB own zs = true ∧ ∃ a l cc, e = .returned (.tuple #[frameV (openR zs).d (openR zs).s (openR zs).k (.slice a l cc), .bool true]) ∧ w'.heap[q]? = some (.cells (N.took.box own c n m) 88 (0, 0)) ∧ But q w w' ∧ Row w' 5 (.slice a l cc) (u8s (openR zs).ys) ∧ ∀ b, (Value.slice a l cc).ownBlock = some b → w.heap.size ≤ b) ∨
  (goodB own zs = false ∧ e = .returned (.tuple #[frameV zeroMac zeroMac 0 (.slice none 0 0), .bool false]) ∧ w'.heap[q]? = some (.cells (N.threw.box own c n m) 88 (0, 0)) ∧ But q w w')
set_option maxRecDepth 20000 in
set_option maxHeartbeats 4000000 in
theorem ntake_any (q : Nat) (own : Mac) (c n m : Nat) (N : NS) (pt : Part) (w : World) (hq : w.heap[q]? = some (.cells (N.box own c n m) 88 (0, 0))) (ho : own.ok) (hok : pt.ok w) (hl : pt.zs.length ≤ 1514) (h1 : N.tk < 4611686018427387904) (h2 : N.th < 4611686018427387904) :
    Calls Try.prog 48 #[.pointer (some ⟨q, 0, none⟩), pt.val] w (TakeE q own c n m N pt.zs w) := by
  have HB := hid hq
  have her : (openR pt.zs).er = 0 ∨ (openR pt.zs).er = 5 ∨ (openR pt.zs).er = 2 ∨ (openR pt.zs).er = 30 := by
    unfold openR
    split
    · simp
    · split
      · simp
      · split <;> simp
  have hzo := openR_ok pt.zs hok.1
  have HO : Hid (∀ w', Below w.heap.size w w' → Calls Try.prog 59 #[pt.val] w' fun e w'' => ∃ a n c, e = .returned (.tuple #[frameV (openR pt.zs).d (openR pt.zs).s (openR pt.zs).k (.slice a n c), .int .i64 (openR pt.zs).er]) ∧ Ans w' w'' (openR pt.zs).ys a n c) := fun w' hb => open_u pt w' (Part.ok_below hok hb) (by omega)
  have HM : Hid (∀ a l c' w', Calls Try.prog 60 #[own.val, frameV (openR pt.zs).d (openR pt.zs).s (openR pt.zs).k (.slice a l c')] w' fun e w'' => e = .returned (.bool (mineB own (openR pt.zs).d (openR pt.zs).s)) ∧ Below w'.heap.size w' w'') := fun a l c' w' => mine_any own _ _ _ a l c' w' ho hzo.1 hzo.2.1
  have HG : Hid (goodB own pt.zs = (decide ((openR pt.zs).er = 0) && mineB own (openR pt.zs).d (openR pt.zs).s)) := rfl
  have HC : Hid (∀ w', Below w.heap.size w w' → NicC w' q own c n m N) := fun w' hb => nicC ((hb.block q (heap_lt hq)).trans hq)
  unfold TakeE
  generalize goodB own pt.zs = G at *
  generalize mineB own (openR pt.zs).d (openR pt.zs).s = M at *
  generalize openR pt.zs = R at *
  obtain ⟨⟨d0, d1, d2, d3, d4, d5⟩, ⟨s0, s1, s2, s3, s4, s5⟩, k, ys, er⟩ := R
  simp only at *
  clear hzo hok hq ho
  have hv : pt.val = .slice pt.a pt.zs.length pt.c := rfl
  rw [hv] at HO ⊢
  generalize pt.zs.length = l at *
  clear hv
  simp only [frameV, Mac.val] at *
  rcases her with rfl | rfl | rfl | rfl
  · cases M with
    | true =>
      go_enter Try.func48, Try.ntmps48
      go_wp2_with fail
      refine (HO.out _ (balloc w _)).mono ?_
      rintro e w1 ⟨a1, l1, c1, rfl, hr1, ho1, hb1⟩
      have HB1 := hid (bstep (balloc w _) hb1)
      have HRW := hid hr1
      have HOW := hid ho1
      have hw1 : w.heap.size < w1.heap.size := by have := hb1.size; simp at this; omega
      have HR1 : Hid (∀ ob, (w1.alloc ob).heap[w.heap.size]? = some (.cells #[.int .u8 0, .int .u8 0, .int .u8 0, .int .u8 0, .int .u8 0, .int .u8 0, .int .u8 0, .int .u8 0, .int .u8 0, .int .u8 0, .int .u8 0, .int .u8 0, .int .i64 0, .slice none 0 0] 51 (0, 0))) := fun ob => (heap_old _ _ (by have := hb1.size; simp at this; omega)).trans ((hb1.block _ (by simp)).trans (heap_new w _))
      obtain ⟨k0, k1, k2, k3, k4, k5, k6, k7, k8, k9, k10, k11, k12, k13, k14, kf, klt⟩ := HC.out w1 HB1.out
      clear hb1 hr1 ho1 k2 k3 k4 k11 k12 k13 k14
      go_wp2_with fail
      go_region_with (first | (go_at_call 60; refine (HM.out _ _ _ _).mono ?_; rintro e w2 ⟨rfl, hb2⟩; have HB2 := hid (bstep (bpush HB1.out _).drew hb2); have HF2 : Hid (w2.heap[w1.heap.size]? = some (.cells #[.int .u8 d0, .int .u8 d1, .int .u8 d2, .int .u8 d3, .int .u8 d4, .int .u8 d5, .int .u8 s0, .int .u8 s1, .int .u8 s2, .int .u8 s3, .int .u8 s4, .int .u8 s5, .int .i64 k, .slice a1 l1 c1] 51 (0, 0))) := (hb2.block _ (by simp)).trans (heap_new w1 _); have HR2 : Hid (w2.heap[w.heap.size]? = some (.cells #[.int .u8 0, .int .u8 0, .int .u8 0, .int .u8 0, .int .u8 0, .int .u8 0, .int .u8 0, .int .u8 0, .int .u8 0, .int .u8 0, .int .u8 0, .int .u8 0, .int .i64 0, .slice none 0 0] 51 (0, 0))) := (hb2.block _ (by simp; omega)).trans (HR1.out _); have HW2 : Hid (Row w2 5 (.slice a1 l1 c1) (u8s ys)) := (HRW.out.below (bstep (balloc w1 _).drew hb2)); have hw2 : w1.heap.size < w2.heap.size := (by have := hb2.size; simp at this; omega); obtain ⟨k0, k1, k2, k3, k4, k5, k6, k7, k8, k9, k10, k11, k12, k13, k14, kf, klt⟩ := HC.out w2 HB2.out; clear hb2 k2 k3 k4 k5 k6 k7 k8 k9 k10 k11 k12 k13 k14))
      all_goals
        have HQ : Hid ((w2.setCell ⟨q, 0, none⟩ (.int .i64 ((N.tk : Int) + 1))).heap[q]? = some (.cells (N.took.box own c n m) 88 (0, 0))) := by
          unfold Hid; rw [← box_took]; exact heap_setCell ((HB2.out.block q (heap_lt HB.out)).trans HB.out)
        have hq1 : q < w.heap.size := heap_lt HB.out
        have HF3 : Hid ((w2.setCell ⟨q, 0, none⟩ (.int .i64 ((N.tk : Int) + 1))).heap[w1.heap.size]? = some (.cells #[.int .u8 d0, .int .u8 d1, .int .u8 d2, .int .u8 d3, .int .u8 d4, .int .u8 d5, .int .u8 s0, .int .u8 s1, .int .u8 s2, .int .u8 s3, .int .u8 s4, .int .u8 s5, .int .i64 k, .slice a1 l1 c1] 51 (0, 0))) := (Below.heap_setCell _ _ _ _ (by simp; omega)).trans HF2.out
        have HR3 : Hid ((w2.setCell ⟨q, 0, none⟩ (.int .i64 ((N.tk : Int) + 1))).heap[w.heap.size]? = some (.cells #[.int .u8 0, .int .u8 0, .int .u8 0, .int .u8 0, .int .u8 0, .int .u8 0, .int .u8 0, .int .u8 0, .int .u8 0, .int .u8 0, .int .u8 0, .int .u8 0, .int .i64 0, .slice none 0 0] 51 (0, 0))) := (Below.heap_setCell _ _ _ _ (by simp; omega)).trans HR2.out
        go_wp2_with (first
          | (refine wpList_load_row rfl 51 _ rfl w1.heap.size rfl 51 #[.int .u8 d0, .int .u8 d1, .int .u8 d2, .int .u8 d3, .int .u8 d4, .int .u8 d5, .int .u8 s0, .int .u8 s1, .int .u8 s2, .int .u8 s3, .int .u8 s4, .int .u8 s5, .int .i64 k, .slice a1 l1 c1] (0, 0) _ HF3.out Try.underlying51 rfl (by kernel_rfl) ?_)
          | (refine wpList_store_row rfl 51 _ _ rfl w.heap.size #[.int .u8 d0, .int .u8 d1, .int .u8 d2, .int .u8 d3, .int .u8 d4, .int .u8 d5, .int .u8 s0, .int .u8 s1, .int .u8 s2, .int .u8 s3, .int .u8 s4, .int .u8 s5, .int .i64 k, .slice a1 l1 c1] rfl rfl 51 _ HR3.out (by kernel_rfl) rfl (by first | kernel_rfl | simp [Value.oneCell']) ?_))
        refine bodyPost_ret (v := .tuple #[.agg #[.int .u8 d0, .int .u8 d1, .int .u8 d2, .int .u8 d3, .int .u8 d4, .int .u8 d5, .int .u8 s0, .int .u8 s1, .int .u8 s2, .int .u8 s3, .int .u8 s4, .int .u8 s5, .int .i64 k, .slice a1 l1 c1], .bool true]) ?_ (by rfl) ?_
        · exact results_row2 Try.results48 _ _ w.heap.size 51 #[.int .u8 d0, .int .u8 d1, .int .u8 d2, .int .u8 d3, .int .u8 d4, .int .u8 d5, .int .u8 s0, .int .u8 s1, .int .u8 s2, .int .u8 s3, .int .u8 s4, .int .u8 s5, .int .i64 k, .slice a1 l1 c1] (0, 0) _ _ rfl rfl (setRow_heap _ _ _ _ _ _ ((Below.heap_setCell _ _ _ _ (by simp; omega)).trans HR2.out)) Try.underlying51 rfl (by kernel_rfl)
        · refine Or.inl ⟨by simpa using HG.out, a1, l1, c1, rfl, (setRow_other _ _ _ _ (by omega)).trans HQ.out, ?_, ?_, ?_⟩
          · exact ⟨HB2.out.os, HB2.out.tape, HB2.out.output, by have := HB2.out.size; simpa [World.setRow, World.setCell] using this, fun i hi hl => by rw [setRow_other _ _ _ _ (by omega), Below.heap_setCell _ _ _ _ (by simpa using hi)]; exact HB2.out.block i hl⟩
          · exact HW2.out.keep fun b hb => by have := HOW.out b hb; simp at this; rw [setRow_other _ _ _ _ (by omega), Below.heap_setCell _ _ _ _ (by simp; omega)]
          · intro b hb; have := HOW.out b hb; simp at this; omega
    | false =>
      go_enter Try.func48, Try.ntmps48
      go_wp2_with fail
      refine (HO.out _ (balloc w _)).mono ?_
      rintro e w1 ⟨a1, l1, c1, rfl, hr1, ho1, hb1⟩
      have HB1 := hid (bstep (balloc w _) hb1)
      have HRW := hid hr1
      have HOW := hid ho1
      have hw1 : w.heap.size < w1.heap.size := by have := hb1.size; simp at this; omega
      have HR1 : Hid (∀ ob, (w1.alloc ob).heap[w.heap.size]? = some (.cells #[.int .u8 0, .int .u8 0, .int .u8 0, .int .u8 0, .int .u8 0, .int .u8 0, .int .u8 0, .int .u8 0, .int .u8 0, .int .u8 0, .int .u8 0, .int .u8 0, .int .i64 0, .slice none 0 0] 51 (0, 0))) := fun ob => (heap_old _ _ (by have := hb1.size; simp at this; omega)).trans ((hb1.block _ (by simp)).trans (heap_new w _))
      obtain ⟨k0, k1, k2, k3, k4, k5, k6, k7, k8, k9, k10, k11, k12, k13, k14, kf, klt⟩ := HC.out w1 HB1.out
      clear hb1 hr1 ho1 k2 k3 k4 k11 k12 k13 k14
      go_wp2_with fail
      go_region_with (first | (go_at_call 60; refine (HM.out _ _ _ _).mono ?_; rintro e w2 ⟨rfl, hb2⟩; have HB2 := hid (bstep (bpush HB1.out _).drew hb2); have HF2 : Hid (w2.heap[w1.heap.size]? = some (.cells #[.int .u8 d0, .int .u8 d1, .int .u8 d2, .int .u8 d3, .int .u8 d4, .int .u8 d5, .int .u8 s0, .int .u8 s1, .int .u8 s2, .int .u8 s3, .int .u8 s4, .int .u8 s5, .int .i64 k, .slice a1 l1 c1] 51 (0, 0))) := (hb2.block _ (by simp)).trans (heap_new w1 _); have HR2 : Hid (w2.heap[w.heap.size]? = some (.cells #[.int .u8 0, .int .u8 0, .int .u8 0, .int .u8 0, .int .u8 0, .int .u8 0, .int .u8 0, .int .u8 0, .int .u8 0, .int .u8 0, .int .u8 0, .int .u8 0, .int .i64 0, .slice none 0 0] 51 (0, 0))) := (hb2.block _ (by simp; omega)).trans (HR1.out _); have HW2 : Hid (Row w2 5 (.slice a1 l1 c1) (u8s ys)) := (HRW.out.below (bstep (balloc w1 _).drew hb2)); have hw2 : w1.heap.size < w2.heap.size := (by have := hb2.size; simp at this; omega); obtain ⟨k0, k1, k2, k3, k4, k5, k6, k7, k8, k9, k10, k11, k12, k13, k14, kf, klt⟩ := HC.out w2 HB2.out; clear hb2 k2 k3 k4 k5 k6 k7 k8 k9 k10 k11 k12 k13 k14))
      all_goals
        have HQ : Hid ((w2.setCell ⟨q, 1, none⟩ (.int .i64 ((N.th : Int) + 1))).heap[q]? = some (.cells (N.threw.box own c n m) 88 (0, 0))) := by
          unfold Hid; rw [← box_threw]; exact heap_setCell ((HB2.out.block q (heap_lt HB.out)).trans HB.out)
        have hq1 : q < w.heap.size := heap_lt HB.out
        go_wp2_with (first
          | (refine wpList_store_row rfl 51 _ _ rfl w.heap.size #[.int .u8 0, .int .u8 0, .int .u8 0, .int .u8 0, .int .u8 0, .int .u8 0, .int .u8 0, .int .u8 0, .int .u8 0, .int .u8 0, .int .u8 0, .int .u8 0, .int .i64 0, .slice none 0 0] rfl rfl 51 _ (by exact (Below.heap_setCell _ _ _ _ (by simp; omega)).trans HR2.out) (by kernel_rfl) rfl (by first | kernel_rfl | simp [Value.oneCell']) ?_))
        refine bodyPost_ret (v := .tuple #[.agg #[.int .u8 0, .int .u8 0, .int .u8 0, .int .u8 0, .int .u8 0, .int .u8 0, .int .u8 0, .int .u8 0, .int .u8 0, .int .u8 0, .int .u8 0, .int .u8 0, .int .i64 0, .slice none 0 0], .bool false]) ?_ (by rfl) ?_
        · exact results_row2 Try.results48 _ _ w.heap.size 51 #[.int .u8 0, .int .u8 0, .int .u8 0, .int .u8 0, .int .u8 0, .int .u8 0, .int .u8 0, .int .u8 0, .int .u8 0, .int .u8 0, .int .u8 0, .int .u8 0, .int .i64 0, .slice none 0 0] (0, 0) _ _ rfl rfl (setRow_heap _ _ _ _ _ _ ((Below.heap_setCell _ _ _ _ (by simp; omega)).trans HR2.out)) Try.underlying51 rfl (by kernel_rfl)
        · refine Or.inr ⟨by simpa using HG.out, rfl, (setRow_other _ _ _ _ (by omega)).trans HQ.out, ?_⟩
          exact ⟨HB2.out.os, HB2.out.tape, HB2.out.output, by have := HB2.out.size; simpa [World.setRow, World.setCell] using this, fun i hi hl => by rw [setRow_other _ _ _ _ (by omega), Below.heap_setCell _ _ _ _ (by simpa using hi)]; exact HB2.out.block i hl⟩
  all_goals
    · skip
      go_enter Try.func48, Try.ntmps48
      go_wp2_with fail
      refine (HO.out _ (balloc w _)).mono ?_
      rintro e w1 ⟨a1, l1, c1, rfl, hr1, ho1, hb1⟩
      have HB1 := hid (bstep (balloc w _) hb1)
      have HRW := hid hr1
      have HOW := hid ho1
      have hw1 : w.heap.size < w1.heap.size := by have := hb1.size; simp at this; omega
      have HR1 : Hid (∀ ob, (w1.alloc ob).heap[w.heap.size]? = some (.cells #[.int .u8 0, .int .u8 0, .int .u8 0, .int .u8 0, .int .u8 0, .int .u8 0, .int .u8 0, .int .u8 0, .int .u8 0, .int .u8 0, .int .u8 0, .int .u8 0, .int .i64 0, .slice none 0 0] 51 (0, 0))) := fun ob => (heap_old _ _ (by have := hb1.size; simp at this; omega)).trans ((hb1.block _ (by simp)).trans (heap_new w _))
      obtain ⟨k0, k1, k2, k3, k4, k5, k6, k7, k8, k9, k10, k11, k12, k13, k14, kf, klt⟩ := HC.out w1 HB1.out
      clear hb1 hr1 ho1 k2 k3 k4 k11 k12 k13 k14
      go_wp2_with fail
      go_quiet (fail)
      have HBZ : Hid (Below w.heap.size w ((w1.alloc (.cells #[.int .u8 d0, .int .u8 d1, .int .u8 d2, .int .u8 d3, .int .u8 d4, .int .u8 d5, .int .u8 s0, .int .u8 s1, .int .u8 s2, .int .u8 s3, .int .u8 s4, .int .u8 s5, .int .i64 k, .slice a1 l1 c1] 51)).drewN nq)) := (bpush HB1.out _).trans ⟨rfl, rfl, rfl, Nat.le_refl _, fun _ _ => rfl⟩
      have HRZ : Hid (((w1.alloc (.cells #[.int .u8 d0, .int .u8 d1, .int .u8 d2, .int .u8 d3, .int .u8 d4, .int .u8 d5, .int .u8 s0, .int .u8 s1, .int .u8 s2, .int .u8 s3, .int .u8 s4, .int .u8 s5, .int .i64 k, .slice a1 l1 c1] 51)).drewN nq).heap[w.heap.size]? = some (.cells #[.int .u8 0, .int .u8 0, .int .u8 0, .int .u8 0, .int .u8 0, .int .u8 0, .int .u8 0, .int .u8 0, .int .u8 0, .int .u8 0, .int .u8 0, .int .u8 0, .int .i64 0, .slice none 0 0] 51 (0, 0))) := HR1.out _
      obtain ⟨k0, k1, k2, k3, k4, k5, k6, k7, k8, k9, k10, k11, k12, k13, k14, kf, klt⟩ := HC.out _ HBZ.out
      have hq1 : q < w.heap.size := heap_lt HB.out
      have HR3 : Hid ((((w1.alloc (.cells #[.int .u8 d0, .int .u8 d1, .int .u8 d2, .int .u8 d3, .int .u8 d4, .int .u8 d5, .int .u8 s0, .int .u8 s1, .int .u8 s2, .int .u8 s3, .int .u8 s4, .int .u8 s5, .int .i64 k, .slice a1 l1 c1] 51)).drewN nq).setCell ⟨q, 1, none⟩ (.int .i64 ((N.th : Int) + 1))).heap[w.heap.size]? = some (.cells #[.int .u8 0, .int .u8 0, .int .u8 0, .int .u8 0, .int .u8 0, .int .u8 0, .int .u8 0, .int .u8 0, .int .u8 0, .int .u8 0, .int .u8 0, .int .u8 0, .int .i64 0, .slice none 0 0] 51 (0, 0))) := (Below.heap_setCell _ _ _ _ (by simp; omega)).trans HRZ.out
      all_goals
        have HQ : Hid ((((w1.alloc (.cells #[.int .u8 d0, .int .u8 d1, .int .u8 d2, .int .u8 d3, .int .u8 d4, .int .u8 d5, .int .u8 s0, .int .u8 s1, .int .u8 s2, .int .u8 s3, .int .u8 s4, .int .u8 s5, .int .i64 k, .slice a1 l1 c1] 51)).drewN nq).setCell ⟨q, 1, none⟩ (.int .i64 ((N.th : Int) + 1))).heap[q]? = some (.cells (N.threw.box own c n m) 88 (0, 0))) := by
          unfold Hid; rw [← box_threw]; exact heap_setCell ((HBZ.out.block q (heap_lt HB.out)).trans HB.out)
        have hq1 : q < w.heap.size := heap_lt HB.out
        go_wp2_with (first
          | (refine wpList_store_row rfl 51 _ _ rfl w.heap.size #[.int .u8 0, .int .u8 0, .int .u8 0, .int .u8 0, .int .u8 0, .int .u8 0, .int .u8 0, .int .u8 0, .int .u8 0, .int .u8 0, .int .u8 0, .int .u8 0, .int .i64 0, .slice none 0 0] rfl rfl 51 _ HR3.out (by kernel_rfl) rfl (by first | kernel_rfl | simp [Value.oneCell']) ?_))
        refine bodyPost_ret (v := .tuple #[.agg #[.int .u8 0, .int .u8 0, .int .u8 0, .int .u8 0, .int .u8 0, .int .u8 0, .int .u8 0, .int .u8 0, .int .u8 0, .int .u8 0, .int .u8 0, .int .u8 0, .int .i64 0, .slice none 0 0], .bool false]) ?_ (by rfl) ?_
        · exact results_row2 Try.results48 _ _ w.heap.size 51 #[.int .u8 0, .int .u8 0, .int .u8 0, .int .u8 0, .int .u8 0, .int .u8 0, .int .u8 0, .int .u8 0, .int .u8 0, .int .u8 0, .int .u8 0, .int .u8 0, .int .i64 0, .slice none 0 0] (0, 0) _ _ rfl rfl (setRow_heap _ _ _ _ _ _ ((Below.heap_setCell _ _ _ _ (by simp; omega)).trans HRZ.out)) Try.underlying51 rfl (by kernel_rfl)
        · refine Or.inr ⟨by simpa using HG.out, rfl, (setRow_other _ _ _ _ (by omega)).trans HQ.out, ?_⟩
          exact ⟨HBZ.out.os, HBZ.out.tape, HBZ.out.output, by have := HBZ.out.size; simpa [World.setRow, World.setCell] using this, fun i hi hl => by rw [setRow_other _ _ _ _ (by omega), Below.heap_setCell _ _ _ _ (by simpa using hi)]; exact HBZ.out.block i hl⟩

end Go.Proofs.Ytnjhlndikbkeaaa
