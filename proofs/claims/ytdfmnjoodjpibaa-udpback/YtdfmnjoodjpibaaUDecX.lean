/-
  udp.Decode of what it takes.
-/
import Derived.Test.YtdfmnjoodjpibaaUDec
namespace Go.Proofs.Ytdfmnjoodjpibaa
open Go.RowKit
set_option linter.all false

set_option maxRecDepth 20000 in
set_option maxHeartbeats 2000000 in
theorem decode_zero (src dst : Int) (pt : Part) (w : World) (s0 : 0 ≤ src ∧ src ≤ 4294967295) (d0 : 0 ≤ dst ∧ dst ≤ 4294967295) (hok : pt.ok w) (hl : pt.zs.length ≤ 281474976710656) (L : Nat) (hL : numAt pt.zs 4 = L) (h8 : 8 ≤ L) (hL2 : L ≤ pt.zs.length) (h6 : numAt pt.zs 6 = 0 ∨ usum src dst (pt.zs.take L) = 0) (h20 : numAt pt.zs 2 = 0) :
    Calls Try.prog 15 #[.int .u32 src, .int .u32 dst, pt.val] w fun e w' => e = .returned (.tuple #[.agg #[.int .i64 0, .int .i64 0, .slice none 0 0], .int .i64 120]) ∧ Below w.heap.size w w' := by
  have K4 : Hid (∀ W, Below w.heap.size w W → Calls Try.prog 24 #[pt.val, .int .i64 4] W fun e w' => e = .returned (.int .i64 (numAt pt.zs 4)) ∧ w' = W) := fun W hb => wordAt_any pt 4 W (Part.ok_below hok hb) hl (by omega)
  have hLb := numAt_bd hok.1 4
  have KK := hid (dcK src dst pt w s0 d0 hok L h8 hL2 (by omega))
  have H0 := hid (DcI.first w)
  have hcap := hok.2.1
  obtain ⟨b, o, ha⟩ : ∃ b o, pt.a = some ⟨b, o, none⟩ := by
    rcases hok.2.2 with he | ⟨b, o, ha, _⟩
    · rw [he] at hL2; simp at hL2; omega
    · exact ⟨b, o, ha⟩
  unfold Part.val at *
  rw [hL] at K4
  rw [ha] at K4 KK ⊢
  clear ha hL hLb hok
  generalize numAt pt.zs 6 = N6 at *
  generalize numAt pt.zs 2 = N2 at *
  generalize numAt pt.zs 0 = N0 at *
  generalize usum src dst (pt.zs.take L) = US at *
  generalize (pt.zs.take L).drop 8 = DD at *
  generalize pt.zs.length = l at *
  generalize pt.c = c at *
  have h1 : ¬ (l : Int) < 8 := by omega
  have h2 : ¬ (L : Int) < 8 := by omega
  have h3 : ¬ (l : Int) < (L : Int) := by omega
  have h4 : (L : Int) ≤ (c : Int) := by omega
  subst h20
  go_enter Try.func15, Try.ntmps15
  go_wp2_with fail
  refine (K4.out _ H0.out.2).mono ?_
  rintro e w1 ⟨rfl, hw⟩
  subst w1
  go_wp2_with fail
  refine (KK.out.k6 _ H0.out.2).mono ?_
  rintro e w1 ⟨rfl, hw⟩
  subst w1
  clear K4
  by_cases hn : N6 = 0
  · clear h6
    subst hn
    generalize w.alloc (.cells #[.int .i64 0, .int .i64 0, .slice none 0 0] 26) = W at *
    go_wp2_with fail
    refine (KK.out.k2 _ H0.out.2).mono ?_
    rintro e w1 ⟨rfl, hw⟩
    subst w1
    go_wp2_with (first
      | (refine wpList_store_row rfl 26 _ _ rfl w.heap.size #[.int .i64 0, .int .i64 0, .slice none 0 0] rfl rfl 26 _ H0.out.1 (by kernel_rfl) rfl (by first | kernel_rfl | simp [Value.oneCell']) ?_) | fail)
    refine bodyPost_ret (v := .tuple #[.agg #[.int .i64 0, .int .i64 0, .slice none 0 0], .int .i64 120]) ?_ (by rfl) ⟨rfl, bbut H0.out.2 (But.setRow _ _ _) (Nat.le_refl _)⟩
    exact results_row2 Try.results15 _ _ w.heap.size 26 _ (0, 0) _ _ rfl rfl (setRow_heap _ _ _ _ _ _ H0.out.1) Try.underlying26 rfl (by kernel_rfl)
  · have hs : US = 0 := by omega
    have h5 : (N6 != 0) = true := by simpa using hn
    clear h6 hn
    subst hs
    go_wp2_with fail
    refine (KK.out.ks _ H0.out.2).mono ?_
    rintro e W ⟨rfl, hb⟩
    have H1 := hid (H0.out.next hb)
    clear hb H0
    have H0 := H1
    clear H1
    go_wp2_with fail
    refine (KK.out.k2 _ H0.out.2).mono ?_
    rintro e w1 ⟨rfl, hw⟩
    subst w1
    go_wp2_with (first
      | (refine wpList_store_row rfl 26 _ _ rfl w.heap.size #[.int .i64 0, .int .i64 0, .slice none 0 0] rfl rfl 26 _ H0.out.1 (by kernel_rfl) rfl (by first | kernel_rfl | simp [Value.oneCell']) ?_) | fail)
    refine bodyPost_ret (v := .tuple #[.agg #[.int .i64 0, .int .i64 0, .slice none 0 0], .int .i64 120]) ?_ (by rfl) ⟨rfl, bbut H0.out.2 (But.setRow _ _ _) (Nat.le_refl _)⟩
    exact results_row2 Try.results15 _ _ w.heap.size 26 _ (0, 0) _ _ rfl rfl (setRow_heap _ _ _ _ _ _ H0.out.1) Try.underlying26 rfl (by kernel_rfl)

theorem dc_end {w W w5 : World} {DD : List Int} {a5 : Option Addr} {n5 c5 : Nat} (hW : DcI w W) (X : Obj) (an : Ans (W.alloc X).drew w5 DD a5 n5 c5) (H5 : DcI w w5) (N0 N2 : Int) :
    (((w5.setCell ⟨w.heap.size, 0, none⟩ (.int .i64 N0)).setCell ⟨w.heap.size, 1, none⟩ (.int .i64 N2)).setCell ⟨w.heap.size, 2, none⟩ (.slice a5 n5 c5)).heap[w.heap.size]? = some (.cells #[.int .i64 N0, .int .i64 N2, .slice a5 n5 c5] 26 (0, 0)) ∧ Ans w (((w5.setCell ⟨w.heap.size, 0, none⟩ (.int .i64 N0)).setCell ⟨w.heap.size, 1, none⟩ (.int .i64 N2)).setCell ⟨w.heap.size, 2, none⟩ (.slice a5 n5 c5)) DD a5 n5 c5 := by
  refine ⟨?_, ?_, fun b hb => ?_, bbut (bbut (bbut H5.2 (But.setCell _ _ _ _) (Nat.le_refl _)) (But.setCell _ _ _ _) (Nat.le_refl _)) (But.setCell _ _ _ _) (Nat.le_refl _)⟩
  · have := heap_setCell (j := 2) (v := .slice a5 n5 c5) (heap_setCell (j := 1) (v := .int .i64 N2) (heap_setCell (j := 0) (v := .int .i64 N0) H5.1))
    simpa using this
  · have hne : ∀ b, (Value.slice a5 n5 c5).ownBlock = some b → b ≠ w.heap.size := fun b hb => by
      have h1 := an.2.1 b hb
      have h2 := heap_lt hW.1
      have h3 : (W.alloc X).drew.heap.size = W.heap.size + 1 := by simp
      omega
    exact ((an.1.but (But.setCell _ _ _ _) hne).but (But.setCell _ _ _ _) hne).but (But.setCell _ _ _ _) hne
  · have h1 := an.2.1 b hb
    have h2 := heap_lt hW.1
    have h3 : (W.alloc X).drew.heap.size = W.heap.size + 1 := by simp
    omega
set_option maxRecDepth 20000 in
set_option maxHeartbeats 2000000 in
theorem decode_ok (src dst : Int) (pt : Part) (w : World) (s0 : 0 ≤ src ∧ src ≤ 4294967295) (d0 : 0 ≤ dst ∧ dst ≤ 4294967295) (hok : pt.ok w) (hl : pt.zs.length ≤ 281474976710656) (L : Nat) (hL : numAt pt.zs 4 = L) (h8 : 8 ≤ L) (hL2 : L ≤ pt.zs.length) (h6 : numAt pt.zs 6 = 0 ∨ usum src dst (pt.zs.take L) = 0) (h20 : ¬ numAt pt.zs 2 = 0) :
    Calls Try.prog 15 #[.int .u32 src, .int .u32 dst, pt.val] w fun e w' => ∃ a n c, e = .returned (.tuple #[.agg #[.int .i64 (numAt pt.zs 0), .int .i64 (numAt pt.zs 2), .slice a n c], .int .i64 0]) ∧ Ans w w' ((pt.zs.take L).drop 8) a n c := by
  have K4 : Hid (∀ W, Below w.heap.size w W → Calls Try.prog 24 #[pt.val, .int .i64 4] W fun e w' => e = .returned (.int .i64 (numAt pt.zs 4)) ∧ w' = W) := fun W hb => wordAt_any pt 4 W (Part.ok_below hok hb) hl (by omega)
  have hLb := numAt_bd hok.1 4
  have KK := hid (dcK src dst pt w s0 d0 hok L h8 hL2 (by omega))
  have H0 := hid (DcI.first w)
  have hcap := hok.2.1
  obtain ⟨b, o, ha⟩ : ∃ b o, pt.a = some ⟨b, o, none⟩ := by
    rcases hok.2.2 with he | ⟨b, o, ha, _⟩
    · rw [he] at hL2; simp at hL2; omega
    · exact ⟨b, o, ha⟩
  unfold Part.val at *
  rw [hL] at K4
  rw [ha] at K4 KK ⊢
  clear ha hL hLb hok
  generalize numAt pt.zs 6 = N6 at *
  generalize numAt pt.zs 2 = N2 at *
  generalize numAt pt.zs 0 = N0 at *
  generalize usum src dst (pt.zs.take L) = US at *
  generalize (pt.zs.take L).drop 8 = DD at *
  generalize pt.zs.length = l at *
  generalize pt.c = c at *
  have K0 : Hid (∀ W, Below w.heap.size w W → Calls Try.prog 24 #[.slice (some ⟨b, o, none⟩) L c, .int .i64 0] W fun e w' => e = .returned (.int .i64 N0) ∧ w' = W) := fun W h => KK.out.k0 W h
  have K2 : Hid (∀ W, Below w.heap.size w W → Calls Try.prog 24 #[.slice (some ⟨b, o, none⟩) L c, .int .i64 2] W fun e w' => e = .returned (.int .i64 N2) ∧ w' = W) := fun W h => KK.out.k2 W h
  have KJ : Hid (∀ (W : World) (g : Nat) (a : Option Addr), (L = 8 ∨ ∃ b' o', some (⟨b, o, none⟩ : Addr) = some ⟨b', o', none⟩ ∧ a = some ⟨b', o' + 8, none⟩) → DcI w W → W.heap[g]? = some (.cells #[.slice a (L - 8) (c - 8)] 24 (0, 0)) → Calls Try.prog 20 #[.slice (some ⟨g, 0, none⟩) 1 1] W fun e w' => ∃ a n c, e = .returned (.slice a n c) ∧ Ans W w' DD a n c ∧ Hid (DcI w w')) := fun W g a h1 h2 h3 => (KK.out.kj W g a h1 h2.2 h3).mono fun e w' ⟨a, n, c, he, an⟩ => ⟨a, n, c, he, an, h2.next an.2.2⟩
  have h1 : ¬ (l : Int) < 8 := by omega
  have h2 : ¬ (L : Int) < 8 := by omega
  have h3 : ¬ (l : Int) < (L : Int) := by omega
  have h4 : (L : Int) ≤ (c : Int) := by omega
  have h21 : (N2 == 0) = false := by simpa using h20
  clear h20
  go_enter Try.func15, Try.ntmps15
  go_wp2_with fail
  refine (K4.out _ H0.out.2).mono ?_
  rintro e w1 ⟨rfl, hw⟩
  subst w1
  go_wp2_with fail
  refine (KK.out.k6 _ H0.out.2).mono ?_
  rintro e w1 ⟨rfl, hw⟩
  subst w1
  clear K4
  by_cases hn : N6 = 0
  · clear h6
    subst hn
    generalize w.alloc (.cells #[.int .i64 0, .int .i64 0, .slice none 0 0] 26) = W at *
    go_wp2_with fail
    refine (KK.out.k2 _ H0.out.2).mono ?_
    rintro e w1 ⟨rfl, hw⟩
    subst w1
    go_wp2
    by_cases hc8 : c = 8
    · have hL8 : L = 8 := by omega
      subst hL8
      subst hc8
      simp only [Nat.sub_self] at KJ
      go_region_held3 (fun w' => Below w.heap.size w w') (first | assumption | exact (H0.out.next (Below.refl _ _).drew).2 | exact (H0.out.next (bpush (Below.refl _ _) _).drew).2 | exact bbut (bbut (bbut H5.out.2 (But.setCell _ _ _ _) (Nat.le_refl _)) (But.setCell _ _ _ _) (Nat.le_refl _)) (But.setCell _ _ _ _) (Nat.le_refl _)) (first
        | (go_at_call 24; (with_reducible refine (K0.out _ (by assumption)).mono ?_); rintro e w1 ⟨rfl, hw⟩; subst w1)
        | (go_at_call 24; (with_reducible refine (K2.out _ (by assumption)).mono ?_); rintro e w1 ⟨rfl, hw⟩; subst w1)
        | (go_at_call 20; refine (KJ.out _ _ (some ⟨b, o, none⟩) (Or.inl trivial) (by exact H0.out.next (bpush (Below.refl _ _) _).drew) (by exact heap_new W _)).mono ?_; rintro e w5 ⟨a5, n5, c5, rfl, an, H5⟩; have H5' := H5.out.2; have q0 := cell_of_heap H5.out.1 0; have q1 := cell_of_heap H5.out.1 1; have q2 := cell_of_heap H5.out.1 2; have f0 := frozen_of_heap H5.out.1 0; have f1 := frozen_of_heap H5.out.1 1; have f2 := frozen_of_heap H5.out.1 2)
        | fail)
      all_goals
        go_wp2
        refine bodyPost_ret (v := .tuple #[.agg #[.int .i64 N0, .int .i64 N2, .slice a5 n5 c5], .int .i64 0]) ?_ (by rfl) ⟨a5, n5, c5, rfl, (dc_end H0.out _ an H5.out N0 N2).2⟩
        exact results_row2 Try.results15 _ _ w.heap.size 26 _ (0, 0) _ _ rfl rfl (dc_end H0.out _ an H5.out N0 N2).1 Try.underlying26 rfl (by kernel_rfl)
    · have HADDR : Hid (L = 8 ∨ ∃ b' o', some (⟨b, o, none⟩ : Addr) = some ⟨b', o', none⟩ ∧ (some ⟨b, o + 8, none⟩ : Option Addr) = some ⟨b', o' + 8, none⟩) := Or.inr ⟨b, o, rfl, rfl⟩
      go_region_held3 (fun w' => Below w.heap.size w w') (first | assumption | exact (H0.out.next (Below.refl _ _).drew).2 | exact (H0.out.next (bpush (Below.refl _ _) _).drew).2 | exact bbut (bbut (bbut H5.out.2 (But.setCell _ _ _ _) (Nat.le_refl _)) (But.setCell _ _ _ _) (Nat.le_refl _)) (But.setCell _ _ _ _) (Nat.le_refl _)) (first
        | (go_at_call 24; (with_reducible refine (K0.out _ (by assumption)).mono ?_); rintro e w1 ⟨rfl, hw⟩; subst w1)
        | (go_at_call 24; (with_reducible refine (K2.out _ (by assumption)).mono ?_); rintro e w1 ⟨rfl, hw⟩; subst w1)
        | (go_at_call 20; refine (KJ.out _ _ _ HADDR.out (by exact H0.out.next (bpush (Below.refl _ _) _).drew) (by exact heap_new W _)).mono ?_; rintro e w5 ⟨a5, n5, c5, rfl, an, H5⟩; have H5' := H5.out.2; have q0 := cell_of_heap H5.out.1 0; have q1 := cell_of_heap H5.out.1 1; have q2 := cell_of_heap H5.out.1 2; have f0 := frozen_of_heap H5.out.1 0; have f1 := frozen_of_heap H5.out.1 1; have f2 := frozen_of_heap H5.out.1 2)
        | fail)
      all_goals
        go_wp2
        refine bodyPost_ret (v := .tuple #[.agg #[.int .i64 N0, .int .i64 N2, .slice a5 n5 c5], .int .i64 0]) ?_ (by rfl) ⟨a5, n5, c5, rfl, (dc_end H0.out _ an H5.out N0 N2).2⟩
        exact results_row2 Try.results15 _ _ w.heap.size 26 _ (0, 0) _ _ rfl rfl (dc_end H0.out _ an H5.out N0 N2).1 Try.underlying26 rfl (by kernel_rfl)
  · have hs : US = 0 := by omega
    have h5 : (N6 != 0) = true := by simpa using hn
    clear h6 hn
    subst hs
    go_wp2_with fail
    refine (KK.out.ks _ H0.out.2).mono ?_
    rintro e W ⟨rfl, hb⟩
    have H1 := hid (H0.out.next hb)
    clear hb H0
    have H0 := H1
    clear H1
    go_wp2_with fail
    refine (KK.out.k2 _ H0.out.2).mono ?_
    rintro e w1 ⟨rfl, hw⟩
    subst w1
    go_wp2
    by_cases hc8 : c = 8
    · have hL8 : L = 8 := by omega
      subst hL8
      subst hc8
      simp only [Nat.sub_self] at KJ
      go_region_held3 (fun w' => Below w.heap.size w w') (first | assumption | exact (H0.out.next (Below.refl _ _).drew).2 | exact (H0.out.next (bpush (Below.refl _ _) _).drew).2 | exact bbut (bbut (bbut H5.out.2 (But.setCell _ _ _ _) (Nat.le_refl _)) (But.setCell _ _ _ _) (Nat.le_refl _)) (But.setCell _ _ _ _) (Nat.le_refl _)) (first
        | (go_at_call 24; (with_reducible refine (K0.out _ (by assumption)).mono ?_); rintro e w1 ⟨rfl, hw⟩; subst w1)
        | (go_at_call 24; (with_reducible refine (K2.out _ (by assumption)).mono ?_); rintro e w1 ⟨rfl, hw⟩; subst w1)
        | (go_at_call 20; refine (KJ.out _ _ (some ⟨b, o, none⟩) (Or.inl trivial) (by exact H0.out.next (bpush (Below.refl _ _) _).drew) (by exact heap_new W _)).mono ?_; rintro e w5 ⟨a5, n5, c5, rfl, an, H5⟩; have H5' := H5.out.2; have q0 := cell_of_heap H5.out.1 0; have q1 := cell_of_heap H5.out.1 1; have q2 := cell_of_heap H5.out.1 2; have f0 := frozen_of_heap H5.out.1 0; have f1 := frozen_of_heap H5.out.1 1; have f2 := frozen_of_heap H5.out.1 2)
        | fail)
      all_goals
        go_wp2
        refine bodyPost_ret (v := .tuple #[.agg #[.int .i64 N0, .int .i64 N2, .slice a5 n5 c5], .int .i64 0]) ?_ (by rfl) ⟨a5, n5, c5, rfl, (dc_end H0.out _ an H5.out N0 N2).2⟩
        exact results_row2 Try.results15 _ _ w.heap.size 26 _ (0, 0) _ _ rfl rfl (dc_end H0.out _ an H5.out N0 N2).1 Try.underlying26 rfl (by kernel_rfl)
    · have HADDR : Hid (L = 8 ∨ ∃ b' o', some (⟨b, o, none⟩ : Addr) = some ⟨b', o', none⟩ ∧ (some ⟨b, o + 8, none⟩ : Option Addr) = some ⟨b', o' + 8, none⟩) := Or.inr ⟨b, o, rfl, rfl⟩
      go_region_held3 (fun w' => Below w.heap.size w w') (first | assumption | exact (H0.out.next (Below.refl _ _).drew).2 | exact (H0.out.next (bpush (Below.refl _ _) _).drew).2 | exact bbut (bbut (bbut H5.out.2 (But.setCell _ _ _ _) (Nat.le_refl _)) (But.setCell _ _ _ _) (Nat.le_refl _)) (But.setCell _ _ _ _) (Nat.le_refl _)) (first
        | (go_at_call 24; (with_reducible refine (K0.out _ (by assumption)).mono ?_); rintro e w1 ⟨rfl, hw⟩; subst w1)
        | (go_at_call 24; (with_reducible refine (K2.out _ (by assumption)).mono ?_); rintro e w1 ⟨rfl, hw⟩; subst w1)
        | (go_at_call 20; refine (KJ.out _ _ _ HADDR.out (by exact H0.out.next (bpush (Below.refl _ _) _).drew) (by exact heap_new W _)).mono ?_; rintro e w5 ⟨a5, n5, c5, rfl, an, H5⟩; have H5' := H5.out.2; have q0 := cell_of_heap H5.out.1 0; have q1 := cell_of_heap H5.out.1 1; have q2 := cell_of_heap H5.out.1 2; have f0 := frozen_of_heap H5.out.1 0; have f1 := frozen_of_heap H5.out.1 1; have f2 := frozen_of_heap H5.out.1 2)
        | fail)
      all_goals
        go_wp2
        refine bodyPost_ret (v := .tuple #[.agg #[.int .i64 N0, .int .i64 N2, .slice a5 n5 c5], .int .i64 0]) ?_ (by rfl) ⟨a5, n5, c5, rfl, (dc_end H0.out _ an H5.out N0 N2).2⟩
        exact results_row2 Try.results15 _ _ w.heap.size 26 _ (0, 0) _ _ rfl rfl (dc_end H0.out _ an H5.out N0 N2).1 Try.underlying26 rfl (by kernel_rfl)

theorem decode_u (src dst : Int) (pt : Part) (w : World) (s0 : 0 ≤ src ∧ src ≤ 4294967295) (d0 : 0 ≤ dst ∧ dst ≤ 4294967295) (hok : pt.ok w) (hl : pt.zs.length ≤ 281474976710656) :
    Calls Try.prog 15 #[.int .u32 src, .int .u32 dst, pt.val] w fun e w' => ∃ a n c, e = .returned (.tuple #[.agg #[.int .i64 (decS src dst pt.zs), .int .i64 (decT src dst pt.zs), .slice a n c], .int .i64 (decE src dst pt.zs)]) ∧ Ans w w' (decD src dst pt.zs) a n c := by
  unfold decS decT decD decE
  by_cases h1 : pt.zs.length < 8
  · simp only [if_pos h1, if_neg (show ¬ (5 : Int) = 0 by decide)]
    exact (decode_short src dst _ _ _ w h1).mono fun e w' h => ⟨_, _, _, h.1, ans_nil h.2⟩
  · simp only [if_neg h1]
    by_cases h2 : numAt pt.zs 4 < 8 ∨ (pt.zs.length : Int) < numAt pt.zs 4
    · simp only [if_pos h2, if_neg (show ¬ (92 : Int) = 0 by decide)]
      exact (decode_length src dst pt w hok hl (by omega) h2).mono fun e w' h => ⟨_, _, _, h.1, ans_nil h.2⟩
    · simp only [if_neg h2]
      obtain ⟨L, hL⟩ := Int.eq_ofNat_of_zero_le (show 0 ≤ numAt pt.zs 4 by omega)
      simp only [hL, Int.toNat_natCast]
      rw [hL] at h2
      by_cases h3 : ¬ numAt pt.zs 6 = 0 ∧ ¬ usum src dst (pt.zs.take L) = 0
      · simp only [if_pos h3, if_neg (show ¬ (93 : Int) = 0 by decide)]
        exact (decode_sum src dst pt w s0 d0 hok hl L hL (by omega) (by omega) h3.1 h3.2).mono fun e w' h => ⟨_, _, _, h.1, ans_nil h.2⟩
      · simp only [if_neg h3]
        have h3' : numAt pt.zs 6 = 0 ∨ usum src dst (pt.zs.take L) = 0 := by omega
        by_cases h4 : numAt pt.zs 2 = 0
        · simp only [if_pos h4, if_neg (show ¬ (120 : Int) = 0 by decide)]
          exact (decode_zero src dst pt w s0 d0 hok hl L hL (by omega) (by omega) h3' h4).mono fun e w' h => ⟨_, _, _, h.1, ans_nil h.2⟩
        · simp only [if_neg h4, if_pos]
          unfold datD
          simp only [hL, Int.toNat_natCast]
          exact decode_ok src dst pt w s0 d0 hok hl L hL (by omega) (by omega) h3' h4
end Go.Proofs.Ytdfmnjoodjpibaa
