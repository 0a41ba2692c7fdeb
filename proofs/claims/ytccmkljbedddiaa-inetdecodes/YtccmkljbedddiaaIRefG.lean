/-
  The document's Decode of what it takes.
-/
import Derived.Test.YtccmkljbedddiaaIRefD
import Derived.Test.YtccmkljbedddiaaBApp
namespace Go.Proofs.Ytccmkljbedddiaa
open Go.RowKit
set_option linter.all false

theorem cut2 {α β : Type} {G : Prop} {H : α → β → Prop} (P : α → β → Prop) (h1 : (∀ a b, H a b → P a b) → G) (h2 : ∀ a b, H a b → P a b) : G := h1 h2
set_option maxRecDepth 20000 in
set_option maxHeartbeats 4000000 in
theorem refDecode_ok (pt : Part) (w : World) (hok : pt.ok w) (h20 : 20 ≤ pt.zs.length) (hl : pt.zs.length ≤ 140737488351232) (hE : decE pt.zs = 0) :
    Calls Try.prog 15 #[pt.val] w fun e w' => ∃ a n c, e = .returned (.tuple #[(decP pt.zs).val, .slice a n c, .int .i64 0]) ∧ Ans w w' ((pt.zs.drop 20).take ((numAt pt.zs 2 2).toNat - 20)) a n c := by
  have hcs := dec_cases pt.zs h20 hok.1
  have N1 : Hid (∀ w', Below w.heap.size w w' → Calls Try.prog 24 #[pt.val, .int .i64 2, .int .i64 2] w' fun e w'' => e = .returned (.int .i64 (numAt pt.zs 2 2)) ∧ w'' = w') := fun w' hb => refNumber_any pt 2 2 w' (Part.ok_below hok hb) hl (by omega) (Or.inr (Or.inl rfl))
  have N2 : Hid (∀ w', Below w.heap.size w w' → Calls Try.prog 24 #[pt.val, .int .i64 6, .int .i64 2] w' fun e w'' => e = .returned (.int .i64 (numAt pt.zs 6 2)) ∧ w'' = w') := fun w' hb => refNumber_any pt 6 2 w' (Part.ok_below hok hb) hl (by omega) (Or.inr (Or.inl rfl))
  have N3 : Hid (∀ w', Below w.heap.size w w' → Calls Try.prog 24 #[pt.val, .int .i64 4, .int .i64 2] w' fun e w'' => e = .returned (.int .i64 (numAt pt.zs 4 2)) ∧ w'' = w') := fun w' hb => refNumber_any pt 4 2 w' (Part.ok_below hok hb) hl (by omega) (Or.inr (Or.inl rfl))
  have N4c : Hid (∀ w', Below w.heap.size w w' → Calls Try.prog 24 #[pt.val, .int .i64 12, .int .i64 4] w' fun e w'' => e = .returned (.int .i64 (numAt pt.zs 12 4)) ∧ w'' = w') := fun w' hb => refNumber_any pt 12 4 w' (Part.ok_below hok hb) hl (by omega) (Or.inr (Or.inr rfl))
  have N5c : Hid (∀ w', Below w.heap.size w w' → Calls Try.prog 24 #[pt.val, .int .i64 16, .int .i64 4] w' fun e w'' => e = .returned (.int .i64 (numAt pt.zs 16 4)) ∧ w'' = w') := fun w' hb => refNumber_any pt 16 4 w' (Part.ok_below hok hb) hl (by omega) (Or.inr (Or.inr rfl))
  obtain ⟨b, o, ha, hc⟩ : ∃ b o, pt.a = some ⟨b, o, none⟩ ∧ ∀ j, j < pt.zs.length → w.cell? ⟨b, o + j, none⟩ = some (.int .u8 (pt.zs.getD j 0)) := by
    rcases hok.2.2 with he | ⟨b, o, ha, hc⟩
    · rw [he] at h20; simp at h20
    · exact ⟨b, o, ha, hc⟩
  have hb0 := getD_mem_bd hok.1 0
  have hb1 := getD_mem_bd hok.1 1
  have hb8 := getD_mem_bd hok.1 8
  have hb9 := getD_mem_bd hok.1 9
  have hnL := (numAt_bd hok.1 2).2.1
  have hnF := (numAt_bd hok.1 6).2.1
  have hn4 := (numAt_bd hok.1 4).2.1
  have hn12 := (numAt_bd hok.1 12).2.2
  have hn16 := (numAt_bd hok.1 16).2.2
  have hcap := hok.2.1
  obtain ⟨pa, c, zs⟩ := pt
  simp only at *
  subst ha
  have HS : Hid (∀ w' : World, Below w.heap.size w w' → Calls Try.prog 18 #[.slice (some ⟨b, o, none⟩) 20 c] w' fun e w'' => e = .returned (.int .u16 (sumOf (zs.take 20))) ∧ Below w'.heap.size w' w'') := fun w' hb => by
    have hsub := Part.sub_ok (Part.ok_below hok hb) 0 20 c (by omega) (by omega)
    have := refSumOf_any _ w' hsub (by simp; omega)
    simp only [Part.val, Nat.add_zero, List.drop_zero, List.length_take, Nat.min_eq_left h20] at this
    exact this
  have hblt : b < w.heap.size := World.block_lt_of_cell? w _ (hc 0 (by omega))
  have HC : Hid (∀ w' : World, Below w.heap.size w w' → w'.cell? ⟨b, o, none⟩ = some (.int .u8 (zs.getD 0 0)) ∧ w'.cell? ⟨b, o + 1, none⟩ = some (.int .u8 (zs.getD 1 0)) ∧ w'.cell? ⟨b, o + 8, none⟩ = some (.int .u8 (zs.getD 8 0)) ∧ w'.cell? ⟨b, o + 9, none⟩ = some (.int .u8 (zs.getD 9 0))) := fun w' hb =>
    ⟨(hb.cell (p := ⟨b, o, none⟩) hblt).trans (hc 0 (by omega)), (hb.cell (p := ⟨b, o + 1, none⟩) hblt).trans (hc 1 (by omega)), (hb.cell (p := ⟨b, o + 8, none⟩) hblt).trans (hc 8 (by omega)), (hb.cell (p := ⟨b, o + 9, none⟩) hblt).trans (hc 9 (by omega))⟩
  have HF0 : Hid (∀ w' : World, Below (w.heap.size + 1) (w.alloc (.cells #[.int .i64 0, .int .i64 0, .int .i64 0, .int .i64 0, .bool false, .int .u32 0, .int .u32 0] 27)) w' → w'.heap[w.heap.size]? = some (.cells #[.int .i64 0, .int .i64 0, .int .i64 0, .int .i64 0, .bool false, .int .u32 0, .int .u32 0] 27 (0, 0)) ∧ Below w.heap.size w w') := fun w' hb => ⟨(hb.block _ (by omega)).trans (heap_new w _), (bpush (Below.refl _ w) _).trans (hb.mono (by omega))⟩
  have HB0 : Hid (Below w.heap.size w (w.alloc (.cells #[.int .i64 0, .int .i64 0, .int .i64 0, .int .i64 0, .bool false, .int .u32 0, .int .u32 0] 27))) := bpush (Below.refl _ w) _
  have cA := (HC.out _ HB0.out).1
  have hfin : zs.getD 0 0 / 16 = 4 ∧ zs.getD 0 0 % 16 = 5 ∧ ¬ numAt zs 2 2 < 20 ∧ ¬ (zs.length : Int) < numAt zs 2 2 ∧ sumOf (zs.take 20) = 0 ∧ ¬ numAt zs 6 2 / 8192 % 2 = 1 ∧ numAt zs 6 2 % 8192 = 0 ∧ ¬ zs.getD 8 0 = 0 := by
    rcases hcs with ⟨e, c1⟩ | ⟨e, c1, c2⟩ | ⟨e, c1, c3⟩ | ⟨e, c1, c2, c3⟩ | ⟨e, c1, c2, c3, c4⟩ | ⟨-, c1, c2, c3, c4, ⟨e, c5⟩ | ⟨c5, ⟨e, c6⟩ | ⟨e, c6, c7⟩ | ⟨c6, c7, ⟨e, c8⟩ | ⟨e, c8⟩⟩⟩⟩
    all_goals first | (exfalso; omega) | exact ⟨c1, c2, c3, c4, c5, c6, c7, c8⟩
  obtain ⟨f1, f2, f3, f4, f5, f6, f7, f8⟩ := hfin
  obtain ⟨M, hM⟩ := Int.eq_ofNat_of_zero_le (show 0 ≤ numAt zs 2 2 by omega)
  have HPO : Hid (∀ w', Below w.heap.size w w' → Part.ok w' ⟨some ⟨b, o + 20, none⟩, c - 20, (zs.drop 20).take (M - 20)⟩) := fun w' hb => Part.sub_ok (Part.ok_below hok hb) 20 (M - 20) (c - 20) (by omega) (by omega)
  have HPL : Hid (((zs.drop 20).take (M - 20)).length = M - 20) := by unfold Hid; simp; omega
  have HPP : Hid ((decP zs).val = .agg #[.int .i64 (zs.getD 1 0), .int .i64 (numAt zs 4 2), .int .i64 (zs.getD 8 0), .int .i64 (zs.getD 9 0), .bool (keepB (numAt zs 6 2)), .int .u32 (numAt zs 12 4), .int .u32 (numAt zs 16 4)]) := by
    unfold Hid decP Ip.val
    simp only [numAt_one]
  rw [HPP.out, hM]
  rw [hM] at N1 f3 f4 hnL
  simp only [Int.toNat_natCast]
  have HKB : Hid (keepB (numAt zs 6 2) = decide (numAt zs 6 2 / 16384 % 2 = 1)) := rfl
  clear hM HPP hcs hE
  unfold Part.val at *
  simp only at *
  generalize keepB (numAt zs 6 2) = KB at *
  generalize zs.getD 0 0 = z0 at *
  generalize zs.getD 1 0 = z1 at *
  generalize zs.getD 8 0 = z8 at *
  generalize zs.getD 9 0 = z9 at *
  generalize numAt zs 6 2 = FN at *
  generalize numAt zs 4 2 = N4 at *
  generalize numAt zs 12 4 = N12 at *
  generalize numAt zs 16 4 = N16 at *
  generalize sumOf (zs.take 20) = SU at *
  obtain ⟨K, hK⟩ : ∃ K, M - 20 = K := ⟨_, rfl⟩
  rw [hK] at HPO HPL ⊢
  generalize (zs.drop 20).take K = ZZ at *
  generalize zs.length = l at *
  subst f5
  clear hok hc
  have l20 : ¬ (l : Int) < 20 := by omega
  have l0 : (0 : Int) < (l : Int) := by omega
  have l1 : (1 : Int) < (l : Int) := by omega
  have l8 : (8 : Int) < (l : Int) := by omega
  have l9 : (9 : Int) < (l : Int) := by omega
  have c20 : (20 : Int) ≤ (c : Int) := by omega
  have t1 : Int.tmod z0 16 = z0 % 16 := Int.tmod_eq_emod_of_nonneg (by omega)
  have t2 : Int.tdiv z0 16 = z0 / 16 := Int.tdiv_eq_ediv_of_nonneg (by omega)
  have t3 : Int.tdiv FN 8192 = FN / 8192 := Int.tdiv_eq_ediv_of_nonneg (by omega)
  have t4 : Int.tmod (FN / 8192) 2 = FN / 8192 % 2 := Int.tmod_eq_emod_of_nonneg (by omega)
  have t5 : Int.tmod FN 8192 = FN % 8192 := Int.tmod_eq_emod_of_nonneg (by omega)
  have t6 : Int.tdiv FN 16384 = FN / 16384 := Int.tdiv_eq_ediv_of_nonneg (by omega)
  have t7 : Int.tmod (FN / 16384) 2 = FN / 16384 % 2 := Int.tmod_eq_emod_of_nonneg (by omega)
  have k12 : IntKind.u32.wrap N12 = N12 := by simp only [IntKind.wrap_u32]; omega
  have k16 : IntKind.u32.wrap N16 = N16 := by simp only [IntKind.wrap_u32]; omega
  have q1 : (z0 / 16 != 4) = false := by simpa using f1
  have q2 : ¬ 5 < z0 % 16 := by omega
  have q3 : ¬ z0 % 16 < 5 := by omega
  have q5 : (FN / 8192 % 2 == 1) = false := by simpa using f6
  have q6 : (FN % 8192 != 0) = false := by simpa using f7
  have q8 : (z8 == 0) = false := by simpa using f8
  have q9 : (FN / 16384 % 2 == 1) = KB := by rw [HKB.out]; by_cases h : FN / 16384 % 2 = 1 <;> simp [h]
  have kz1 : IntKind.i64.wrap z1 = z1 := by simp only [IntKind.wrap_i64]; omega
  have kz8 : IntKind.i64.wrap z8 = z8 := by simp only [IntKind.wrap_i64]; omega
  have kz9 : IntKind.i64.wrap z9 = z9 := by simp only [IntKind.wrap_i64]; omega
  have kfn : IntKind.i64.wrap (FN / 16384) = FN / 16384 := by simp only [IntKind.wrap_i64]; omega
  have m20 : (20 : Int) ≤ (M : Int) := by omega
  have mc : (M : Int) ≤ (c : Int) := by omega
  clear f1 f2 f6 f7 f8 HKB
  go_enter Try.func15, Try.ntmps15
  go_wp2_with fail
  refine (N1.out _ HB0.out).mono ?_
  rintro e w1 ⟨rfl, hw⟩
  subst w1
  go_wp2_with fail
  refine (HS.out _ HB0.out).mono ?_
  rintro e w1 ⟨rfl, hb1⟩
  rw [World.size_alloc] at hb1
  have HF1 := hid (HF0.out _ hb1)
  clear hb1
  go_wp2_with fail
  refine (N2.out _ HF1.out.2).mono ?_
  rintro e w2 ⟨rfl, hw⟩
  subst w2
  obtain ⟨cB0, cB1, cB8, cB9⟩ := HC.out _ HF1.out.2
  clear cA
  have HC1 : Hid (∀ ob : Obj, (fun w' => w'.cell? ⟨b, o + 1, none⟩ = some (.int .u8 z1) ∧ w'.cell? ⟨b, o + 8, none⟩ = some (.int .u8 z8) ∧ w'.cell? ⟨b, o + 9, none⟩ = some (.int .u8 z9)) (w1.alloc ob).drew) := fun ob => by
    have h := HC.out _ (bpush HF1.out.2 ob).drew
    exact ⟨h.2.1, h.2.2.1, h.2.2.2⟩
  go_wp2_with fail
  apply cut2 (H := fun V gp => Hid (V.heap[w.heap.size]? = some (.cells #[.int .i64 0, .int .i64 0, .int .i64 0, .int .i64 0, .bool false, .int .u32 0, .int .u32 0] 27 (0, 0)) ∧ V.heap[gp]? = some (.cells #[.int .i64 z1, .int .i64 N4, .int .i64 z8, .int .i64 z9, .bool KB, .int .u32 N12, .int .u32 N16] 27 (0, 0)) ∧ w.heap.size < gp ∧ Below w.heap.size w V))
  · intro hcut
    go_region_held3 (fun w' => w'.cell? ⟨b, o + 1, none⟩ = some (.int .u8 z1) ∧ w'.cell? ⟨b, o + 8, none⟩ = some (.int .u8 z8) ∧ w'.cell? ⟨b, o + 9, none⟩ = some (.int .u8 z9)) (first | assumption | exact HC1.out _ | go_keep) (first
      | (go_at_call 24; (with_reducible refine (N3.out _ HF1.out.2.drew).mono ?_); rintro e w' ⟨rfl, hw⟩; subst w')
      | (go_at_call 24; (with_reducible refine (N3.out _ (bpush HF1.out.2 _).drew).mono ?_); rintro e w' ⟨rfl, hw⟩; subst w')
      | (go_at_call 24; (with_reducible refine (N4c.out _ HF1.out.2.drew).mono ?_); rintro e w' ⟨rfl, hw⟩; subst w')
      | (go_at_call 24; (with_reducible refine (N4c.out _ (bpush HF1.out.2 _).drew).mono ?_); rintro e w' ⟨rfl, hw⟩; subst w')
      | (go_at_call 24; (with_reducible refine (N5c.out _ HF1.out.2.drew).mono ?_); rintro e w' ⟨rfl, hw⟩; subst w')
      | (go_at_call 24; (with_reducible refine (N5c.out _ (bpush HF1.out.2 _).drew).mono ?_); rintro e w' ⟨rfl, hw⟩; subst w')
      | fail)
    all_goals
      have hh : Hid ((w1.alloc (.cells #[.int .i64 z1, .int .i64 N4, .int .i64 z8, .int .i64 z9, .bool KB, .int .u32 N12, .int .u32 N16] 27)).drew.heap[w.heap.size]? = some (.cells #[.int .i64 0, .int .i64 0, .int .i64 0, .int .i64 0, .bool false, .int .u32 0, .int .u32 0] 27 (0, 0)) ∧ (w1.alloc (.cells #[.int .i64 z1, .int .i64 N4, .int .i64 z8, .int .i64 z9, .bool KB, .int .u32 N12, .int .u32 N16] 27)).drew.heap[w1.heap.size]? = some (.cells #[.int .i64 z1, .int .i64 N4, .int .i64 z8, .int .i64 z9, .bool KB, .int .u32 N12, .int .u32 N16] 27 (0, 0)) ∧ w.heap.size < w1.heap.size ∧ Below w.heap.size w (w1.alloc (.cells #[.int .i64 z1, .int .i64 N4, .int .i64 z8, .int .i64 z9, .bool KB, .int .u32 N12, .int .u32 N16] 27)).drew) := ⟨(heap_old w1 _ (heap_lt HF1.out.1)).trans HF1.out.1, heap_new w1 _, heap_lt HF1.out.1, (bpush HF1.out.2 _).drew⟩
      generalize (w1.alloc (.cells #[.int .i64 z1, .int .i64 N4, .int .i64 z8, .int .i64 z9, .bool KB, .int .u32 N12, .int .u32 N16] 27)).drew = V at hh ⊢
      generalize w1.heap.size = gp at hh ⊢
      exact hcut V gp hh
  intro V gp HV
  clear HC1 HF1 cB0 cB1 cB8 cB9 N1 N2 N3 N4c N5c HS
  have cg : ∀ q, V.cell? ⟨gp, q, none⟩ = (#[.int .i64 z1, .int .i64 N4, .int .i64 z8, .int .i64 z9, .bool KB, .int .u32 N12, .int .u32 N16] : Array Value)[q]? := fun q => cell_of_heap HV.out.2.1 q
  by_cases hc20 : c = 20
  · subst hc20
    have hK0 : K = 0 := by omega
    subst hK0
    have hM : M = 20 := by omega
    subst hM
    have HZ : Hid (ZZ = []) := List.eq_nil_of_length_eq_zero HPL.out
    obtain ⟨a5, c5, w5, hr5, hrow5, hb5, hf5⟩ := append_nil_part ⟨some ⟨b, o, none⟩, 0, []⟩ V ⟨by simp, by simp, Or.inl rfl⟩ (by simp) 28
    simp only [Part.val, List.length_nil] at hr5 hrow5 hf5
    rw [← HZ.out] at hrow5
    have HR5 := hid hr5
    have HVS : Hid (w.heap.size < V.heap.size) := heap_lt HV.out.1
    have HA5 : Hid (∀ w', But w.heap.size w5 w' → Ans w w' ZZ a5 0 c5) := fun w' hb => ⟨hrow5.but hb (fun b hb' => by have := hf5 b hb'; have := HVS.out; omega), fun b hb' => by have := hf5 b hb'; have := HVS.out; omega, bbut (bstep HV.out.2.2.2 hb5) hb (Nat.le_refl _)⟩
    have HG5 := hid (kept HV.out.1 hb5)
    have HP5 := hid (kept HV.out.2.1 hb5)
    clear hr5 hrow5 hb5 hf5 HV cg
    go_wp2_with (first
      | (at_builtin; refine wpList_append_run _ rfl _ _ 28 28 rfl _ _ rfl rfl HR5.out ?_)
      | (refine wpList_load_row rfl 27 _ rfl gp rfl 27 #[.int .i64 z1, .int .i64 N4, .int .i64 z8, .int .i64 z9, .bool KB, .int .u32 N12, .int .u32 N16] (0, 0) _ (by exact HP5.out) Try.underlying27 rfl (by kernel_rfl) ?_)
      | (refine wpList_store_row rfl 27 _ _ rfl w.heap.size #[.int .i64 z1, .int .i64 N4, .int .i64 z8, .int .i64 z9, .bool KB, .int .u32 N12, .int .u32 N16] rfl rfl 27 _ HG5.out (by kernel_rfl) rfl (by first | kernel_rfl | simp [Value.oneCell']) ?_)
      | fail)
    refine bodyPost_ret (v := .tuple #[.agg #[.int .i64 z1, .int .i64 N4, .int .i64 z8, .int .i64 z9, .bool KB, .int .u32 N12, .int .u32 N16], .slice a5 0 c5, .int .i64 0]) ?_ (by rfl) ⟨_, _, _, rfl, HA5.out _ (But.setRow _ _ _)⟩
    exact results_row12 Try.results15 _ _ w.heap.size 27 _ (0, 0) _ _ _ rfl rfl rfl (setRow_heap _ _ _ _ _ _ HG5.out) Try.underlying27 rfl (by kernel_rfl)
  · obtain ⟨a5, c5, w5, hr5, hrow5, hb5, hf5⟩ := append_nil_part ⟨some ⟨b, o + 20, none⟩, c - 20, ZZ⟩ V (HPO.out _ HV.out.2.2.2) (by simp only [HPL.out]; omega) 28
    simp only [Part.val, HPL.out] at hr5 hrow5 hf5
    have HR5 := hid hr5
    have HVS : Hid (w.heap.size < V.heap.size) := heap_lt HV.out.1
    have HA5 : Hid (∀ w', But w.heap.size w5 w' → Ans w w' ZZ a5 K c5) := fun w' hb => ⟨hrow5.but hb (fun b hb' => by have := hf5 b hb'; have := HVS.out; omega), fun b hb' => by have := hf5 b hb'; have := HVS.out; omega, bbut (bstep HV.out.2.2.2 hb5) hb (Nat.le_refl _)⟩
    have HG5 := hid (kept HV.out.1 hb5)
    have HP5 := hid (kept HV.out.2.1 hb5)
    clear hr5 hrow5 hb5 hf5 HV cg
    go_wp2_with (first
      | (at_builtin; refine wpList_append_run _ rfl _ _ 28 28 rfl _ _ rfl rfl HR5.out ?_)
      | (refine wpList_load_row rfl 27 _ rfl gp rfl 27 #[.int .i64 z1, .int .i64 N4, .int .i64 z8, .int .i64 z9, .bool KB, .int .u32 N12, .int .u32 N16] (0, 0) _ (by exact HP5.out) Try.underlying27 rfl (by kernel_rfl) ?_)
      | (refine wpList_store_row rfl 27 _ _ rfl w.heap.size #[.int .i64 z1, .int .i64 N4, .int .i64 z8, .int .i64 z9, .bool KB, .int .u32 N12, .int .u32 N16] rfl rfl 27 _ HG5.out (by kernel_rfl) rfl (by first | kernel_rfl | simp [Value.oneCell']) ?_)
      | fail)
    refine bodyPost_ret (v := .tuple #[.agg #[.int .i64 z1, .int .i64 N4, .int .i64 z8, .int .i64 z9, .bool KB, .int .u32 N12, .int .u32 N16], .slice a5 K c5, .int .i64 0]) ?_ (by rfl) ⟨_, _, _, rfl, HA5.out _ (But.setRow _ _ _)⟩
    exact results_row12 Try.results15 _ _ w.heap.size 27 _ (0, 0) _ _ _ rfl rfl rfl (setRow_heap _ _ _ _ _ _ HG5.out) Try.underlying27 rfl (by kernel_rfl)
/-- the document's Decode, of any bytes. -/
theorem refDecode_u (pt : Part) (w : World) (hok : pt.ok w) (hl : pt.zs.length ≤ 140737488351232) :
    Calls Try.prog 15 #[pt.val] w fun e w' => ∃ a n c, e = .returned (.tuple #[(decA pt.zs).val, .slice a n c, .int .i64 (decE pt.zs)]) ∧ Ans w w' (decD pt.zs) a n c := by
  unfold decA decD
  by_cases h1 : pt.zs.length < 20
  · have e1 : lenE pt.zs = 5 := by unfold lenE; rw [if_pos h1]
    have e : decE pt.zs = 5 := by unfold decE; rw [e1, if_neg (by decide)]
    rw [e, if_neg (by decide), if_neg (by decide)]
    exact (refDecode_short _ _ _ w h1).mono fun e w' ⟨he, hb⟩ => ⟨_, _, _, he, ans_nil hb⟩
  · by_cases h2 : decE pt.zs = 0
    · rw [if_pos h2, if_pos h2, h2]
      exact refDecode_ok pt w hok (by omega) hl h2
    · rw [if_neg h2, if_neg h2]
      exact (refDecode_bad pt w hok (by omega) hl h2).mono fun e w' ⟨he, hb⟩ => ⟨_, _, _, he, ans_nil hb⟩
end Go.Proofs.Ytccmkljbedddiaa
