/-
  inet.Decode of what it takes.
-/
import Derived.Test.YtccmkljbedddiaaIDecW
namespace Go.Proofs.Ytccmkljbedddiaa
open Go.RowKit
set_option linter.all false

theorem splice_all (L X : List Int) (h : L.length = X.length) : splice L 0 X = X := by
  unfold splice
  rw [List.take_zero, List.nil_append, List.drop_eq_nil_of_le (by omega), List.append_nil]
set_option maxRecDepth 20000 in
set_option maxHeartbeats 2000000 in
theorem decode_ok (pt : Part) (w : World) (hok : pt.ok w) (hl : pt.zs.length ≤ 281474976710656) (hE : lenE pt.zs = 0) (hS : sumOf (pt.zs.take 20) = 0) (hF : fldE pt.zs = 0) :
    Calls Try.prog 16 #[pt.val] w fun e w' => ∃ g n, e = .returned (.tuple #[(decP pt.zs).val, .slice (some ⟨g, 0, none⟩) n n, .int .i64 0]) ∧ n = (numAt pt.zs 2 2).toNat - 20 ∧ w.heap.size ≤ g ∧ w'.heap[g]? = some (.cells (u8s ((pt.zs.drop 20).take n)).toArray 5 (0, 0)) ∧ Below w.heap.size w w' := by
  have hmf : ∀ (fn : Fn) (first cap : Array Value) (w : World), (Instr.makeFunc fn first cap).run Try.prog w = .ok (.func fn first cap) w := fun _ _ _ _ => rfl
  have HYes := hid @need_yes
  have HRF : Hid (∀ w' : World, Below w.heap.size w w' → Calls Try.prog 28 #[pt.val] w' fun e w'' => e = .returned (decP pt.zs).val ∧ Below w'.heap.size w' w'') := fun w' hb => (readFields_any pt w' (Part.ok_below hok hb) hl (lenE_len hE).1).mono fun e w'' ⟨he, hw⟩ => ⟨by rw [he, upE, if_pos hF], hw⟩
  obtain ⟨h20, hn0, hn1⟩ := lenE_len hE
  have HL : Hid (∀ w' : World, Below w.heap.size w w' → Calls Try.prog 26 #[pt.val] w' fun e w'' => e = .returned (.int .i64 (numAt pt.zs 2 2)) ∧ w'' = w') := fun w' hb => (readLength_any pt w' (Part.ok_below hok hb) hl).mono fun e w'' ⟨he, hw⟩ => ⟨by rw [he, upE, if_pos hE], hw⟩
  obtain ⟨b, o, ha⟩ : ∃ b o, pt.a = some ⟨b, o, none⟩ := by
    rcases hok.2.2 with he | ⟨b, o, ha, _⟩
    · rw [he] at h20; simp at h20
    · exact ⟨b, o, ha⟩
  have hcap := hok.2.1
  obtain ⟨pa, c, zs⟩ := pt
  simp only at *
  subst ha
  have HS : Hid (∀ (w' : World) (g : Nat), Below w.heap.size w w' → w'.cell? ⟨g, 0, none⟩ = some (.slice (some ⟨b, o, none⟩) 20 c) → Calls Try.prog 22 #[.slice (some ⟨g, 0, none⟩) 1 1] w' fun e w'' => e = .returned (.int .u16 (sumOf (zs.take 20))) ∧ w'' = w') := fun w' g hb hc => by
    have hsub := Part.sub_ok (Part.ok_below hok hb) 0 20 c (by omega) (by omega)
    have := sum_one g ⟨some ⟨b, o + 0, none⟩, c, (zs.drop 0).take 20⟩ w' (by rw [hc]; simp [Part.val]; omega) hsub (by simp; omega)
    simpa using this
  have H0 := hid (decI_first w #[.int .i64 0, .int .i64 0, .int .i64 0, .int .i64 0, .bool false, .int .u32 0, .int .u32 0] (.slice none 0 0))
  obtain ⟨M, hM⟩ := Int.eq_ofNat_of_zero_le (show 0 ≤ numAt zs 2 2 by omega)
  rw [hM] at HL hn0 hn1 ⊢
  simp only [Int.toNat_natCast] at *
  clear hM
  obtain ⟨K, hK⟩ : ∃ K, M - 20 = K := ⟨_, rfl⟩
  have HPO : Hid (∀ w', Below w.heap.size w w' → Part.ok w' ⟨some ⟨b, o + 20, none⟩, c - 20, (zs.drop 20).take K⟩) := fun w' hb => Part.sub_ok (Part.ok_below hok hb) 20 K (c - 20) (by omega) (by omega)
  have HKL : Hid (((zs.drop 20).take K).length = K) := by unfold Hid; simp; omega
  have hmk : ∀ wx : World, (Instr.makeSlice 28 (.int .i64 (K : Int)) (.int .i64 (K : Int))).run Try.prog wx = .ok (.slice (some ⟨wx.heap.size, 0, none⟩) K K) (wx.alloc (.cells (u8s (List.replicate K 0)).toArray 5)) := fun wx => by
    have := Go.run_make_row' (P := Try.prog) 28 5 (.int .u8 0) 1 Try.underlying28 infoU8 rfl .i64 .i64 K (by omega) (by omega) wx
    rw [made_eq] at this
    exact this
  have hsub : IntKind.i64.wrap ((M : Int) - 20) = (K : Int) := by simp only [IntKind.wrap_i64]; omega
  clear hok hE
  unfold Part.val at *
  simp only at *
  rw [hK]
  generalize hZZ : (zs.drop 20).take K = ZZ at *
  have HZZ := hid hZZ
  generalize sumOf (zs.take 20) = SU at *
  subst hS
  generalize hPP : decP zs = PP at *
  clear hPP hZZ hF
  generalize zs.length = l at *
  have c20 : (20 : Int) ≤ (c : Int) := by omega
  have m20 : (20 : Int) ≤ (M : Int) := by omega
  have mc : (M : Int) ≤ (c : Int) := by omega
  obtain ⟨p1, p2, p3, p4, p5, p6, p7⟩ := PP
  simp only [Ip.val] at *
  go_enter_defers Try.func16, Try.ntmps16
  go_wp2_with fail
  refine (HL.out _ H0.out.2.2.2).mono ?_
  rintro e w1 ⟨rfl, hw⟩
  subst w1
  generalize hW : World.alloc _ (.cells #[.int .i64 0] 23) = W at *
  clear hW
  go_wp2_with fail
  refine (HS.out _ W.heap.size (bpush H0.out.2.2.2 _) (by simp [go_sem])).mono ?_
  rintro e w1 ⟨rfl, hw⟩
  subst w1
  have H1 := hid (decI_below H0.out (bpush (Below.refl _ _) (.cells #[.slice (some ⟨b, o, none⟩) 20 c] 28)))
  generalize hW2 : W.alloc _ = W2 at *
  clear hW2 H0
  go_wp2_with (first
    | (go_at_call 27; (with_reducible refine (HYes.out _ _).mono ?_); rintro e w1 ⟨rfl, hw⟩; subst w1) | fail)
  refine (HRF.out _ H1.out.2.2.2).mono ?_
  rintro e w2 ⟨rfl, hb⟩
  have H2 := hid (decI_below H1.out hb)
  clear hb H1
  go_wp2_with (first
    | (refine wpList_store_row rfl 27 _ _ rfl w.heap.size #[.int .i64 p1, .int .i64 p2, .int .i64 p3, .int .i64 p4, .bool p5, .int .u32 p6, .int .u32 p7] rfl rfl 27 _ H2.out.1 (by kernel_rfl) rfl (by first | kernel_rfl | simp [Value.oneCell']) ?_
       have H3 := hid (decI_head H2.out (setRow_heap w2 w.heap.size _ #[.int .i64 p1, .int .i64 p2, .int .i64 p3, .int .i64 p4, .bool p5, .int .u32 p6, .int .u32 p7] 27 _ H2.out.1) (But.setRow w.heap.size w2 _))
       generalize w2.setRow w.heap.size _ = W3 at *
       have hcd : W3.cell? ⟨w.heap.size + 1, 0, none⟩ = some (.slice none 0 0) := cell_of_heap H3.out.2.1 0
       have hfd : W3.frozen? ⟨w.heap.size + 1, 0, none⟩ = false := frozen_of_heap H3.out.2.1 0
       have hld : w.heap.size + 1 < W3.heap.size := heap_lt H3.out.2.1) | fail)
  have H4 : Hid (DecI w #[.int .i64 p1, .int .i64 p2, .int .i64 p3, .int .i64 p4, .bool p5, .int .u32 p6, .int .u32 p7] (.slice (some ⟨W3.heap.size, 0, none⟩) K K) ((W3.setCell ⟨w.heap.size + 1, 0, none⟩ (.slice (some ⟨W3.heap.size, 0, none⟩) K K)).alloc (.cells (u8s (List.replicate K 0)).toArray 5))) :=
    decI_below (decI_data H3.out (by have := heap_setCell (j := 0) (v := .slice (some ⟨W3.heap.size, 0, none⟩) K K) H3.out.2.1; simpa using this) (But.setCell _ _ _ _)) (bpush (Below.refl _ _) _)
  have HG : Hid (((W3.setCell ⟨w.heap.size + 1, 0, none⟩ (.slice (some ⟨W3.heap.size, 0, none⟩) K K)).alloc (.cells (u8s (List.replicate K 0)).toArray 5)).heap[W3.heap.size]? = some (.cells (u8s (List.replicate K 0)).toArray 5 (0, 0))) := by
    have := heap_new (W3.setCell ⟨w.heap.size + 1, 0, none⟩ (.slice (some ⟨W3.heap.size, 0, none⟩) K K)) (.cells (u8s (List.replicate K 0)).toArray 5)
    have e : (W3.setCell ⟨w.heap.size + 1, 0, none⟩ (.slice (some ⟨W3.heap.size, 0, none⟩) K K)).heap.size = W3.heap.size := by simp [World.setCell]
    rw [e] at this
    exact this
  have HGM : Hid (w.heap.size + 3 ≤ W3.heap.size) := heap_lt H3.out.2.2.1
  generalize (W3.setCell ⟨w.heap.size + 1, 0, none⟩ (.slice (some ⟨W3.heap.size, 0, none⟩) K K)).alloc (.cells (u8s (List.replicate K 0)).toArray 5) = W4 at *
  clear hcd hfd hld H3 H2
  generalize W3.heap.size = gm at *
  have hcd : W4.cell? ⟨w.heap.size + 1, 0, none⟩ = some (.slice (some ⟨gm, 0, none⟩) K K) := cell_of_heap H4.out.2.1 0
  have HSK : Hid (∀ w' : World, DecI w #[.int .i64 p1, .int .i64 p2, .int .i64 p3, .int .i64 p4, .bool p5, .int .u32 p6, .int .u32 p7] (.slice (some ⟨gm, 0, none⟩) K K) w' → (∀ q, w'.cell? ⟨w.heap.size, q, none⟩ = (#[.int .i64 p1, .int .i64 p2, .int .i64 p3, .int .i64 p4, .bool p5, .int .u32 p6, .int .u32 p7] : Array Value)[q]?) ∧ w'.cell? ⟨w.heap.size + 1, 0, none⟩ = some (.slice (some ⟨gm, 0, none⟩) K K)) := fun w' h => ⟨fun q => cell_of_heap h.1 q, cell_of_heap h.2.1 0⟩
  by_cases hk0 : K = 0
  · have hM20 : M = 20 := by omega
    subst hk0 hM20
    have HZ0 : Hid (ZZ = []) := List.eq_nil_of_length_eq_zero HKL.out
    have hcp : ∀ (wx : World) (ty : TypeId) (a : Option Addr) (n : Nat), (Builtin.copy_ #[28, 28] ty #[.slice (some ⟨gm, 0, none⟩) 0 0, .slice a 0 n]).run Try.prog wx = .ok (goInt 0) wx := fun wx ty a n => run_copy_none wx _ _ _ 5 _ _ _ _ _ _ Try.underlying28 sizeU8 (by simp)
    by_cases hc20 : c = 20
    · subst hc20
      go_region_held3 (fun w' => w'.cell? ⟨w.heap.size + 1, 0, none⟩ = some (.slice (some ⟨gm, 0, none⟩) 0 0)) (first | assumption | go_keep) (first | fail)
      have H5 := hid (decI_below H4.out (Below.refl _ _).drew)
      have HG5 : Hid (W4.drew.heap[gm]? = some (.cells (u8s ZZ).toArray 5 (0, 0))) := by rw [HZ0.out]; exact HG.out
      generalize W4.drew = W5 at *
      go_wp2
      refine wp_region_noPanic ?_
      refine wp_region_held_drew (S := fun w' => (∀ q, w'.cell? ⟨w.heap.size, q, none⟩ = (#[.int .i64 p1, .int .i64 p2, .int .i64 p3, .int .i64 p4, .bool p5, .int .u32 p6, .int .u32 p7] : Array Value)[q]?) ∧ w'.cell? ⟨w.heap.size + 1, 0, none⟩ = some (.slice (some ⟨gm, 0, none⟩) 0 0)) (by kernel_rfl) (HSK.out _ (decI_below H5.out (Below.refl _ _).drew)) (fun hHeld => ?_)
      refine wpAnyH_take (i := 0) (oi := { dst := some 25, op := .load 27 (.tmp 2), type := _, pos := _, after := _, guard := none }) (v := .agg #[.int .i64 p1, .int .i64 p2, .int .i64 p3, .int .i64 p4, .bool p5, .int .u32 p6, .int .u32 p7]) rfl (by kernel_rfl) (by kernel_rfl) (by kernel_rfl) (fun _ _ _ h => h) (Or.inl ⟨by rfl, fun wq hSw => by (try dsimp only at hSw); obtain ⟨hs1, hs2⟩ := hSw; go_simp⟩) (by assumption) ?_
      try simp only [Act.put, List.setIfInBounds_toArray, List.set_cons_zero, List.set_cons_succ]
      refine wpAnyH_take (i := 1) (oi := { dst := some 26, op := .load 28 (.tmp 3), type := _, pos := _, after := _, guard := none }) (v := .slice (some ⟨gm, 0, none⟩) 0 0) rfl (by kernel_rfl) (by kernel_rfl) (by kernel_rfl) (fun _ _ _ h => h) (Or.inl ⟨by rfl, fun wq hSw => by (try dsimp only at hSw); obtain ⟨hs1, hs2⟩ := hSw; go_simp⟩) (by assumption) ?_
      try simp only [Act.put, List.setIfInBounds_toArray, List.set_cons_zero, List.set_cons_succ]
      refine wpAnyH_ready (rs := [2]) (by kernel_rfl) (by simp) ?_
      refine AllReadyH.cons (o := { dst := none, op := .store 27 (.tmp 2) (.tmp 25), type := _, pos := _, after := _, guard := none }) rfl (fun KQ hK => ?_) AllReadyH.nil
      refine step_store_row rfl 27 _ _ rfl w.heap.size #[.int .i64 p1, .int .i64 p2, .int .i64 p3, .int .i64 p4, .bool p5, .int .u32 p6, .int .u32 p7] rfl rfl 27 _ (show W5.drew.heap[w.heap.size]? = _ from H5.out.1) (by kernel_rfl) rfl (by first | kernel_rfl | simp [Value.oneCell']) ?_
      intro w6 hg6 hb6
      have H6 := hid (decI_head (decI_below H5.out (Below.refl _ _).drew) hg6.out hb6.out)
      refine hK.out _ _ (HSK.out _ H6.out) (fun hHeld => ?_)
      clear hK
      try simp only [Act.put, List.setIfInBounds_toArray, List.set_cons_zero, List.set_cons_succ]
      refine wpAnyH_ready (rs := [3]) (by kernel_rfl) (by simp) ?_
      refine AllReadyH.cons (o := { dst := none, op := .store 28 (.tmp 3) (.tmp 26), type := _, pos := _, after := _, guard := none }) rfl (fun KQ hK => ?_) AllReadyH.nil
      refine step_store_one rfl 28 _ _ rfl (w.heap.size + 1) (.slice (some ⟨gm, 0, none⟩) 0 0) _ rfl rfl (fun wx => store_slice _ sizeSl _ _ _ _ _ wx) 28 H6.out.2.1 ?_
      intro w7 hg7 hb7
      have H7 := hid (decI_data H6.out hg7.out hb7.out)
      refine hK.out _ _ (HSK.out _ H7.out) (fun hHeld => ?_)
      clear hK
      try simp only [Act.put, List.setIfInBounds_toArray, List.set_cons_zero, List.set_cons_succ]
      refine wpAnyH_ready (rs := [4]) (by kernel_rfl) (by simp) ?_
      refine AllReadyH.cons (o := { dst := none, op := .store 23 (.tmp 4) (.const (.int .i64 0)), type := _, pos := _, after := _, guard := none }) rfl (fun KQ hK => ?_) AllReadyH.nil
      refine step_store_one rfl 23 _ _ rfl (w.heap.size + 2) (.int .i64 0) _ rfl rfl (fun wx => store_int _ sizeErr _ _ _ _ wx) 23 H7.out.2.2.1 ?_
      intro w8 hg8 hb8
      have H8 := hid (decI_err H7.out hg8.out hb8.out)
      have HG8 := hid (keptBut (keptBut (keptBut (w := W5.drew) HG5.out hb6.out (by have := HGM.out; omega)) hb7.out (by have := HGM.out; omega)) hb8.out (by have := HGM.out; omega))
      refine hK.out _ _ (HSK.out _ H8.out) (fun hHeld => ?_)
      clear hK
      try simp only [Act.put, List.setIfInBounds_toArray, List.set_cons_zero, List.set_cons_succ]
      refine wpAnyH_done (by kernel_rfl) ?_ _
      refine NoPanic.normal ?_
      go_wp2
      exact door_return w _ _ _ _ _ rfl H8.out _ rfl rfl rfl _ ⟨gm, 0, rfl, rfl, by have := HGM.out; omega, by rw [HZZ.out]; exact HG8.out, H8.out.2.2.2⟩
    · go_region_held3 (fun w' => w'.cell? ⟨w.heap.size + 1, 0, none⟩ = some (.slice (some ⟨gm, 0, none⟩) 0 0)) (first | assumption | go_keep) (first | fail)
      have H5 := hid (decI_below H4.out (Below.refl _ _).drew)
      have HG5 : Hid (W4.drew.heap[gm]? = some (.cells (u8s ZZ).toArray 5 (0, 0))) := by rw [HZ0.out]; exact HG.out
      generalize W4.drew = W5 at *
      go_wp2
      refine wp_region_noPanic ?_
      refine wp_region_held_drew (S := fun w' => (∀ q, w'.cell? ⟨w.heap.size, q, none⟩ = (#[.int .i64 p1, .int .i64 p2, .int .i64 p3, .int .i64 p4, .bool p5, .int .u32 p6, .int .u32 p7] : Array Value)[q]?) ∧ w'.cell? ⟨w.heap.size + 1, 0, none⟩ = some (.slice (some ⟨gm, 0, none⟩) 0 0)) (by kernel_rfl) (HSK.out _ (decI_below H5.out (Below.refl _ _).drew)) (fun hHeld => ?_)
      refine wpAnyH_take (i := 0) (oi := { dst := some 25, op := .load 27 (.tmp 2), type := _, pos := _, after := _, guard := none }) (v := .agg #[.int .i64 p1, .int .i64 p2, .int .i64 p3, .int .i64 p4, .bool p5, .int .u32 p6, .int .u32 p7]) rfl (by kernel_rfl) (by kernel_rfl) (by kernel_rfl) (fun _ _ _ h => h) (Or.inl ⟨by rfl, fun wq hSw => by (try dsimp only at hSw); obtain ⟨hs1, hs2⟩ := hSw; go_simp⟩) (by assumption) ?_
      try simp only [Act.put, List.setIfInBounds_toArray, List.set_cons_zero, List.set_cons_succ]
      refine wpAnyH_take (i := 1) (oi := { dst := some 26, op := .load 28 (.tmp 3), type := _, pos := _, after := _, guard := none }) (v := .slice (some ⟨gm, 0, none⟩) 0 0) rfl (by kernel_rfl) (by kernel_rfl) (by kernel_rfl) (fun _ _ _ h => h) (Or.inl ⟨by rfl, fun wq hSw => by (try dsimp only at hSw); obtain ⟨hs1, hs2⟩ := hSw; go_simp⟩) (by assumption) ?_
      try simp only [Act.put, List.setIfInBounds_toArray, List.set_cons_zero, List.set_cons_succ]
      refine wpAnyH_ready (rs := [2]) (by kernel_rfl) (by simp) ?_
      refine AllReadyH.cons (o := { dst := none, op := .store 27 (.tmp 2) (.tmp 25), type := _, pos := _, after := _, guard := none }) rfl (fun KQ hK => ?_) AllReadyH.nil
      refine step_store_row rfl 27 _ _ rfl w.heap.size #[.int .i64 p1, .int .i64 p2, .int .i64 p3, .int .i64 p4, .bool p5, .int .u32 p6, .int .u32 p7] rfl rfl 27 _ (show W5.drew.heap[w.heap.size]? = _ from H5.out.1) (by kernel_rfl) rfl (by first | kernel_rfl | simp [Value.oneCell']) ?_
      intro w6 hg6 hb6
      have H6 := hid (decI_head (decI_below H5.out (Below.refl _ _).drew) hg6.out hb6.out)
      refine hK.out _ _ (HSK.out _ H6.out) (fun hHeld => ?_)
      clear hK
      try simp only [Act.put, List.setIfInBounds_toArray, List.set_cons_zero, List.set_cons_succ]
      refine wpAnyH_ready (rs := [3]) (by kernel_rfl) (by simp) ?_
      refine AllReadyH.cons (o := { dst := none, op := .store 28 (.tmp 3) (.tmp 26), type := _, pos := _, after := _, guard := none }) rfl (fun KQ hK => ?_) AllReadyH.nil
      refine step_store_one rfl 28 _ _ rfl (w.heap.size + 1) (.slice (some ⟨gm, 0, none⟩) 0 0) _ rfl rfl (fun wx => store_slice _ sizeSl _ _ _ _ _ wx) 28 H6.out.2.1 ?_
      intro w7 hg7 hb7
      have H7 := hid (decI_data H6.out hg7.out hb7.out)
      refine hK.out _ _ (HSK.out _ H7.out) (fun hHeld => ?_)
      clear hK
      try simp only [Act.put, List.setIfInBounds_toArray, List.set_cons_zero, List.set_cons_succ]
      refine wpAnyH_ready (rs := [4]) (by kernel_rfl) (by simp) ?_
      refine AllReadyH.cons (o := { dst := none, op := .store 23 (.tmp 4) (.const (.int .i64 0)), type := _, pos := _, after := _, guard := none }) rfl (fun KQ hK => ?_) AllReadyH.nil
      refine step_store_one rfl 23 _ _ rfl (w.heap.size + 2) (.int .i64 0) _ rfl rfl (fun wx => store_int _ sizeErr _ _ _ _ wx) 23 H7.out.2.2.1 ?_
      intro w8 hg8 hb8
      have H8 := hid (decI_err H7.out hg8.out hb8.out)
      have HG8 := hid (keptBut (keptBut (keptBut (w := W5.drew) HG5.out hb6.out (by have := HGM.out; omega)) hb7.out (by have := HGM.out; omega)) hb8.out (by have := HGM.out; omega))
      refine hK.out _ _ (HSK.out _ H8.out) (fun hHeld => ?_)
      clear hK
      try simp only [Act.put, List.setIfInBounds_toArray, List.set_cons_zero, List.set_cons_succ]
      refine wpAnyH_done (by kernel_rfl) ?_ _
      refine NoPanic.normal ?_
      go_wp2
      exact door_return w _ _ _ _ _ rfl H8.out _ rfl rfl rfl _ ⟨gm, 0, rfl, rfl, by have := HGM.out; omega, by rw [HZZ.out]; exact HG8.out, H8.out.2.2.2⟩
  · have hc20 : ¬ c = 20 := by omega
    go_region_held3 (fun w' => w'.cell? ⟨w.heap.size + 1, 0, none⟩ = some (.slice (some ⟨gm, 0, none⟩) K K)) (first | assumption | go_keep) (first
      | (refine step_copy rfl _ _ rfl ⟨some ⟨b, o + 20, none⟩, c - 20, ZZ⟩ gm 0 _ _ (List.replicate K 0) 5 rfl (by show _ = Value.slice _ _ _; rw [HKL.out]; rfl) (by exact HG.out) (by exact HPO.out _ H4.out.2.2.2.drew) (by rw [HKL.out]; omega) (by rw [HKL.out]; simp) ?_; intro W5 hg5 hb5; have H5 := hid (decI_but (decI_below H4.out (Below.refl _ _).drew) HGM.out hb5.out); have hsk := (HSK.out _ H5.out).2)
      | fail)
    have HG5 : Hid (W5.heap[gm]? = some (.cells (u8s ZZ).toArray 5 (0, 0))) := by
      have := hg5.out
      rw [splice_all _ _ (by rw [HKL.out]; simp)] at this
      exact this
    clear hg5 hb5 hsk
    go_wp2
    refine wp_region_noPanic ?_
    refine wp_region_held_drew (S := fun w' => (∀ q, w'.cell? ⟨w.heap.size, q, none⟩ = (#[.int .i64 p1, .int .i64 p2, .int .i64 p3, .int .i64 p4, .bool p5, .int .u32 p6, .int .u32 p7] : Array Value)[q]?) ∧ w'.cell? ⟨w.heap.size + 1, 0, none⟩ = some (.slice (some ⟨gm, 0, none⟩) K K)) (by kernel_rfl) (HSK.out _ (decI_below H5.out (Below.refl _ _).drew)) (fun hHeld => ?_)
    refine wpAnyH_take (i := 0) (oi := { dst := some 25, op := .load 27 (.tmp 2), type := _, pos := _, after := _, guard := none }) (v := .agg #[.int .i64 p1, .int .i64 p2, .int .i64 p3, .int .i64 p4, .bool p5, .int .u32 p6, .int .u32 p7]) rfl (by kernel_rfl) (by kernel_rfl) (by kernel_rfl) (fun _ _ _ h => h) (Or.inl ⟨by rfl, fun wq hSw => by (try dsimp only at hSw); obtain ⟨hs1, hs2⟩ := hSw; go_simp⟩) (by assumption) ?_
    try simp only [Act.put, List.setIfInBounds_toArray, List.set_cons_zero, List.set_cons_succ]
    refine wpAnyH_take (i := 1) (oi := { dst := some 26, op := .load 28 (.tmp 3), type := _, pos := _, after := _, guard := none }) (v := .slice (some ⟨gm, 0, none⟩) K K) rfl (by kernel_rfl) (by kernel_rfl) (by kernel_rfl) (fun _ _ _ h => h) (Or.inl ⟨by rfl, fun wq hSw => by (try dsimp only at hSw); obtain ⟨hs1, hs2⟩ := hSw; go_simp⟩) (by assumption) ?_
    try simp only [Act.put, List.setIfInBounds_toArray, List.set_cons_zero, List.set_cons_succ]
    refine wpAnyH_ready (rs := [2]) (by kernel_rfl) (by simp) ?_
    refine AllReadyH.cons (o := { dst := none, op := .store 27 (.tmp 2) (.tmp 25), type := _, pos := _, after := _, guard := none }) rfl (fun KQ hK => ?_) AllReadyH.nil
    refine step_store_row rfl 27 _ _ rfl w.heap.size #[.int .i64 p1, .int .i64 p2, .int .i64 p3, .int .i64 p4, .bool p5, .int .u32 p6, .int .u32 p7] rfl rfl 27 _ (show W5.drew.heap[w.heap.size]? = _ from H5.out.1) (by kernel_rfl) rfl (by first | kernel_rfl | simp [Value.oneCell']) ?_
    intro w6 hg6 hb6
    have H6 := hid (decI_head (decI_below H5.out (Below.refl _ _).drew) hg6.out hb6.out)
    refine hK.out _ _ (HSK.out _ H6.out) (fun hHeld => ?_)
    clear hK
    try simp only [Act.put, List.setIfInBounds_toArray, List.set_cons_zero, List.set_cons_succ]
    refine wpAnyH_ready (rs := [3]) (by kernel_rfl) (by simp) ?_
    refine AllReadyH.cons (o := { dst := none, op := .store 28 (.tmp 3) (.tmp 26), type := _, pos := _, after := _, guard := none }) rfl (fun KQ hK => ?_) AllReadyH.nil
    refine step_store_one rfl 28 _ _ rfl (w.heap.size + 1) (.slice (some ⟨gm, 0, none⟩) K K) _ rfl rfl (fun wx => store_slice _ sizeSl _ _ _ _ _ wx) 28 H6.out.2.1 ?_
    intro w7 hg7 hb7
    have H7 := hid (decI_data H6.out hg7.out hb7.out)
    refine hK.out _ _ (HSK.out _ H7.out) (fun hHeld => ?_)
    clear hK
    try simp only [Act.put, List.setIfInBounds_toArray, List.set_cons_zero, List.set_cons_succ]
    refine wpAnyH_ready (rs := [4]) (by kernel_rfl) (by simp) ?_
    refine AllReadyH.cons (o := { dst := none, op := .store 23 (.tmp 4) (.const (.int .i64 0)), type := _, pos := _, after := _, guard := none }) rfl (fun KQ hK => ?_) AllReadyH.nil
    refine step_store_one rfl 23 _ _ rfl (w.heap.size + 2) (.int .i64 0) _ rfl rfl (fun wx => store_int _ sizeErr _ _ _ _ wx) 23 H7.out.2.2.1 ?_
    intro w8 hg8 hb8
    have H8 := hid (decI_err H7.out hg8.out hb8.out)
    have HG8 := hid (keptBut (keptBut (keptBut (w := W5.drew) HG5.out hb6.out (by have := HGM.out; omega)) hb7.out (by have := HGM.out; omega)) hb8.out (by have := HGM.out; omega))
    refine hK.out _ _ (HSK.out _ H8.out) (fun hHeld => ?_)
    clear hK
    try simp only [Act.put, List.setIfInBounds_toArray, List.set_cons_zero, List.set_cons_succ]
    refine wpAnyH_done (by kernel_rfl) ?_ _
    refine NoPanic.normal ?_
    go_wp2
    exact door_return w _ _ _ _ _ rfl H8.out _ rfl rfl rfl _ ⟨gm, K, rfl, rfl, by have := HGM.out; omega, by rw [HZZ.out]; exact HG8.out, H8.out.2.2.2⟩
/-- Decode, of any bytes. -/
theorem decode_u (pt : Part) (w : World) (hok : pt.ok w) (hl : pt.zs.length ≤ 281474976710656) :
    Calls Try.prog 16 #[pt.val] w fun e w' => ∃ a n c, e = .returned (.tuple #[(decA pt.zs).val, .slice a n c, .int .i64 (decE pt.zs)]) ∧ Ans w w' (decD pt.zs) a n c := by
  unfold decA decD
  by_cases h1 : lenE pt.zs = 0
  · by_cases h2 : sumOf (pt.zs.take 20) = 0
    · have e : decE pt.zs = fldE pt.zs := by unfold decE; rw [if_pos h1, if_pos h2]
      rw [e]
      by_cases h3 : fldE pt.zs = 0
      · rw [if_pos h3, if_pos h3, h3]
        refine (decode_ok pt w hok hl h1 h2 h3).mono fun e w' ⟨g, n, he, hn, hg, hh, hb⟩ => ⟨_, _, _, he, ?_⟩
        subst hn
        have := lenE_len h1
        exact ans_row (by simp; omega) (by unfold maxLen; omega) hh hg hb
      · rw [if_neg h3, if_neg h3]
        exact (decode_fld pt w hok hl h1 h2 h3).mono fun e w' ⟨he, hb⟩ => ⟨_, _, _, he, ans_nil hb⟩
    · have e : decE pt.zs = 93 := by unfold decE; rw [if_pos h1, if_neg h2]
      rw [e]
      exact (decode_sum pt w hok hl h1 h2).mono fun e w' ⟨he, hb⟩ => ⟨_, _, _, he, ans_nil hb⟩
  · have e : decE pt.zs = lenE pt.zs := by unfold decE; rw [if_neg h1]
    rw [e, if_neg h1, if_neg h1]
    exact (decode_len pt w hok hl h1).mono fun e w' ⟨he, hb⟩ => ⟨_, _, _, he, ans_nil hb⟩
end Go.Proofs.Ytccmkljbedddiaa
