/-
  The document's Decode of what it takes.
-/
import Derived.Test.YtaaoelhmanahpaaARefG
namespace Go.Proofs.Ytaaoelhmanahpaa
open Go.RowKit
set_option linter.all false

theorem cut1 {α : Type} {G : Prop} {H : α → Prop} (P : α → Prop) (h1 : (∀ a, H a → P a) → G) (h2 : ∀ a, H a → P a) : G := h1 h2

set_option maxRecDepth 20000 in
set_option maxHeartbeats 4000000 in
theorem refDecode_ok (pt : Part) (w : World) (hok : pt.ok w) (hl : 28 ≤ pt.zs.length) (hl2 : pt.zs.length ≤ 140737488351232) (hk : decGood pt.zs) :
    Calls Try.prog 42 #[pt.val] w fun e w' => e = .returned (.tuple #[(decP pt.zs).val, .int .i64 0]) ∧ Below w.heap.size w w' := by
  have HH : Hid (∀ w, Calls Try.prog 67 #[] w fun e w' => e = .returned (.slice (some ⟨w.heap.size, 0, none⟩) 6 6) ∧ w' = w.alloc (.cells (u8s kindsM.zs).toArray 5)) := head_any
  obtain ⟨b, o, hpa, hc⟩ : ∃ b o, pt.a = some ⟨b, o, none⟩ ∧ ∀ j, j < pt.zs.length → w.cell? ⟨b, o + j, none⟩ = some (.int .u8 (pt.zs.getD j 0)) := by
    rcases hok.2.2 with he | ⟨b, o, ha', hc⟩
    · rw [he] at hl; simp at hl
    · exact ⟨b, o, ha', hc⟩
  have hcap := hok.2.1
  have hmo := macAt_ok hok.1 0
  have hb6 := getD_mem_bd hok.1 6
  have hb7 := getD_mem_bd hok.1 7
  have c6 := hc 6 (by omega)
  have c7 := hc 7 (by omega)
  have hbl : b < w.heap.size := World.block_lt_of_cell? w _ c6
  have HCV : Hid (∀ w', Below w.heap.size w w' → (convert 40 9 (.slice (some ⟨b, o, none⟩) 6 pt.c)).run Try.prog w' = .ok (.string (strOfNums (macAt pt.zs 0).zs)) w') := fun w' hb => by
    obtain ⟨pa, c, zs⟩ := pt
    simp only at hpa hl hcap
    subst hpa
    have := Part.sub_ok (Part.ok_below hok hb) 0 6 c (by omega) (by omega)
    rw [← macAt_zs zs 0 (by omega)] at this
    exact conv_part ⟨some ⟨b, o, none⟩, c, (macAt zs 0).zs⟩ w' this
  have HCK : Hid (∀ (w' : World) (g : Nat), w'.heap[g]? = some (.cells (u8s kindsM.zs).toArray 5 (0, 0)) → (convert 40 9 (.slice (some ⟨g, 0, none⟩) 6 6)).run Try.prog w' = .ok (.string (strOfNums kindsM.zs)) w') := fun w' g hg => conv_part ⟨some ⟨g, 0, none⟩, 6, kindsM.zs⟩ w' (Part.of_row hg (by simp [Mac.zs]) (Mac.bytes kindsM_ok))
  have hg := (decGood_iff _ hok.1).1 hk
  have HXY : strOfNums (macAt pt.zs 0).zs = strOfNums kindsM.zs := by rw [hg.1]
  have x6 := hg.2.1
  have x7 := hg.2.2.1
  have x8 := hg.2.2.2
  have HM8 : Hid (∀ w', Below w.heap.size w w' → _) := fun w' hb => refMacAt8 pt w' (Part.ok_below hok hb) hl2 (by omega)
  have HM18 : Hid (∀ w', Below w.heap.size w w' → _) := fun w' hb => refMacAt18 pt w' (Part.ok_below hok hb) hl2 (by omega)
  have HI14 : Hid (∀ w', Below w.heap.size w w' → Calls Try.prog 69 #[pt.val, .int .i64 14] w' fun e w'' => e = .returned (.int .u32 (numAt pt.zs 14 4)) ∧ w'' = w') := fun w' hb => refIpAt_any pt 14 w' (Part.ok_below hok hb) hl2 (by omega)
  have HI24 : Hid (∀ w', Below w.heap.size w w' → Calls Try.prog 69 #[pt.val, .int .i64 24] w' fun e w'' => e = .returned (.int .u32 (numAt pt.zs 24 4)) ∧ w'' = w') := fun w' hb => refIpAt_any pt 24 w' (Part.ok_below hok hb) hl2 (by omega)
  have HDP : Hid (decP pt.zs = ⟨pt.zs.getD 7 0, macAt pt.zs 8, numAt pt.zs 14 4, macAt pt.zs 18, numAt pt.zs 24 4⟩) := by
    unfold Hid
    have e : numAt pt.zs 6 2 = pt.zs.getD 7 0 := by simp [numAt, getTo]; simp at x6; omega
    simp only [decP, e]
  rw [HDP.out]
  clear HDP hg
  unfold Part.val at HM8 HM18 HI14 HI24 ⊢
  rw [hpa] at HM8 HM18 HI14 HI24 ⊢
  generalize macAt pt.zs 8 = M8 at *
  generalize macAt pt.zs 18 = M18 at *
  generalize numAt pt.zs 14 4 = N1 at *
  generalize numAt pt.zs 24 4 = N2 at *
  generalize strOfNums (macAt pt.zs 0).zs = X at *
  generalize strOfNums kindsM.zs = Y at *
  generalize kindsM.zs = K at *
  generalize pt.zs.getD 6 0 = b6 at *
  generalize pt.zs.getD 7 0 = b7 at *
  generalize pt.zs.length = l at *
  generalize pt.c = c at *
  clear hok hc hpa hk hmo
  have h3 : ¬ (l : Int) < 28 := by omega
  have i6 : (6 : Int) < (l : Int) := by omega
  have i7 : (7 : Int) < (l : Int) := by omega
  have i8 : (6 : Int) ≤ (c : Int) := by omega
  obtain ⟨s0, s1, s2, s3, s4, s5⟩ := M8
  obtain ⟨d0, d1, d2, d3, d4, d5⟩ := M18
  simp only [Arp.val, Mac.val] at *
  subst x6
  subst HXY
  have x7' : ¬ b7 < 1 := by omega
  have x8' : ¬ 2 < b7 := by omega
  have hwi : IntKind.i64.wrap b7 = b7 := by simp only [IntKind.wrap_i64]; omega
  go_enter Try.func42, Try.ntmps42
  go_wp2
  have HG : Hid ((w.alloc (.cells #[.int .i64 0, .int .u8 0, .int .u8 0, .int .u8 0, .int .u8 0, .int .u8 0, .int .u8 0, .int .u32 0, .int .u8 0, .int .u8 0, .int .u8 0, .int .u8 0, .int .u8 0, .int .u8 0, .int .u32 0] 42)).heap[w.heap.size]? = some (.cells #[.int .i64 0, .int .u8 0, .int .u8 0, .int .u8 0, .int .u8 0, .int .u8 0, .int .u8 0, .int .u32 0, .int .u8 0, .int .u8 0, .int .u8 0, .int .u8 0, .int .u8 0, .int .u8 0, .int .u32 0] 42 (0, 0))) := heap_new _ _
  have HB : Hid (Below w.heap.size w (w.alloc (.cells #[.int .i64 0, .int .u8 0, .int .u8 0, .int .u8 0, .int .u8 0, .int .u8 0, .int .u8 0, .int .u32 0, .int .u8 0, .int .u8 0, .int .u8 0, .int .u8 0, .int .u8 0, .int .u8 0, .int .u32 0] 42))) := bpush (Below.refl _ _) _
  have CC7 := hid c7
  have bc6 : (w.alloc (.cells #[.int .i64 0, .int .u8 0, .int .u8 0, .int .u8 0, .int .u8 0, .int .u8 0, .int .u8 0, .int .u32 0, .int .u8 0, .int .u8 0, .int .u8 0, .int .u8 0, .int .u8 0, .int .u8 0, .int .u32 0] 42)).cell? ⟨b, o + 6, none⟩ = some (.int .u8 0) := (HB.out.cell (p := ⟨b, o + 6, none⟩) hbl).trans c6
  have bc7 : (w.alloc (.cells #[.int .i64 0, .int .u8 0, .int .u8 0, .int .u8 0, .int .u8 0, .int .u8 0, .int .u8 0, .int .u32 0, .int .u8 0, .int .u8 0, .int .u8 0, .int .u8 0, .int .u8 0, .int .u8 0, .int .u32 0] 42)).cell? ⟨b, o + 7, none⟩ = some (.int .u8 b7) := (HB.out.cell (p := ⟨b, o + 7, none⟩) hbl).trans c7
  have hbW : b < (w.alloc (.cells #[.int .i64 0, .int .u8 0, .int .u8 0, .int .u8 0, .int .u8 0, .int .u8 0, .int .u8 0, .int .u32 0, .int .u8 0, .int .u8 0, .int .u8 0, .int .u8 0, .int .u8 0, .int .u8 0, .int .u32 0] 42)).heap.size := by rw [World.size_alloc]; omega
  have HSZ : Hid ((w.alloc (.cells #[.int .i64 0, .int .u8 0, .int .u8 0, .int .u8 0, .int .u8 0, .int .u8 0, .int .u8 0, .int .u32 0, .int .u8 0, .int .u8 0, .int .u8 0, .int .u8 0, .int .u8 0, .int .u8 0, .int .u32 0] 42)).heap.size = w.heap.size + 1) := World.size_alloc _ _
  generalize w.alloc (.cells #[.int .i64 0, .int .u8 0, .int .u8 0, .int .u8 0, .int .u8 0, .int .u8 0, .int .u8 0, .int .u32 0, .int .u8 0, .int .u8 0, .int .u8 0, .int .u8 0, .int .u8 0, .int .u8 0, .int .u32 0] 42) = W at *
  clear c6 c7
  have v1 : (convert 40 9 (.slice (some ⟨b, o, none⟩) 6 c)).run Try.prog W.drew = .ok (.string X) W.drew := HCV.out _ HB.out.drew
  have v2 : (convert 40 9 (.slice (some ⟨b, o, none⟩) 6 c)).run Try.prog (W.alloc (.cells (u8s K).toArray 5)).drew = .ok (.string X) (W.alloc (.cells (u8s K).toArray 5)).drew := HCV.out _ (HB.out.alloc HB.out.size _).drew
  have v3 : (convert 40 9 (.slice (some ⟨W.heap.size, 0, none⟩) 6 6)).run Try.prog (W.alloc (.cells (u8s K).toArray 5)).drew = .ok (.string X) (W.alloc (.cells (u8s K).toArray 5)).drew := HCK.out _ _ (heap_new W _)
  have HB2 : Hid (Below w.heap.size w (W.alloc (.cells (u8s K).toArray 5)).drew) := (HB.out.alloc HB.out.size _).drew
  have HG2 : Hid ((W.alloc (.cells (u8s K).toArray 5)).drew.heap[w.heap.size]? = some (.cells #[.int .i64 0, .int .u8 0, .int .u8 0, .int .u8 0, .int .u8 0, .int .u8 0, .int .u8 0, .int .u32 0, .int .u8 0, .int .u8 0, .int .u8 0, .int .u8 0, .int .u8 0, .int .u8 0, .int .u32 0] 42 (0, 0))) := (heap_old W _ (heap_lt HG.out)).trans HG.out
  apply cut1 (H := fun V => Hid (V.heap[w.heap.size]? = some (.cells #[.int .i64 0, .int .u8 0, .int .u8 0, .int .u8 0, .int .u8 0, .int .u8 0, .int .u8 0, .int .u32 0, .int .u8 0, .int .u8 0, .int .u8 0, .int .u8 0, .int .u8 0, .int .u8 0, .int .u32 0] 42 (0, 0)) ∧ Below w.heap.size w V))
  · intro hcut
    first | go_region_with (first
      | (rw [if_neg (show ¬ _ from by unfold undef; simp)])
      | (go_at_call 67; refine (HH.out _).mono ?_; rintro e w1 ⟨rfl, hw⟩; subst w1) | fail) | fail
    all_goals (have hh := And.intro HG2.out HB2.out; generalize (W.alloc (.cells (u8s K).toArray 5)).drew = V at hh ⊢; exact hcut V hh)
  intro V HV
  go_wp2_with fail
  have HC7 : Hid (∀ w', Below w.heap.size w w' → w'.cell? ⟨b, o + 7, none⟩ = some (.int .u8 b7)) := fun w' hb => (hb.cell (p := ⟨b, o + 7, none⟩) hbl).trans CC7.out
  clear v1 v2 v3 bc6 bc7 HB2 HG2 HB HG HSZ hbW HCV HCK HH
  generalize W.heap.size = gW
  have hnb : ¬ b = w.heap.size := by omega
  have hnb' : ¬ w.heap.size = b := by omega
  refine wp_region_noPanic ?_
  refine wp_region_held_drew (S := fun w' => w'.cell? ⟨b, o + 7, none⟩ = some (.int .u8 b7)) (by kernel_rfl) (HC7.out _ HV.out.2.drew) (fun hHeld => ?_)
  refine wpAnyH_take (i := 0) (oi := { dst := some 33, op := .move (.tmp 0), type := _, pos := _, after := _, guard := none }) (v := .slice (some ⟨b, o, none⟩) l c) rfl (by kernel_rfl) (by kernel_rfl) (by kernel_rfl) (fun _ _ _ h => h) (Or.inl ⟨by rfl, fun wq hSw => by (try dsimp only at hSw); go_simp⟩) (by assumption) ?_
  try simp only [Act.put, List.setIfInBounds_toArray, List.set_cons_zero, List.set_cons_succ]
  refine wpAnyH_take (i := 1) (oi := { dst := some 34, op := .indexAddr 40 (.tmp 33) (.const (.int .i64 7)), type := _, pos := _, after := _, guard := none }) (v := .pointer (some ⟨b, o + 7, none⟩)) rfl (by kernel_rfl) (by kernel_rfl) (by kernel_rfl) (fun _ _ _ h => h) (Or.inl ⟨by rfl, fun wq hSw => by (try dsimp only at hSw); go_simp⟩) (by assumption) ?_
  try simp only [Act.put, List.setIfInBounds_toArray, List.set_cons_zero, List.set_cons_succ]
  refine wpAnyH_take (i := 2) (oi := { dst := some 35, op := .load 5 (.tmp 34), type := _, pos := _, after := _, guard := none }) (v := .int .u8 b7) rfl (by kernel_rfl) (by kernel_rfl) (by kernel_rfl) (fun _ _ _ h => h) (Or.inl ⟨by rfl, fun wq hSw => by (try dsimp only at hSw); go_simp⟩) (by assumption) ?_
  try simp only [Act.put, List.setIfInBounds_toArray, List.set_cons_zero, List.set_cons_succ]
  refine wpAnyH_take (i := 3) (oi := { dst := some 36, op := .convert 5 3 (.tmp 35), type := _, pos := _, after := _, guard := none }) (v := .int .i64 b7) rfl (by kernel_rfl) (by kernel_rfl) (by kernel_rfl) (fun _ _ _ h => h) (Or.inl ⟨by rfl, fun wq hSw => by (try dsimp only at hSw); go_simp⟩) (by assumption) ?_
  try simp only [Act.put, List.setIfInBounds_toArray, List.set_cons_zero, List.set_cons_succ]
  refine wpAnyH_take (i := 4) (oi := { dst := some 37, op := .move (.tmp 0), type := _, pos := _, after := _, guard := none }) (v := .slice (some ⟨b, o, none⟩) l c) rfl (by kernel_rfl) (by kernel_rfl) (by kernel_rfl) (fun _ _ _ h => h) (Or.inl ⟨by rfl, fun wq hSw => by (try dsimp only at hSw); go_simp⟩) (by assumption) ?_
  try simp only [Act.put, List.setIfInBounds_toArray, List.set_cons_zero, List.set_cons_succ]
  refine wpAnyH_take (i := 6) (oi := { dst := some 39, op := .move (.tmp 0), type := _, pos := _, after := _, guard := none }) (v := .slice (some ⟨b, o, none⟩) l c) rfl (by kernel_rfl) (by kernel_rfl) (by kernel_rfl) (fun _ _ _ h => h) (Or.inl ⟨by rfl, fun wq hSw => by (try dsimp only at hSw); go_simp⟩) (by assumption) ?_
  try simp only [Act.put, List.setIfInBounds_toArray, List.set_cons_zero, List.set_cons_succ]
  refine wpAnyH_take (i := 8) (oi := { dst := some 41, op := .move (.tmp 0), type := _, pos := _, after := _, guard := none }) (v := .slice (some ⟨b, o, none⟩) l c) rfl (by kernel_rfl) (by kernel_rfl) (by kernel_rfl) (fun _ _ _ h => h) (Or.inl ⟨by rfl, fun wq hSw => by (try dsimp only at hSw); go_simp⟩) (by assumption) ?_
  try simp only [Act.put, List.setIfInBounds_toArray, List.set_cons_zero, List.set_cons_succ]
  refine wpAnyH_take (i := 10) (oi := { dst := some 43, op := .move (.tmp 0), type := _, pos := _, after := _, guard := none }) (v := .slice (some ⟨b, o, none⟩) l c) rfl (by kernel_rfl) (by kernel_rfl) (by kernel_rfl) (fun _ _ _ h => h) (Or.inl ⟨by rfl, fun wq hSw => by (try dsimp only at hSw); go_simp⟩) (by assumption) ?_
  try simp only [Act.put, List.setIfInBounds_toArray, List.set_cons_zero, List.set_cons_succ]
  refine wpAnyH_ready (rs := [5]) (by kernel_rfl) (by simp) ?_
  refine AllReadyH.cons (o := { dst := some 38, op := .call { callee := .value (.func 68), args := #[.tmp 37, .const (.int .i64 8)], argTypes := #[40, 3] }, type := _, pos := _, after := _, guard := none }) rfl (fun K hK => ?_) AllReadyH.nil
  go_simp
  refine (HM8.out _ HV.out.2.drew).mono ?_
  rintro e w2 ⟨rfl, hb2⟩
  have B2 := hid (bstep HV.out.2.drew hb2)
  have G2 := hid (kept (w := V.drew) HV.out.1 hb2)
  clear hb2
  refine hK.out _ _ (HC7.out _ B2.out) (fun hHeld => ?_)
  clear hK
  try simp only [Act.put, List.setIfInBounds_toArray, List.set_cons_zero, List.set_cons_succ]
  refine wpAnyH_ready (rs := [7]) (by kernel_rfl) (by simp) ?_
  refine AllReadyH.cons (o := { dst := some 40, op := .call { callee := .value (.func 69), args := #[.tmp 39, .const (.int .i64 14)], argTypes := #[40, 3] }, type := _, pos := _, after := _, guard := none }) rfl (fun K hK => ?_) AllReadyH.nil
  go_simp
  refine (HI14.out _ B2.out).mono ?_
  rintro e w3 ⟨rfl, hw3⟩
  subst w3
  refine hK.out _ _ (HC7.out _ B2.out) (fun hHeld => ?_)
  clear hK
  try simp only [Act.put, List.setIfInBounds_toArray, List.set_cons_zero, List.set_cons_succ]
  refine wpAnyH_ready (rs := [9]) (by kernel_rfl) (by simp) ?_
  refine AllReadyH.cons (o := { dst := some 42, op := .call { callee := .value (.func 68), args := #[.tmp 41, .const (.int .i64 18)], argTypes := #[40, 3] }, type := _, pos := _, after := _, guard := none }) rfl (fun K hK => ?_) AllReadyH.nil
  go_simp
  refine (HM18.out _ B2.out).mono ?_
  rintro e w4 ⟨rfl, hb4⟩
  have HB4 := hid (bstep B2.out hb4)
  have HG4 := hid (kept G2.out hb4)
  clear hb4
  refine hK.out _ _ (HC7.out _ HB4.out) (fun hHeld => ?_)
  clear hK
  try simp only [Act.put, List.setIfInBounds_toArray, List.set_cons_zero, List.set_cons_succ]
  refine wpAnyH_ready (rs := [11]) (by kernel_rfl) (by simp) ?_
  refine AllReadyH.cons (o := { dst := some 44, op := .call { callee := .value (.func 69), args := #[.tmp 43, .const (.int .i64 24)], argTypes := #[40, 3] }, type := _, pos := _, after := _, guard := none }) rfl (fun K hK => ?_) AllReadyH.nil
  go_simp
  refine (HI24.out _ HB4.out).mono ?_
  rintro e w5 ⟨rfl, hw5⟩
  subst w5
  refine hK.out _ _ (HC7.out _ HB4.out) (fun hHeld => ?_)
  clear hK
  try simp only [Act.put, List.setIfInBounds_toArray, List.set_cons_zero, List.set_cons_succ]
  refine wpAnyH_take (i := 12) (oi := { dst := some 45, op := .build 42 #[(0, .tmp 36), (1, .tmp 38), (2, .tmp 40), (3, .tmp 42), (4, .tmp 44)], type := _, pos := _, after := _, guard := none }) (v := .agg #[.int .i64 b7, .int .u8 s0, .int .u8 s1, .int .u8 s2, .int .u8 s3, .int .u8 s4, .int .u8 s5, .int .u32 N1, .int .u8 d0, .int .u8 d1, .int .u8 d2, .int .u8 d3, .int .u8 d4, .int .u8 d5, .int .u32 N2]) rfl (by kernel_rfl) (by kernel_rfl) (by kernel_rfl) (fun _ _ _ h => h) (Or.inl ⟨by rfl, fun wq hSw => by (try dsimp only at hSw); go_simp⟩) (by assumption) ?_
  try simp only [Act.put, List.setIfInBounds_toArray, List.set_cons_zero, List.set_cons_succ]
  refine wpAnyH_ready (rs := [13]) (by kernel_rfl) (by simp) ?_
  refine AllReadyH.cons (o := { dst := none, op := .store 42 (.tmp 2) (.tmp 45), type := _, pos := _, after := _, guard := none }) rfl (fun K hK => ?_) AllReadyH.nil
  refine step_store_row rfl 42 _ _ rfl w.heap.size #[.int .i64 b7, .int .u8 s0, .int .u8 s1, .int .u8 s2, .int .u8 s3, .int .u8 s4, .int .u8 s5, .int .u32 N1, .int .u8 d0, .int .u8 d1, .int .u8 d2, .int .u8 d3, .int .u8 d4, .int .u8 d5, .int .u32 N2] rfl rfl 42 _ HG4.out (by kernel_rfl) rfl (by first | kernel_rfl | simp [Value.oneCell']) ?_
  intro w6 hg6 hb6
  have HB6 := hid (bbut HB4.out hb6.out (Nat.le_refl _))
  refine hK.out _ _ (HC7.out _ HB6.out) (fun hHeld => ?_)
  clear hK
  try simp only [Act.put, List.setIfInBounds_toArray, List.set_cons_zero, List.set_cons_succ]
  refine wpAnyH_take (i := 14) (oi := { dst := some 3, op := .assign (.const (.int .i64 0)), type := _, pos := _, after := _, guard := none }) (v := .int .i64 0) rfl (by kernel_rfl) (by kernel_rfl) (by kernel_rfl) (fun _ _ _ h => h) (Or.inl ⟨by rfl, fun wq hSw => by (try dsimp only at hSw); go_simp⟩) (by assumption) ?_
  try simp only [Act.put, List.setIfInBounds_toArray, List.set_cons_zero, List.set_cons_succ]
  refine wpAnyH_done (by kernel_rfl) ?_ _
  refine NoPanic.normal ?_
  go_wp2
  refine bodyPost_ret (v := .tuple #[.agg #[.int .i64 b7, .int .u8 s0, .int .u8 s1, .int .u8 s2, .int .u8 s3, .int .u8 s4, .int .u8 s5, .int .u32 N1, .int .u8 d0, .int .u8 d1, .int .u8 d2, .int .u8 d3, .int .u8 d4, .int .u8 d5, .int .u32 N2], .int .i64 0]) ?_ (by rfl) ⟨rfl, HB6.out⟩
  exact results_row2 Try.results42 _ _ w.heap.size 42 _ (0, 0) _ _ rfl rfl hg6.out Try.underlying42 rfl (by kernel_rfl)
/-- the document's Decode, of any bytes. -/
theorem refDecode_any (pt : Part) (w : World) (hok : pt.ok w) (hl2 : pt.zs.length ≤ 140737488351232) :
    Calls Try.prog 42 #[pt.val] w fun e w' => e = .returned (.tuple #[(decA pt.zs).val, .int .i64 (decE pt.zs)]) ∧ Below w.heap.size w w' := by
  unfold decA decE
  by_cases h1 : pt.zs.length < 28
  · rw [if_pos h1, if_pos h1]
    exact refDecode_short _ _ _ w h1
  · rw [if_neg h1, if_neg h1]
    by_cases h2 : decGood pt.zs
    · rw [if_pos h2, if_pos h2]
      exact refDecode_ok pt w hok (by omega) hl2 h2
    · rw [if_neg h2, if_neg h2]
      exact refDecode_bad pt w hok (by omega) hl2 h2
end Go.Proofs.Ytaaoelhmanahpaa
