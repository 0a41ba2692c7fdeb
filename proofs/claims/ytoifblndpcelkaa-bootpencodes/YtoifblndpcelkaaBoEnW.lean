/-
  The walk of BootpEncodes.
-/
import Derived.Test.YtoifblndpcelkaaBoRfE
import Derived.Test.YtoifblndpcelkaaBoLenJ
import Derived.Test.YtoifblndpcelkaaBoBey
import Derived.Test.YtoifblndpcelkaaBBookJ
namespace Go.Proofs.Ytoifblndpcelkaa
open Go.RowKit
set_option linter.all false

set_option maxRecDepth 20000 in
set_option maxHeartbeats 4000000 in
theorem bootpEncodes_walk (m : Bp) (os : List OP) (a : Option Addr) (c : Nat) (w : World) (hm : m.ok) (h : OV w a os) :
    Calls Try.prog 4 #[m.val (.slice a os.length c)] w fun e w' => e = .returned (.bool true) ∧ Below w.heap.size w w' := by
  have HBY := hid (fun (W : World) (hb : Below w.heap.size w W) => bobey_any a c os W (h.below hb))
  have HLAY : Hid (¬ 2147483647 < bulkO os → (layL (absO os)).length ≤ 35184372088832) := fun hb => bulkO_lay (by omega)
  have HRE := hid (fun (W : World) (hb : Below w.heap.size w W) (hs : (layL (absO os)).length ≤ 35184372088832) => refEncode_any m hm a c os W (h.below hb) hs)
  have HLE := hid (fun (W : World) (hb : Below w.heap.size w W) => lentO_any a c os W (h.below hb))
  have HXD : Hid (∀ W, OV W a os → BpV m (absO os) (m.cells (.slice a os.length c)) W) := fun W hv => ⟨a, os, c, rfl, hv, rfl⟩
  have HXL : Hid (∀ W ga, OV W (some ⟨ga, 0, none⟩) (lentOs ga os) → BpV m (absO os) (m.cells (.slice (some ⟨ga, 0, none⟩) os.length (os.length + 2))) W) := fun W ga hv => ⟨_, lentOs ga os, os.length + 2, by rw [lentOs_len], hv, lentOs_abs ga os⟩
  have H17 : Hid (∀ v : Value, (m.cells v)[17]? = some v) := fun v => rfl
  have HST : Hid (∀ u v : Value, (m.cells u).setIfInBounds 17 v = m.cells v) := fun u v => rfl
  have HV := hid h
  have HM := hid hm
  obtain ⟨g, hg⟩ : ∃ g, g = absO os := ⟨_, rfl⟩
  rw [← hg] at HLAY HRE HXD HXL
  clear hg
  have HZB : Hid (∀ z, z ∈ encZ m g → 0 ≤ z ∧ z ≤ 255) := encZ_bd hm.mac (HXD.out w h).bd
  have HZL : Hid ((encZ m g).length ≤ 1472) := encZ_le m g
  unfold Bp.val
  unfold Bp.val at HRE
  obtain ⟨n, hn⟩ : ∃ n, n = os.length := ⟨_, rfl⟩
  rw [← hn] at HBY HRE HLE HXD HXL ⊢
  have HN := hid hn
  clear h hm hn
  have k17 : (w.alloc (.cells (m.cells (.slice a n c)) 28)).cell? ⟨w.heap.size, 17, none⟩ = some (.slice a n c) := (cell_of_heap (heap_new w _) 17).trans (H17.out _)
  have HB0 := hid (bpush (Below.refl _ w) (.cells (m.cells (.slice a n c)) 28))
  have HX0 := hid (heap_new w (.cells (m.cells (.slice a n c)) 28))
  have HXC : Hid (∃ X, X = m.cells (.slice a n c)) := ⟨_, rfl⟩
  obtain ⟨X, hX⟩ := HXC.out
  have HXE := hid hX
  rw [← hX] at HRE HXD k17 HB0 HX0 ⊢
  clear hX HXC
  go_enter Try.func4, Try.ntmps4
  by_cases hby : 2147483647 < bulkO os
  · have HBY2 : Hid (∀ W, Below w.heap.size w W → Calls Try.prog 11 #[.slice a n c] W fun e w' => e = .returned (.bool true) ∧ w' = W) := fun W hb => by
      have := HBY.out W hb
      rw [decide_eq_true hby] at this
      exact this
    clear HBY hby HLAY HRE HLE
    go_wp2_with (first
      | (go_at_call 11; refine (HBY2.out _ HB0.out).mono ?_; rintro e w1 ⟨rfl, hw⟩; subst w1)
      | fail)
    go_ret
    exact ⟨rfl, HB0.out⟩
  · have HBY2 : Hid (∀ W, Below w.heap.size w W → Calls Try.prog 11 #[.slice a n c] W fun e w' => e = .returned (.bool false) ∧ w' = W) := fun W hb => by
      have := HBY.out W hb
      rw [decide_eq_false hby] at this
      exact this
    have HL := hid (HLAY.out hby)
    clear HBY hby HLAY
    have HENC := hid (fun (W : World) (Y : Array Value) (hX : BpV m g Y W) => bp_encode HM.out hX HL.out)
    have HRE2 := hid (fun (W : World) (hb : Below w.heap.size w W) => HRE.out W hb HL.out)
    clear HRE
    generalize encZ m g = Z at *
    generalize encX m g = E at *
    obtain ⟨N, hN⟩ : ∃ N, N = Z.length := ⟨_, rfl⟩
    rw [← hN] at HENC HZL
    have HNZ := hid hN
    clear hN
    go_upto_region 5 with (first
      | (go_at_call 11; refine (HBY2.out _ HB0.out).mono ?_; rintro e w1 ⟨rfl, hw⟩; subst w1)
      | (go_at_call 9; refine (live_any _).mono ?_; rintro e w1 ⟨rfl, HB1⟩)
      | fail)
    have HX1 := hid (kept HX0.out HB1.out)
    have HBB := hid (bstep HB0.out HB1.out)
    clear HX0 HB0 HB1 k17 HBY2
    obtain ⟨g0, hg0⟩ : ∃ g0, g0 = w.heap.size := ⟨_, rfl⟩
    rw [← hg0] at HX1 ⊢
    have HG0 := hid hg0
    clear hg0
    have HIF : Hid ((Try.prog.info? 28).map (·.size) = some X.size) := (HXD.out w HV.out).info
    have HSZ : Hid (X.size = 18) := (HXD.out w HV.out).size
    have HON : Hid (X.all (·.oneCell') = true) := (HXD.out w HV.out).one
    go_upto_region 6 with (first
      | (refine wpList_load_row rfl 28 _ rfl g0 rfl 28 X (0, 0) _ HX1.out Try.underlying28 rfl HIF.out ?_)
      | (go_at_call 12; refine (HRE2.out _ HBB.out).mono ?_; rintro e w2 ⟨aw, nw, cw, rfl, HW2⟩)
      | fail)
    have HX2 := hid (kept HX1.out HW2.out.2.2)
    have HB2 := hid (bstep HBB.out HW2.out.2.2)
    have HRW := hid HW2.out.1
    have HLW : Hid (∀ b, (Value.slice aw nw cw).ownBlock = some b → w1.heap.size ≤ b ∧ b < w2.heap.size) := ans_lt HW2.out
    have HG1 : Hid (g0 < w1.heap.size ∧ w1.heap.size ≤ w2.heap.size) := ⟨heap_lt HX1.out, HW2.out.2.2.size⟩
    clear HX1 HW2 HBB HRE2
    go_upto_region 7 with (first
      | (refine wpList_load_row rfl 28 _ rfl g0 rfl 28 X (0, 0) _ HX2.out Try.underlying28 rfl HIF.out ?_)
      | (refine wpList_alloc_to rfl 28 rfl zeroC (by kernel_rfl) ?_)
      | (refine wpList_store_row rfl 28 _ _ rfl w2.heap.size X rfl rfl 28 _ (heap_new w2 _) HIF.out (by rw [HSZ.out]; rfl) HON.out ?_)
      | fail)
    have hl3 := box_laid w2 X
    have HB23 := hid hl3.2
    have HX3 := hid (kept HX2.out hl3.2)
    have HY3 := hid hl3.1
    have HB3 := hid (bstep HB2.out hl3.2)
    clear hl3 HX2 HB2
    generalize (w2.alloc (.cells zeroC 28)).setRow w2.heap.size X = W3 at *
    obtain ⟨gx, hgx⟩ : ∃ gx, gx = w2.heap.size := ⟨_, rfl⟩
    have HGX := hid hgx
    rw [← hgx] at HY3 ⊢
    clear hgx
    have c17 : W3.cell? ⟨g0, 17, none⟩ = some (.slice a n c) := (cell_of_heap HX3.out 17).trans (by rw [HXE.out]; exact H17.out _)
    have HL3 := hid (HLE.out _ HB3.out)
    obtain ⟨ga, hga⟩ : ∃ ga, ga = W3.heap.size := ⟨_, rfl⟩
    rw [← hga] at HL3
    have HGA := hid hga
    clear hga HLE
    have HCL : Hid (Calls Try.prog 13 #[.slice a n c] W3 fun e w' => e = .returned (.slice (some ⟨ga, 0, none⟩) n (n + 2)) ∧ w'.cell? ⟨gx, 17, none⟩ = some (.slice a n c) ∧ w'.frozen? ⟨gx, 17, none⟩ = false ∧ Hid (∃ XL, LentF W3 w' ga os XL)) := by
      refine HL3.out.mono ?_
      rintro e w' ⟨rfl, HF⟩
      obtain ⟨XL, hF⟩ := HF.out
      have hb := hF.i.below
      have hy := kept HY3.out hb
      exact ⟨rfl, (cell_of_heap hy 17).trans (by rw [HXE.out]; exact H17.out _), frozen_of_heap hy 17, HF⟩
    clear HL3
    go_upto_region 8 with (first
      | (go_at_call 13; refine HCL.out.mono ?_; rintro e w4 ⟨rfl, q17, f17, HF⟩)
      | fail)
    obtain ⟨XL, hF⟩ := HF.out
    have HS4 : Hid (w4.heap.size = ga + 1 + n) := hid (by rw [hF.i.hs, HN.out])
    obtain ⟨W4, hW4⟩ : ∃ W, W = w4.setCell ⟨gx, 17, none⟩ (.slice (some ⟨ga, 0, none⟩) n (n + 2)) := ⟨_, rfl⟩
    have hbt : But gx w4 W4 := by rw [hW4]; exact But.setCell _ _ _ _
    have hsz4 : W4.heap.size = w4.heap.size := by rw [hW4]; simp [World.setCell]
    have hb34 := hF.i.below
    have hgxa : gx < ga := by have := heap_lt HY3.out; have := HGA.out; omega
    have HY4 : Hid (W4.heap[gx]? = some (.cells (m.cells (.slice (some ⟨ga, 0, none⟩) n (n + 2))) 28 (0, 0))) := by
      rw [hW4, ← HST.out (.slice a n c), ← HXE.out]
      exact heap_setCell (kept HY3.out hb34)
    have HX4 : Hid (W4.heap[g0]? = some (.cells X 28 (0, 0))) := keptBut (kept HX3.out hb34) hbt (by have := HG1.out; have := HGX.out; omega)
    have HK4 : Hid (LentK W4 ga os XL) := hF.k.keep fun k h1 h2 => hbt.block k (by omega) (by have := HS4.out; have := HN.out; omega)
    have HB24 : Hid (Below w2.heap.size w2 W4) := bbut (bstep HB23.out hb34) hbt (by have := HGX.out; omega)
    have HB4 : Hid (Below w.heap.size w W4) := bbut (bstep HB3.out hb34) hbt (by have := HGX.out; have := HG0.out; have := HG1.out; omega)
    have HRW4 := hid (HRW.out.below HB24.out)
    have HV4 : Hid (BpV m g (m.cells (.slice (some ⟨ga, 0, none⟩) n (n + 2))) W4) := HXL.out _ _ (HK4.out.view HV.out)
    have HGG : Hid (g0 < gx ∧ gx < ga) := ⟨by have := HG1.out; have := HGX.out; omega, hgxa⟩
    have HS5 : Hid (W4.heap.size = ga + 1 + n) := hid (by rw [hsz4]; exact HS4.out)
    have HLW2 : Hid (∀ b, (Value.slice aw nw cw).ownBlock = some b → w1.heap.size ≤ b ∧ b < gx) := hid (by rw [HGX.out]; exact HLW.out)
    rw [← hW4]
    clear hW4 hbt hsz4 hb34 hgxa hF HF HCL q17 f17 c17 HX3 HY3 HRW HLW HB23 HB24 HB3 HS4 HGX HGA
    obtain ⟨Y, hY⟩ : ∃ Y, Y = m.cells (.slice (some ⟨ga, 0, none⟩) n (n + 2)) := ⟨_, rfl⟩
    have HYE := hid hY
    rw [← hY] at HY4 HV4
    clear hY
    go_upto_region 9 with (first
      | (refine wpList_load_row rfl 28 _ rfl gx rfl 28 Y (0, 0) _ HY4.out Try.underlying28 rfl HV4.out.info ?_)
      | (go_at_call 14; refine (HENC.out _ _ HV4.out).mono ?_; rintro e w5 ⟨a5, c5, rfl, HA5⟩)
      | fail)
    have HY5 := hid (kept HY4.out HA5.out.2.2)
    have HX5 := hid (kept HX4.out HA5.out.2.2)
    have HV5 := hid (HV4.out.below HA5.out.2.2)
    have HK5 := hid (HK4.out.below HA5.out.2.2)
    have HB5 := hid (bstep HB4.out HA5.out.2.2)
    have HRW5 := hid (HRW4.out.below HA5.out.2.2)
    have HRA5 := hid HA5.out.1
    have HLA := hid (ans_lt HA5.out)
    have HS57 : Hid (W4.heap.size ≤ w5.heap.size) := HA5.out.2.2.size
    clear HA5 HY4 HX4 HV4 HK4 HB4 HRW4
    go_upto_region 10 with (first
      | (refine wpList_load_row rfl 28 _ rfl gx rfl 28 Y (0, 0) _ HY5.out Try.underlying28 rfl HV5.out.info ?_)
      | (go_at_call 14; refine (HENC.out _ _ HV5.out).mono ?_; rintro e w6 ⟨a6, c6, rfl, HA6⟩)
      | fail)
    have HY6 := hid (kept HY5.out HA6.out.2.2)
    have HX6 := hid (kept HX5.out HA6.out.2.2)
    have HK6 := hid (HK5.out.below HA6.out.2.2)
    have HB6 := hid (bstep HB5.out HA6.out.2.2)
    have HRW6 := hid (HRW5.out.below HA6.out.2.2)
    have HRA6 := hid (HRA5.out.below HA6.out.2.2)
    have HRB6 := hid HA6.out.1
    have HLB := hid (ans_lt HA6.out)
    clear HA6 HY5 HX5 HV5 HK5 HB5 HRW5 HRA5
    have q1 : w6.cell? ⟨gx, 17, none⟩ = some (.slice (some ⟨ga, 0, none⟩) n (n + 2)) := (cell_of_heap HY6.out 17).trans (by rw [HYE.out]; exact H17.out _)
    have q2 : w6.cell? ⟨g0, 17, none⟩ = some (.slice a n c) := (cell_of_heap HX6.out 17).trans (by rw [HXE.out]; exact H17.out _)
    have HAL : Hid (Calls Try.prog 15 #[.slice (some ⟨ga, 0, none⟩) n (n + 2), .slice a n c] w6 fun e w' => e = .returned (.bool true) ∧ Hid (Btw ga (ga + 1 + n) w6 w')) := by
      have := asLentO_any ga w.heap.size XL a c os w6 HK6.out ((Low.of HV.out).below HB6.out) (by have := HGG.out; have := HG0.out; omega)
      rw [← HN.out] at this
      exact this
    go_upto_region 11 with (first
      | (go_at_call 15; refine HAL.out.mono ?_; rintro e w7 ⟨rfl, HT7⟩)
      | fail)
    have hsz5 := HS5.out
    have lo7 : ∀ k, k < ga → w7.heap[k]? = w6.heap[k]? := fun k hk => HT7.out.block k (by have := HK6.out.lt ga (Nat.le_refl _) (by omega); omega) (Or.inl hk)
    have HX7 : Hid (w7.heap[g0]? = some (.cells X 28 (0, 0))) := (lo7 g0 (by have := HGG.out; omega)).trans HX6.out
    have HB7 : Hid (Below w.heap.size w w7) := HB6.out.trans (HT7.out.below (by have := HGG.out; have := HG0.out; omega) HB6.out.size)
    have HRW7 := hid (HRW6.out.keep fun b hb => lo7 b (by have := HLW2.out b hb; have := HGG.out; omega))
    have HRA7 := hid (HRA6.out.keep fun b hb => HT7.out.block b (HRA6.out.lt hb) (Or.inr (by have := HLA.out b hb; omega)))
    have HRB7 := hid (HRB6.out.keep fun b hb => HT7.out.block b (HRB6.out.lt hb) (Or.inr (by have := HLB.out b hb; have := HLA.out; have h5 : W4.heap.size ≤ w5.heap.size := HS57.out; omega)))
    have cA := HRA7.out.conv0 HZB.out
    have cB := HRB7.out.conv0 HZB.out
    have cW := HRW7.out.conv0 HZB.out
    have hE : (E != E) = false := by simp
    have hE2 : (E == E) = true := by simp
    have hSS : ((strOfNums Z).toList == (strOfNums Z).toList) = true := by simp
    clear lo7 hsz5 q1 q2 HAL HX6 HY6 HK6 HB6 HRW6 HRA6 HRB6
    obtain ⟨SZ, hSZ⟩ : ∃ S, S = strOfNums Z := ⟨_, rfl⟩
    have HSZ0 := hid hSZ
    rw [← hSZ] at cA cB cW hSS
    clear hSZ
    go_upto_region 14 with (fail)
    have HB8 := hid (bpush (Below.refl _ w7) (.cells #[.slice none 0 0, .slice none 0 0] 42))
    have HLT := hid (Late.new w7 w.heap.size HB7.out.size)
    have HX8 := hid (kept HX7.out HB8.out)
    have HRA8 := hid (HRA7.out.below HB8.out)
    have HRB8 := hid (HRB7.out.below HB8.out)
    have HRW8 := hid (HRW7.out.below HB8.out)
    have HBW8 := hid (bstep HB7.out HB8.out)
    have HL7 : Hid ((∀ b, (Value.slice a5 N c5).ownBlock = some b → b < w7.heap.size) ∧ (∀ b, (Value.slice a6 N c6).ownBlock = some b → b < w7.heap.size) ∧ (∀ b, (Value.slice aw nw cw).ownBlock = some b → b < w7.heap.size) ∧ g0 < w7.heap.size) := ⟨fun b hb => HRA7.out.lt hb, fun b hb => HRB7.out.lt hb, fun b hb => HRW7.out.lt hb, heap_lt HX7.out⟩
    clear cA cB cW HX7 HB7 HRW7 HRA7 HRB7 HT7 HB8
    generalize w7.alloc (.cells #[.slice none 0 0, .slice none 0 0] 42) = w8 at *
    generalize w7.heap.size = gk at *
    have HC1 := hid (take_late gk _ _ (.slice a5 N c5) [] Z w.heap.size w8 HLT.out HRA8.out HZB.out (by have := HZL.out; have := HNZ.out; omega) (by simp) (fun b hb => ⟨by have := HLA.out b hb; have := HGG.out; have := HG0.out; have := HS5.out; omega, HL7.out.1 b hb, by simp⟩))
    go_upto_region 15 with (first
      | (go_at_call 16; refine HC1.out.mono ?_; rintro e w9 ⟨rfl, L1, V1, HT1, HK1, HB9⟩)
      | fail)
    have HT1 := hid HT1
    have HX9 : Hid (w9.heap[g0]? = some (.cells X 28 (0, 0))) := (HK1 g0 HL7.out.2.2.2).trans HX8.out
    have HRB9 := hid (HRB8.out.low HK1 HL7.out.2.1)
    have HRW9 := hid (HRW8.out.low HK1 HL7.out.2.2.1)
    have HBW9 := hid (HBW8.out.trans HB9)
    clear HK1 HB9 HX8 HRB8 HRW8 HRA8 HC1 HLT
    have HC2 := hid (take_late gk _ _ (.slice a6 N c6) _ Z w.heap.size w9 HT1.out HRB9.out HZB.out (by have := HZL.out; have := HNZ.out; omega) (by simp) (fun b hb => ⟨by have := HLB.out b hb; have := HGG.out; have := HG0.out; have := HS5.out; have := HS57.out; omega, HL7.out.2.1 b hb, fun p hp e => by
      simp only [List.nil_append, List.mem_singleton] at hp
      subst hp
      have h1 := HLA.out b e
      have h2 := HLB.out b hb
      omega⟩))
    go_upto_region 16 with (first
      | (go_at_call 16; refine HC2.out.mono ?_; rintro e w10 ⟨rfl, L2, V2, HT2, HK2, HB10⟩)
      | fail)
    have HT2 := hid HT2
    have HX10 : Hid (w10.heap[g0]? = some (.cells X 28 (0, 0))) := (HK2 g0 HL7.out.2.2.2).trans HX9.out
    have HRW10 := hid (HRW9.out.low HK2 HL7.out.2.2.1)
    have HBW10 := hid (HBW9.out.trans HB10)
    clear HK2 HB10 HX9 HRW9 HRB9 HC2 HT1
    have HC3 := hid (owned_late gk _ _ _ w.heap.size w10 HT2.out)
    go_upto_region 17 with (first
      | (go_at_call 17; refine HC3.out.mono ?_; rintro e w11 ⟨rfl, HB11, HK3⟩)
      | fail)
    have hoff : ∀ k, k < ga → ∀ p, p ∈ ([] ++ [(Value.slice a5 N c5, Z)] ++ [(Value.slice a6 N c6, Z)] : List (Value × List Int)) → p.1.ownBlock ≠ some k := fun k hk p hp e => by
      simp only [List.nil_append, List.mem_append, List.mem_singleton] at hp
      rcases hp with rfl | rfl
      · have h1 := HLA.out k e
        have := HS5.out
        omega
      · have h1 := HLB.out k e
        have := HS5.out
        have := HS57.out
        omega
    have HX11 : Hid (w11.heap[g0]? = some (.cells X 28 (0, 0))) := (HK3 g0 HL7.out.2.2.2 (hoff g0 (by have := HGG.out; omega))).trans HX10.out
    have HRW11 := hid (HRW10.out.keep fun b hb => HK3 b (HL7.out.2.2.1 b hb) (hoff b (by have := HLW2.out b hb; have := HGG.out; omega)))
    have HBW11 := hid (HBW10.out.trans HB11)
    have HV11 := hid (HXD.out _ (HV.out.below HBW11.out))
    clear HK3 HB11 hoff HX10 HRW10 HC3 HT2
    go_upto_region 18 with (first
      | (refine wpList_load_row rfl 28 _ rfl g0 rfl 28 X (0, 0) _ HX11.out Try.underlying28 rfl HIF.out ?_)
      | (go_at_call 14; refine (HENC.out _ _ HV11.out).mono ?_; rintro e w12 ⟨a12, c12, rfl, HA12⟩)
      | fail)
    have HSZE : Hid (SZ = strOfNums Z) := HSZ0
    have cC := HA12.out.1.conv0 HZB.out
    have cW := (HRW11.out.below HA12.out.2.2).conv0 HZB.out
    rw [← HSZE.out] at cC cW
    have HF := hid (bstep HBW11.out HA12.out.2.2)
    clear HA12 HRW11 HX11 HV11
    go_wp2
    go_ret
    exact ⟨rfl, HF.out⟩
end Go.Proofs.Ytoifblndpcelkaa
