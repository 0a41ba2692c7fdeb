/-
  The statements' own function awake.
-/
import Derived.Test.YtdfmnjoodjpibaaURefF
namespace Go.Proofs.Ytdfmnjoodjpibaa
open Go.RowKit
set_option linter.all false

def lvL : List Int := [0, 68, 0, 67, 0, 10, 137, 238, 97, 98]
theorem lvL_is : encE 68 67 2 = 0 ∧ encB 167772162 167772161 68 67 [97, 98] = lvL := by decide +kernel
theorem lvL_bd : ∀ z, z ∈ lvL → 0 ≤ z ∧ z ≤ 255 := by decide
theorem lvL_str : strOfNums lvL = ⟨#[0, 68, 0, 67, 0, 10, 137, 238, 97, 98]⟩ := by rfl
theorem ab_str : strOfNums [97, 98] = ⟨#[97, 98]⟩ := by rfl
theorem lv_dec1 : decE 167772162 167772161 lvL = 0 ∧ decS 167772162 167772161 lvL = 68 ∧ decT 167772162 167772161 lvL = 67 ∧ decD 167772162 167772161 lvL = [97, 98] := by decide +kernel
theorem lv_dec2 : decE 167772162 167772163 lvL = 93 ∧ decS 167772162 167772163 lvL = 0 ∧ decT 167772162 167772163 lvL = 0 ∧ decD 167772162 167772163 lvL = [] := by decide +kernel
theorem lv_dec3 : decE 167772162 167772161 (lvL.take 7) = 5 ∧ decS 167772162 167772161 (lvL.take 7) = 0 ∧ decT 167772162 167772161 (lvL.take 7) = 0 ∧ decD 167772162 167772161 (lvL.take 7) = [] := by decide +kernel
theorem lv_enc (w : World) (g : Nat) (f : Nat × Nat) (hg : w.heap[g]? = some (.cells #[.int .u8 97, .int .u8 98] 5 f)) : Calls Try.prog 10 #[.int .u32 167772162, .int .u32 167772161, .agg #[.int .i64 68, .int .i64 67, .slice (some ⟨g, 0, none⟩) 2 2]] w fun e w' => ∃ a n c, e = .returned (.tuple #[.slice a n c, .int .i64 0]) ∧ Ans w w' lvL a n c := by
  have h := encode_u 167772162 167772161 68 67 ⟨some ⟨g, 0, none⟩, 2, [97, 98]⟩ w (by omega) (by omega) (Part.of_row (zs := [97, 98]) hg (by simp) (by simp))
  simp only [List.length_cons, List.length_nil, Nat.zero_add, Nat.reduceAdd, lvL_is] at h
  exact h
theorem lv_d1 (w : World) (a : Option Addr) (n c : Nat) (h : Row w 5 (.slice a n c) (u8s lvL)) :
    Calls Try.prog 15 #[.int .u32 167772162, .int .u32 167772161, .slice a n c] w fun e w' => ∃ a' n' c', e = .returned (.tuple #[.agg #[.int .i64 68, .int .i64 67, .slice a' n' c'], .int .i64 0]) ∧ Ans w w' [97, 98] a' n' c' := by
  obtain ⟨pt, e1, e2, ok⟩ := h.part lvL_bd
  rw [e1]
  have := decode_u 167772162 167772161 pt w (by omega) (by omega) ok (by rw [e2]; decide)
  rw [e2, lv_dec1.1, lv_dec1.2.1, lv_dec1.2.2.1, lv_dec1.2.2.2] at this
  exact this
theorem lv_d2 (w : World) (a : Option Addr) (n c : Nat) (h : Row w 5 (.slice a n c) (u8s lvL)) :
    Calls Try.prog 15 #[.int .u32 167772162, .int .u32 167772163, .slice a n c] w fun e w' => ∃ a' n' c', e = .returned (.tuple #[.agg #[.int .i64 0, .int .i64 0, .slice a' n' c'], .int .i64 93]) ∧ Ans w w' [] a' n' c' := by
  obtain ⟨pt, e1, e2, ok⟩ := h.part lvL_bd
  rw [e1]
  have := decode_u 167772162 167772163 pt w (by omega) (by omega) ok (by rw [e2]; decide)
  rw [e2, lv_dec2.1, lv_dec2.2.1, lv_dec2.2.2.1, lv_dec2.2.2.2] at this
  exact this
theorem lv_d3 (w : World) (g n c : Nat) (h : Row w 5 (.slice (some ⟨g, 0, none⟩) n c) (u8s lvL)) :
    Calls Try.prog 15 #[.int .u32 167772162, .int .u32 167772161, .slice (some ⟨g, 0, none⟩) 7 c] w fun e w' => ∃ a' n' c', e = .returned (.tuple #[.agg #[.int .i64 0, .int .i64 0, .slice a' n' c'], .int .i64 5]) ∧ Ans w w' [] a' n' c' := by
  obtain ⟨pt, e1, e2, ok⟩ := h.part lvL_bd
  obtain ⟨pa, pc, zs⟩ := pt
  simp only [Part.val, Value.slice.injEq] at e1
  simp only at e2
  obtain ⟨rfl, -, rfl⟩ := e1
  subst e2
  have hc : lvL.length ≤ c := ok.2.1
  have ok2 := Part.sub_ok ok 0 7 c (by decide) (by have : lvL.length = 10 := rfl; omega)
  simp only [Nat.add_zero, List.drop_zero] at ok2
  have := decode_u 167772162 167772161 _ w (by omega) (by omega) ok2 (show (lvL.take 7).length ≤ 281474976710656 by decide)
  simp only [Part.val, lv_dec3] at this
  exact this
theorem lv_none (w : World) : Calls Try.prog 10 #[.int .u32 1, .int .u32 2, .agg #[.int .i64 68, .int .i64 0, .slice none 0 0]] w fun e w' => e = .returned (.tuple #[.slice none 0 0, .int .i64 120]) ∧ Below w.heap.size w w' := encode_zero 1 2 68 _ w rfl

set_option maxRecDepth 20000 in
set_option maxHeartbeats 4000000 in
theorem awake_any (w : World) : Calls Try.prog 7 #[] w fun e w' => e = .returned (.bool true) ∧ Below w.heap.size w w' := by
  have C1 := hid @lv_enc
  have C2 := hid @lv_d1
  have C3 := hid @lv_d2
  have C4 := hid @lv_d3
  have C5 := hid @lv_none
  have HST := hid lvL_str
  have HAB := hid ab_str
  have HLB := hid lvL_bd
  have HLN : Hid ((u8s lvL).length = 10) := rfl
  have hcc := conv_const w.heap.size w #[.int .u8 97, .int .u8 98] 2 2 rfl
  generalize hEL : lvL = EL at *
  clear hEL
  go_enter Try.func7, Try.ntmps7
  go_wp2_with fail
  refine (C1.out _ w.heap.size (2, 3) (heap_new _ _)).mono ?_
  rintro e w1 ⟨a1, n1, c1, rfl, an⟩
  have HB1 := hid (bstep (bpush (Below.refl _ w) _) an.2.2)
  have HR1 := hid an.1
  obtain ⟨g, hg, hn1, hc1⟩ := an.1.addr (by rw [HLN.out]; omega)
  rw [HLN.out] at hn1
  clear an hcc
  subst hg
  subst hn1
  have hcv := HR1.out.conv0 HLB.out
  rw [HST.out] at hcv
  go_wp2_with fail
  clear hcv
  refine (C2.out _ _ _ _ HR1.out).mono ?_
  rintro e w2 ⟨a2, n2, c2, rfl, an⟩
  have b2 := bpush an.2.2 (.cells #[.int .i64 68, .int .i64 67, .slice a2 n2 c2] 26)
  have HG2 := hid (heap_new w2 (.cells #[.int .i64 68, .int .i64 67, .slice a2 n2 c2] 26))
  have HB2 := hid (bstep HB1.out b2)
  have HR2 := hid (HR1.out.below b2)
  have HD2 := hid (an.1.below (bpush (Below.refl _ _) (.cells #[.int .i64 68, .int .i64 67, .slice a2 n2 c2] 26)))
  clear an b2 HB1 HR1
  go_wp2_with fail
  generalize w2.alloc (.cells #[.int .i64 68, .int .i64 67, .slice a2 n2 c2] 26) = W2 at *
  generalize w2.heap.size = g2 at *
  refine (C3.out _ _ _ _ HR2.out).mono ?_
  rintro e w3 ⟨a3, n3, c3, rfl, an⟩
  have b3 := bpush an.2.2 (.cells #[.int .i64 0, .int .i64 0, .slice a3 n3 c3] 26)
  have HG3 := hid (kept HG2.out b3)
  have HB3 := hid (bstep HB2.out b3)
  have HR3 := hid (HR2.out.below b3)
  have HD3 := hid (HD2.out.below b3)
  clear an b3 HB2 HR2 HG2 HD2
  have hc7 : (7 : Int) ≤ (c1 : Int) := by omega
  go_wp2_with fail
  generalize w3.alloc (.cells #[.int .i64 0, .int .i64 0, .slice a3 n3 c3] 26) = W3 at *
  generalize w3.heap.size = g3 at *
  refine (C4.out _ _ _ _ HR3.out).mono ?_
  rintro e w4 ⟨a4, n4, c4, rfl, an⟩
  have b4 := bpush an.2.2 (.cells #[.int .i64 0, .int .i64 0, .slice a4 n4 c4] 26)
  have HG4 := hid (kept HG3.out b4)
  have HB4 := hid (bstep HB3.out b4)
  have HD4 := hid (HD3.out.below b4)
  clear an b4 HB3 HR3 HG3 HD3
  go_wp2_with fail
  generalize w4.alloc (.cells #[.int .i64 0, .int .i64 0, .slice a4 n4 c4] 26) = W4 at *
  generalize w4.heap.size = g4 at *
  refine (C5.out _).mono ?_
  rintro e w5 ⟨rfl, b5⟩
  have HG5 := hid (kept HG4.out b5)
  have HB5 := hid (bstep HB4.out b5)
  have HD5 := hid (HD4.out.below b5)
  clear b5 HB4 HG4 HD4
  have k0 : w5.cell? ⟨g2, 0, none⟩ = some (.int .i64 68) := cell_of_heap HG5.out 0
  have k1 : w5.cell? ⟨g2, 1, none⟩ = some (.int .i64 67) := cell_of_heap HG5.out 1
  have k2 : w5.cell? ⟨g2, 2, none⟩ = some (.slice a2 n2 c2) := cell_of_heap HG5.out 2
  have hcv := HD5.out.conv0 (by simp)
  rw [HAB.out] at hcv
  go_wp2
  go_ret
  exact ⟨rfl, HB5.out⟩
end Go.Proofs.Ytdfmnjoodjpibaa
