/-
  The statements' own functions live and lent.
-/
import Derived.Test.YthmfappindbjnaaIcRefH
import Derived.Test.YthmfappindbjnaaIcDec
import Derived.Test.YthmfappindbjnaaBLent
namespace Go.Proofs.Ythmfappindbjnaa
open Go.RowKit
set_option linter.all false

def lvL : List Int := [8, 0, 150, 154, 0, 1, 0, 2, 97, 98]
theorem lvL_is : encE 8 0 2 = 0 ∧ encB 8 0 65538 [97, 98] = lvL := by decide +kernel
theorem lvL_bd : ∀ z, z ∈ lvL → 0 ≤ z ∧ z ≤ 255 := by decide
theorem lvL_str : strOfNums lvL = ⟨#[8, 0, 150, 154, 0, 1, 0, 2, 97, 98]⟩ := by rfl
theorem lv_dec1 : decE lvL = 0 ∧ decK lvL = 8 ∧ decC lvL = 0 ∧ decR lvL = 65538 ∧ decD lvL = [97, 98] := by decide +kernel
theorem lv_enc (w : World) (g : Nat) (f : Nat × Nat) (hg : w.heap[g]? = some (.cells #[.int .u8 97, .int .u8 98] 5 f)) : Calls Try.prog 10 #[.agg #[.int .i64 8, .int .i64 0, .int .u32 65538, .slice (some ⟨g, 0, none⟩) 2 2]] w fun e w' => ∃ a n c, e = .returned (.tuple #[.slice a n c, .int .i64 0]) ∧ Ans w w' lvL a n c := by
  have h := encode_u 8 0 65538 ⟨some ⟨g, 0, none⟩, 2, [97, 98]⟩ w (by omega) (Part.of_row (zs := [97, 98]) hg (by simp) (by simp))
  simp only [List.length_cons, List.length_nil, Nat.zero_add, Nat.reduceAdd, lvL_is] at h
  exact h
theorem lv_dec (w : World) (a : Option Addr) (n c : Nat) (h : Row w 5 (.slice a n c) (u8s lvL)) :
    Calls Try.prog 16 #[.slice a n c] w fun e w' => ∃ a' n' c', e = .returned (.tuple #[.agg #[.int .i64 8, .int .i64 0, .int .u32 65538, .slice a' n' c'], .int .i64 0]) ∧ Ans w w' [97, 98] a' n' c' := by
  obtain ⟨pt, e1, e2, ok⟩ := h.part lvL_bd
  rw [e1]
  have := decode_u pt w ok
  rw [e2, lv_dec1.1, lv_dec1.2.1, lv_dec1.2.2.1, lv_dec1.2.2.2.1, lv_dec1.2.2.2.2] at this
  exact this
theorem lv_ans (w : World) (g : Nat) (f : Nat × Nat) (hg : w.heap[g]? = some (.cells #[.int .u8 97, .int .u8 98] 5 f)) : Calls Try.prog 19 #[.agg #[.int .i64 8, .int .i64 0, .int .u32 65538, .slice (some ⟨g, 0, none⟩) 2 2]] w fun e w' => ∃ a n c, e = .returned (.tuple #[.agg #[.int .i64 0, .int .i64 0, .int .u32 65538, .slice a n c], .bool true]) ∧ Ans w w' [97, 98] a n c :=
  answer_yes 65538 ⟨some ⟨g, 0, none⟩, 2, [97, 98]⟩ w (Part.of_row (zs := [97, 98]) hg (by simp) (by simp)) (by simp)
theorem lv_not (w : World) (r v : Value) : Calls Try.prog 19 #[.agg #[.int .i64 0, .int .i64 0, r, v]] w fun e w' => e = .returned (.tuple #[.agg #[.int .i64 0, .int .i64 0, .int .u32 0, .slice none 0 0], .bool false]) ∧ Below w.heap.size w w' := answer_no 0 0 r v w rfl
theorem lv_ref (w : World) (g : Nat) (hg : w.heap[g]? = some (.cells (madeCells #[Value.int .u8 0] 30) 5 (0, 0))) : Calls Try.prog 20 #[.int .i64 3, .slice (some ⟨g, 0, none⟩) 30 30] w fun e w' => ∃ a c, e = .returned (.agg #[.int .i64 3, .int .i64 3, .int .u32 0, .slice a 28 c]) ∧ Below w.heap.size w w' := by
  rw [made_eq] at hg
  have h := refuse_u 3 ⟨some ⟨g, 0, none⟩, 30, List.replicate 30 0⟩ w (Part.of_row hg (by simp) (by simp)) (by simp)
  refine Calls.mono h ?_
  rintro e w' ⟨a, n, c, rfl, an⟩
  obtain ⟨a'', c'', e, _⟩ := an.1.form
  simp only [Value.slice.injEq, u8s_len] at e
  obtain ⟨rfl, e2, rfl⟩ := e
  simp at e2
  subst e2
  exact ⟨_, _, rfl, an.2.2⟩
theorem lv_same (w : World) (g : Nat) (f : Nat × Nat) (hg : w.heap[g]? = some (.cells #[.int .u8 97, .int .u8 98] 5 f)) (a : Option Addr) (n c : Nat) (h : Row w 5 (.slice a n c) (u8s [97, 98])) : Calls Try.prog 18 #[.agg #[.int .i64 8, .int .i64 0, .int .u32 65538, .slice a n c], .agg #[.int .i64 8, .int .i64 0, .int .u32 65538, .slice (some ⟨g, 0, none⟩) 2 2]] w fun e w' => e = .returned (.bool true) ∧ Below w.heap.size w w' :=
  same_row 8 0 65538 ⟨some ⟨g, 0, none⟩, 2, [97, 98]⟩ a n c w (Part.of_row (zs := [97, 98]) hg (by simp) (by simp)) h

set_option maxRecDepth 20000 in
set_option maxHeartbeats 4000000 in
theorem live_any (w : World) : Calls Try.prog 8 #[] w fun e w' => e = .returned (.bool true) ∧ Below w.heap.size w w' := by
  have C1 := hid @lv_enc
  have C2 := hid @lv_dec
  have C3 := hid @lv_ans
  have C4 := hid @lv_not
  have C5 := hid @lv_ref
  have C6 : Hid (∀ w : World, _) := fun w => encode_kind 5 (.int .i64 0) (.int .u32 0) (.slice none 0 0) w rfl
  have C7 : Hid (∀ w : World, _) := fun w => decode_short none 0 0 w (by omega)
  have C8 := hid @lv_same
  have HST := hid lvL_str
  have HLB := hid lvL_bd
  have hcc := conv_const w.heap.size w #[.int .u8 97, .int .u8 98] 2 2 rfl
  have hmk : ∀ wx : World, (Instr.makeSlice 24 (.int .i64 30) (.int .i64 30)).run Try.prog wx = .ok (.slice (some ⟨wx.heap.size, 0, none⟩) 30 30) (wx.alloc (.cells (madeCells #[.int .u8 0] 30) 5)) := fun wx => Go.run_make_row' (P := Try.prog) 24 5 (.int .u8 0) 1 Try.underlying24 infoU8 rfl .i64 .i64 30 (by omega) (by omega) wx
  have HH0 := hid (((Holds.nil w).push (.cells #[.int .u8 97, .int .u8 98] 5 (2, 3))).push (.cells #[.int .i64 8, .int .i64 0, .int .u32 65538, .slice (some ⟨w.heap.size, 0, none⟩) 2 2] 26))
  simp only [World.size_alloc] at HH0
  have HB0 : Hid (Below w.heap.size w ((w.alloc (.cells #[.int .u8 97, .int .u8 98] 5 (2, 3))).alloc (.cells #[.int .i64 8, .int .i64 0, .int .u32 65538, .slice (some ⟨w.heap.size, 0, none⟩) 2 2] 26))) := bpush (bpush (Below.refl _ _) _) _
  generalize hEL : lvL = EL at *
  clear hEL
  go_enter Try.func8, Try.ntmps8
  go_wp2_with fail
  refine (C1.out _ w.heap.size (2, 3) (HH0.out.at 1 _ _ rfl)).mono ?_
  rintro e w1 ⟨a1, n1, c1, rfl, an⟩
  have HB1 := hid (bstep HB0.out an.2.2)
  have HH1 := hid (HH0.out.below an.2.2)
  have HR1 := hid an.1
  clear an hcc HB0 HH0
  go_wp2_with fail
  refine (C2.out _ _ _ _ HR1.out).mono ?_
  rintro e w2 ⟨a2, n2, c2, rfl, an⟩
  have b2 := bpush an.2.2 (.cells #[.int .i64 8, .int .i64 0, .int .u32 65538, .slice a2 n2 c2] 26)
  have HH2 := hid ((HH1.out.below b2).cons (heap_new w2 (.cells #[.int .i64 8, .int .i64 0, .int .u32 65538, .slice a2 n2 c2] 26)))
  have HB2 := hid (bstep HB1.out b2)
  have HR2 := hid (HR1.out.below b2)
  have HD2 := hid (an.1.below (bpush (Below.refl _ _) (.cells #[.int .i64 8, .int .i64 0, .int .u32 65538, .slice a2 n2 c2] 26)))
  have kk : ∀ q, w2.cell? ⟨w.heap.size + 1, q, none⟩ = (#[.int .i64 8, .int .i64 0, .int .u32 65538, .slice (some ⟨w.heap.size, 0, none⟩) 2 2] : Array Value)[q]? := fun q => cell_of_heap (kept (HH1.out.at 0 _ _ rfl) an.2.2) q
  have klt : w.heap.size + 1 < w2.heap.size := heap_lt (kept (HH1.out.at 0 _ _ rfl) an.2.2)
  clear an b2 HB1 HR1 HH1
  go_wp2_with fail
  clear kk klt
  generalize w2.alloc (.cells #[.int .i64 8, .int .i64 0, .int .u32 65538, .slice a2 n2 c2] 26) = W2 at *
  generalize w2.heap.size = g2 at *
  refine (C3.out _ w.heap.size (2, 3) (HH2.out.at 2 _ _ rfl)).mono ?_
  rintro e w3 ⟨a3, n3, c3, rfl, an⟩
  have b3 := bpush an.2.2 (.cells #[.int .i64 0, .int .i64 0, .int .u32 65538, .slice a3 n3 c3] 26)
  have HH3 := hid ((HH2.out.below b3).cons (heap_new w3 (.cells #[.int .i64 0, .int .i64 0, .int .u32 65538, .slice a3 n3 c3] 26)))
  have HB3 := hid (bstep HB2.out b3)
  have HR3 := hid (HR2.out.below b3)
  have HD3 := hid (HD2.out.below b3)
  clear an b3 HB2 HR2 HH2 HD2
  go_wp2_with fail
  generalize w3.alloc (.cells #[.int .i64 0, .int .i64 0, .int .u32 65538, .slice a3 n3 c3] 26) = W3 at *
  generalize w3.heap.size = g3 at *
  refine (C4.out _ _ _).mono ?_
  rintro e w4 ⟨rfl, hb⟩
  have b4 := bpush hb (.cells #[.int .i64 0, .int .i64 0, .int .u32 0, .slice none 0 0] 26)
  have HH4 := hid (HH3.out.below b4)
  have HB4 := hid (bstep HB3.out b4)
  have HR4 := hid (HR3.out.below b4)
  have HD4 := hid (HD3.out.below b4)
  have hm5 := heap_new (w4.alloc (.cells #[.int .i64 0, .int .i64 0, .int .u32 0, .slice none 0 0] 26)) (.cells (madeCells #[.int .u8 0] 30) 5)
  rw [World.size_alloc] at hm5
  have HM5 := hid hm5
  clear hb b4 HB3 HR3 HH3 HD3 hm5
  go_wp2_with fail
  generalize w4.alloc (.cells #[.int .i64 0, .int .i64 0, .int .u32 0, .slice none 0 0] 26) = W4 at *
  generalize w4.heap.size = g4 at *
  refine (C5.out _ _ HM5.out).mono ?_
  rintro e w5 ⟨a5, c5, rfl, hb⟩
  have b5 := bstep (bpush (Below.refl _ W4) _) (bpush hb (.cells #[.int .i64 3, .int .i64 3, .int .u32 0, .slice a5 28 c5] 26))
  have HH5 := hid ((HH4.out.below b5).cons (heap_new w5 (.cells #[.int .i64 3, .int .i64 3, .int .u32 0, .slice a5 28 c5] 26)))
  have HB5 := hid (bstep HB4.out b5)
  have HR5 := hid (HR4.out.below b5)
  have HD5 := hid (HD4.out.below b5)
  clear hb b5 HB4 HR4 HH4 HD4 HM5
  go_wp2_with fail
  generalize w5.alloc (.cells #[.int .i64 3, .int .i64 3, .int .u32 0, .slice a5 28 c5] 26) = W5 at *
  generalize w5.heap.size = g5 at *
  refine (C6.out _).mono ?_
  rintro e w6 ⟨rfl, b6⟩
  have HH6 := hid (HH5.out.below b6)
  have HB6 := hid (bstep HB5.out b6)
  have HR6 := hid (HR5.out.below b6)
  have HD6 := hid (HD5.out.below b6)
  clear b6 HB5 HR5 HH5 HD5
  go_wp2_with fail
  refine (C7.out _).mono ?_
  rintro e w7 ⟨rfl, hb⟩
  have b7 := bpush hb (.cells #[.int .i64 0, .int .i64 0, .int .u32 0, .slice none 0 0] 26)
  have HH7 := hid (HH6.out.below b7)
  have HB7 := hid (bstep HB6.out b7)
  have HR7 := hid (HR6.out.below b7)
  have HD7 := hid (HD6.out.below b7)
  have k2 : ∀ q, w7.cell? ⟨g2, q, none⟩ = (#[.int .i64 8, .int .i64 0, .int .u32 65538, .slice a2 n2 c2] : Array Value)[q]? := fun q => cell_of_heap (kept (HH6.out.at 2 _ _ rfl) hb) q
  have k3 : ∀ q, w7.cell? ⟨w.heap.size + 1, q, none⟩ = (#[.int .i64 8, .int .i64 0, .int .u32 65538, .slice (some ⟨w.heap.size, 0, none⟩) 2 2] : Array Value)[q]? := fun q => cell_of_heap (kept (HH6.out.at 3 _ _ rfl) hb) q
  have l2 : g2 < w7.heap.size := heap_lt (kept (HH6.out.at 2 _ _ rfl) hb)
  have l3 : w.heap.size + 1 < w7.heap.size := heap_lt (kept (HH6.out.at 3 _ _ rfl) hb)
  clear hb b7 HB6 HR6 HH6 HD6
  go_wp2_with fail
  clear k2 k3 l2 l3
  generalize w7.alloc (.cells #[.int .i64 0, .int .i64 0, .int .u32 0, .slice none 0 0] 26) = W7 at *
  refine (C8.out _ w.heap.size (2, 3) (HH7.out.at 4 _ _ rfl) _ _ _ HD7.out).mono ?_
  rintro e w8 ⟨rfl, b8⟩
  have HH8 := hid (HH7.out.below b8)
  have HB8 := hid (bstep HB7.out b8)
  have HR8 := hid (HR7.out.below b8)
  clear b8 HB7 HR7 HH7 HD7
  have k0 : ∀ q, w8.cell? ⟨g5, q, none⟩ = (#[.int .i64 3, .int .i64 3, .int .u32 0, .slice a5 28 c5] : Array Value)[q]? := fun q => cell_of_heap (HH8.out.at 0 _ _ rfl) q
  have k1 : ∀ q, w8.cell? ⟨g3, q, none⟩ = (#[.int .i64 0, .int .i64 0, .int .u32 65538, .slice a3 n3 c3] : Array Value)[q]? := fun q => cell_of_heap (HH8.out.at 1 _ _ rfl) q
  have k3 : ∀ q, w8.cell? ⟨w.heap.size + 1, q, none⟩ = (#[.int .i64 8, .int .i64 0, .int .u32 65538, .slice (some ⟨w.heap.size, 0, none⟩) 2 2] : Array Value)[q]? := fun q => cell_of_heap (HH8.out.at 3 _ _ rfl) q
  have hcv := HR8.out.conv0 HLB.out
  rw [HST.out] at hcv
  go_wp2
  go_ret
  exact ⟨rfl, HB8.out⟩

set_option maxRecDepth 20000 in
set_option maxHeartbeats 1000000 in
theorem icmpNumbers_walk (w : World) : Calls Try.prog 3 #[] w fun e w' => e = .returned (.bool true) ∧ Below w.heap.size w w' := by
  go_enter Try.func3, Try.ntmps3
  go_wp2_with fail
  refine (live_any _).mono ?_
  rintro e w1 ⟨rfl, hb1⟩
  have HB1 := hid hb1
  clear hb1
  go_wp2
  go_ret
  exact ⟨rfl, HB1.out⟩

set_option maxRecDepth 20000 in
set_option maxHeartbeats 1000000 in
/-- lent: the message with its data in memory of its own. -/
theorem lentM_any (k c r : Int) (pt : Part) (w : World) (hok : pt.ok w) (hl : pt.zs.length ≤ 140737488351232) :
    Calls Try.prog 9 #[.agg #[.int .i64 k, .int .i64 c, .int .u32 r, pt.val]] w fun e w' => ∃ g, e = .returned (.agg #[.int .i64 k, .int .i64 c, .int .u32 r, .slice (some ⟨g, 0, none⟩) pt.zs.length (pt.zs.length + 2)]) ∧ w.heap.size ≤ g ∧ w'.heap[g]? = some (.cells (L2 pt.zs) 5 (0, 0)) ∧ Below w.heap.size w w' := by
  have CL : Hid (∀ V : World, Below w.heap.size w V → _) := fun V hb => lent_any pt V (Part.ok_below hok hb) hl
  have hh := ((Holds.nil w).push (.cells #[.int .i64 k, .int .i64 c, .int .u32 r, pt.val] 26)).push (.cells #[.int .i64 0, .int .i64 0, .int .u32 0, .slice none 0 0] 26)
  simp only [World.size_alloc] at hh
  have HH := hid hh
  have HB0 : Hid (Below w.heap.size w ((w.alloc (.cells #[.int .i64 k, .int .i64 c, .int .u32 r, pt.val] 26)).alloc (.cells #[.int .i64 0, .int .i64 0, .int .u32 0, .slice none 0 0] 26))) := bpush (bpush (Below.refl _ _) _) _
  clear hok hh
  unfold Part.val at *
  generalize L2 pt.zs = LX at *
  generalize pt.zs.length = l at *
  generalize pt.a = pa at *
  generalize pt.c = pc at *
  go_enter Try.func9, Try.ntmps9
  go_wp2_with fail
  generalize (w.alloc (.cells #[.int .i64 k, .int .i64 c, .int .u32 r, .slice pa l pc] 26)).alloc (.cells #[.int .i64 0, .int .i64 0, .int .u32 0, .slice none 0 0] 26) = W at *
  refine (CL.out _ HB0.out).mono ?_
  rintro e w1 ⟨rfl, hw⟩
  subst w1
  have HH1 := hid ((HH.out.below (bpush (Below.refl _ _) (.cells LX 5))).cons (heap_new W (.cells LX 5)))
  have HB1 : Hid (Below w.heap.size w (W.alloc (.cells LX 5))) := bpush HB0.out _
  have HSZ : Hid (w.heap.size + 2 ≤ W.heap.size) := by have := heap_lt (HH.out.at 0 _ _ rfl); unfold Hid; omega
  generalize W.alloc (.cells LX 5) = W1 at *
  generalize W.heap.size = gl at *
  have q0 : ∀ q, W1.cell? ⟨w.heap.size, q, none⟩ = (#[.int .i64 k, .int .i64 c, .int .u32 r, .slice pa l pc] : Array Value)[q]? := fun q => cell_of_heap (HH1.out.at 2 _ _ rfl) q
  have q1 : ∀ q, W1.cell? ⟨w.heap.size + 1, q, none⟩ = (#[.int .i64 0, .int .i64 0, .int .u32 0, .slice none 0 0] : Array Value)[q]? := fun q => cell_of_heap (HH1.out.at 1 _ _ rfl) q
  have f0 : ∀ q, W1.frozen? ⟨w.heap.size, q, none⟩ = false := fun q => frozen_of_heap (HH1.out.at 2 _ _ rfl) q
  have f1 : ∀ q, W1.frozen? ⟨w.heap.size + 1, q, none⟩ = false := fun q => frozen_of_heap (HH1.out.at 1 _ _ rfl) q
  go_wp2_with fail
  have bu : But (w.heap.size + 1) (W1.setCell ⟨w.heap.size, 3, none⟩ (.slice (some ⟨gl, 0, none⟩) l (l + 2))) _ := (((But.setCell _ _ 0 (.int .i64 k)).trans (But.setCell _ _ 1 (.int .i64 c))).trans (But.setCell _ _ 2 (.int .u32 r))).trans (But.setCell _ _ 3 (.slice (some ⟨gl, 0, none⟩) l (l + 2)))
  have b0 : But w.heap.size W1 (W1.setCell ⟨w.heap.size, 3, none⟩ (.slice (some ⟨gl, 0, none⟩) l (l + 2))) := But.setCell _ _ _ _
  have hsz := HSZ.out
  refine bodyPost_ret (v := .agg #[.int .i64 k, .int .i64 c, .int .u32 r, .slice (some ⟨gl, 0, none⟩) l (l + 2)]) ?_ (by rfl) ⟨gl, rfl, by omega, keptBut (keptBut (HH1.out.at 0 _ _ rfl) b0 (by omega)) bu (by omega), bbut (bbut HB1.out b0 (by omega)) bu (by omega)⟩
  exact results_row0 Try.results9 _ _ (w.heap.size + 1) 26 _ (0, 0) _ rfl (heap_setCell (j := 3) (heap_setCell (j := 2) (heap_setCell (j := 1) (heap_setCell (j := 0) (keptBut (HH1.out.at 1 _ _ rfl) b0 (by omega)))))) Try.underlying26 rfl (by kernel_rfl)
end Go.Proofs.Ythmfappindbjnaa
