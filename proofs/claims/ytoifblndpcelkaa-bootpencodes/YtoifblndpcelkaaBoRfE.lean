/-
  The document's Encode of bootp. Written by mkborfe.py.
-/
import Derived.Test.YtoifblndpcelkaaBoRfJ
import Derived.Test.YtoifblndpcelkaaORPk
import Derived.Test.YtoifblndpcelkaaBConv
import Derived.Test.YtoifblndpcelkaaBoLiv
namespace Go.Proofs.Ytoifblndpcelkaa
open Go.RowKit
set_option linter.all false

theorem OutE.app {B : Nat} {w W : World} {zs : List Int} {a : Option Addr} {n c : Nat} (h : OutE B w zs (.slice a n c) W) (hB : B ≤ W.heap.size) (ys : List Int) (hy : ∀ z, z ∈ ys → 0 ≤ z ∧ z ≤ 255) (hl : zs.length + ys.length ≤ 100000) (k : Nat) (hk : ys.length = k) :
    ∃ a' n' c' w', (Builtin.append_ #[33, 33] 33 #[.slice a n c, .slice (some ⟨W.heap.size, 0, none⟩) k k]).run Try.prog (W.alloc (.cells (u8s ys).toArray 5)) = .ok (.slice a' n' c') w' ∧ OutE B w (zs ++ ys) (.slice a' n' c') w' ∧ B ≤ w'.heap.size := by
  subst hk
  have hb := bpush (Below.refl _ W) (.cells (u8s ys).toArray 5)
  have hp : Part.ok (W.alloc (.cells (u8s ys).toArray 5)) ⟨some ⟨W.heap.size, 0, none⟩, ys.length, ys⟩ := Part.of_row (heap_new _ _) (Nat.le_refl _) hy
  obtain ⟨a', c', w', h1, h2, h3, h4⟩ := append_row_part (h.keep hB hb).row B (Nat.le_trans hB hb.size) h.low ⟨some ⟨W.heap.size, 0, none⟩, ys.length, ys⟩ hp (by simp only; omega) 33
  exact ⟨a', _, c', w', h1, ⟨h2, h4, (h.keep hB hb).below.trans h3⟩, Nat.le_trans (Nat.le_trans hB hb.size) h3.size⟩
theorem OutE.newer {B : Nat} {w W : World} {zs : List Int} {a : Option Addr} {n c : Nat} (h : OutE B w zs (.slice a n c) W) (g o cp : Nat) (ys : List Int) (hg : W.heap.size ≤ g) : ∀ b, (Value.slice a n c).ownBlock = some b → Part.off b ⟨some ⟨g, o, none⟩, cp, ys⟩ := fun b hb => Or.inr fun b' o' e => by
  simp only [Option.some.injEq, Addr.mk.injEq] at e
  have := h.row.lt hb
  omega
theorem OutE.elder {B : Nat} {w W : World} {zs : List Int} {a : Option Addr} {n c : Nat} (h : OutE B w zs (.slice a n c) W) (pt : Part) (hp : ∀ b o, pt.a = some ⟨b, o, none⟩ → pt.zs ≠ [] → b < B) : ∀ b, (Value.slice a n c).ownBlock = some b → pt.off b := fun b hb => by
  by_cases he : pt.zs = []
  · exact Or.inl he
  · refine Or.inr fun b' o e => ?_
    have := h.low b hb
    have := hp b' o e he
    omega
set_option maxRecDepth 20000 in
set_option maxHeartbeats 4000000 in
theorem refEnc_true (op hops xid secs ci yi si gi b0 b1 b2 b3 b4 b5 : Int) (sname file : ByteArray) (a : Option Addr) (n c : Nat) (w : World) (O : List Int) (hO : ∀ z, z ∈ O → 0 ≤ z ∧ z ≤ 255) (hol : O.length ≤ 1232) (hf : Fits ⟨op, hops, xid, secs, true, ci, yi, si, gi, ⟨b0, b1, b2, b3, b4, b5⟩, sname, file⟩)
    (HRF : Hid (∀ W, Below w.heap.size w W → Calls Try.prog 38 #[.agg #[.int .i64 op, .int .i64 hops, .int .u32 xid, .int .i64 secs, .bool true, .int .u32 ci, .int .u32 yi, .int .u32 si, .int .u32 gi, .int .u8 b0, .int .u8 b1, .int .u8 b2, .int .u8 b3, .int .u8 b4, .int .u8 b5, .string sname, .string file, .slice a n c]] W fun e w' => e = .returned (.int .i64 0) ∧ Hid (Below W.heap.size W w')))
    (HPK : Hid (∀ W, Below w.heap.size w W → Calls Try.prog 25 #[.slice a n c, .int .i64 1232] W fun e w' => ∃ ao co, e = .returned (.tuple #[.slice ao O.length co, .int .i64 0]) ∧ Hid (Ans W w' O ao O.length co))) :
    Calls Try.prog 12 #[.agg #[.int .i64 op, .int .i64 hops, .int .u32 xid, .int .i64 secs, .bool true, .int .u32 ci, .int .u32 yi, .int .u32 si, .int .u32 gi, .int .u8 b0, .int .u8 b1, .int .u8 b2, .int .u8 b3, .int .u8 b4, .int .u8 b5, .string sname, .string file, .slice a n c]] w fun e w' => ∃ ax nx cx, e = .returned (.tuple #[.slice ax nx cx, .int .i64 0]) ∧ Hid (Ans w w' (encL ⟨op, hops, xid, secs, true, ci, yi, si, gi, ⟨b0, b1, b2, b3, b4, b5⟩, sname, file⟩ O) ax nx cx) := by
  have HX0 := hid (heap_new w (.cells #[.int .i64 op, .int .i64 hops, .int .u32 xid, .int .i64 secs, .bool true, .int .u32 ci, .int .u32 yi, .int .u32 si, .int .u32 gi, .int .u8 b0, .int .u8 b1, .int .u8 b2, .int .u8 b3, .int .u8 b4, .int .u8 b5, .string sname, .string file, .slice a n c] 28))
  have HB0 := hid (bpush (Below.refl _ w) (.cells #[.int .i64 op, .int .i64 hops, .int .u32 xid, .int .i64 secs, .bool true, .int .u32 ci, .int .u32 yi, .int .u32 si, .int .u32 gi, .int .u8 b0, .int .u8 b1, .int .u8 b2, .int .u8 b3, .int .u8 b4, .int .u8 b5, .string sname, .string file, .slice a n c] 28))
  have HFS := hid hf
  have u1 := hf.ok.xid
  have u2 := hf.secs
  have u3 := hf.ok.ci
  have u4 := hf.ok.yi
  have u5 := hf.ok.si
  have u6 := hf.ok.gi
  have u7 := hf.sl
  have u8 := hf.fl
  have u9 := hf.hops
  have uo := hf.op
  simp only at u1 u2 u3 u4 u5 u6 u7 u8 u9 uo
  have HSZ : Hid (sname.size ≤ 63 ∧ file.size ≤ 127) := ⟨u7, u8⟩
  have wo : IntKind.u8.wrap op = op % 256 := by simp only [IntKind.wrap_u8]
  have wh : IntKind.u8.wrap hops = hops % 256 := by simp only [IntKind.wrap_u8]
  have wx : IntKind.u64.wrap xid = xid := by simp only [IntKind.wrap_u64]; omega
  have ws : IntKind.u64.wrap secs = secs := by simp only [IntKind.wrap_u64]; omega
  have w5' : IntKind.u64.wrap ci = ci := by simp only [IntKind.wrap_u64]; omega
  have w6' : IntKind.u64.wrap yi = yi := by simp only [IntKind.wrap_u64]; omega
  have w7' : IntKind.u64.wrap si = si := by simp only [IntKind.wrap_u64]; omega
  have w8' : IntKind.u64.wrap gi = gi := by simp only [IntKind.wrap_u64]; omega
  have ox : xid % 18446744073709551616 = xid := by omega
  have osx : secs % 18446744073709551616 = secs := by omega
  have o5 : ci % 18446744073709551616 = ci := by omega
  have o6 : yi % 18446744073709551616 = yi := by omega
  have o7 : si % 18446744073709551616 = si := by omega
  have o8 : gi % 18446744073709551616 = gi := by omega
  have HMZ : Hid (∀ z, z ∈ [b0, b1, b2, b3, b4, b5] → 0 ≤ z ∧ z ≤ 255) := Mac.bytes hf.ok.mac
  have HUX : Hid ((0 ≤ xid ∧ xid ≤ 18446744073709551615) ∧ (0 ≤ secs ∧ secs ≤ 18446744073709551615) ∧ (0 ≤ ci ∧ ci ≤ 18446744073709551615) ∧ (0 ≤ yi ∧ yi ≤ 18446744073709551615) ∧ (0 ≤ si ∧ si ≤ 18446744073709551615) ∧ (0 ≤ gi ∧ gi ≤ 18446744073709551615)) := by unfold Hid; omega
  clear hf u1 u2 u3 u4 u5 u6 u7 u8 u9 uo
  have HOB := hid hO
  obtain ⟨o, ho⟩ : ∃ o, o = O.length := ⟨_, rfl⟩
  have HOL := hid ho
  rw [← ho] at hol HPK
  clear hO ho
  have cc := fun q => cell_of_heap HX0.out q
  go_enter Try.func12, Try.ntmps12
  go_upto_region 4 with (first
    | (refine wpList_load_row rfl 28 _ rfl w.heap.size rfl 28 _ (0, 0) _ HX0.out Try.underlying28 rfl (by exact sizeBp) ?_)
    | (go_at_call 38; refine (HRF.out _ HB0.out).mono ?_; rintro e w1 ⟨rfl, HB1⟩)
    | fail)
  have HX1 := hid (kept HX0.out HB1.out)
  have c1 := fun q => cell_of_heap HX1.out q
  have HB2 := hid (bstep HB0.out HB1.out)
  clear cc
  go_upto_region 7 with (first
    | (go_at_call 25; refine (HPK.out _ HB2.out).mono ?_; rintro e w2 ⟨ao, co, rfl, HA⟩)
    | fail)
  have hA := HA.out
  rw [HOL.out] at hA
  have HX2 := hid (kept HX1.out hA.2.2)
  have HB3 := hid (bstep HB2.out hA.2.2)
  have HOP : Hid (Part.ok w2 ⟨ao, co, O⟩) := by
    obtain ⟨pt, e1, e2, ok⟩ := hA.1.part HOB.out
    obtain ⟨pa, pc, pz⟩ := pt
    simp only [Part.val, Value.slice.injEq] at e1 e2
    obtain ⟨rfl, _, rfl⟩ := e1
    subst e2
    exact ok
  clear hA HA HB2 HX1 c1 HX0 HB0 HRF HPK HB1
  obtain ⟨gb, hgb⟩ : ∃ g, g = w.heap.size := ⟨_, rfl⟩
  rw [← hgb] at HX2 ⊢
  have HGB := hid hgb
  clear hgb
  obtain ⟨B, hBB⟩ : ∃ B, B = w2.heap.size := ⟨_, rfl⟩
  have HBE := hid hBB
  have HGL : Hid (gb < B) := by rw [hBB]; exact heap_lt HX2.out
  have HPL : Hid (∀ b o, ao = some ⟨b, o, none⟩ → O ≠ [] → b < B) := by rw [hBB]; exact Part.low HOP.out
  clear hBB
  have c2 := fun q => cell_of_heap HX2.out q
  have HLW : Hid (∀ W, Below B w2 W → W.heap[gb]? = some (.cells #[.int .i64 op, .int .i64 hops, .int .u32 xid, .int .i64 secs, .bool true, .int .u32 ci, .int .u32 yi, .int .u32 si, .int .u32 gi, .int .u8 b0, .int .u8 b1, .int .u8 b2, .int .u8 b3, .int .u8 b4, .int .u8 b5, .string sname, .string file, .slice a n c] 28 (0, 0))) := fun W hb => (hb.block gb HGL.out).trans HX2.out
  have HLO : Hid (∀ W, Below B w2 W → Part.ok W ⟨ao, co, O⟩) := fun W hb => Part.ok_lo HOP.out HPL.out hb
  have HU8 : Hid (w2.alloc (.cells #[.int .u8 (op % 256), .int .u8 1, .int .u8 6, .int .u8 (hops % 256)] 5) = w2.alloc (.cells (u8s [op % 256, 1, 6, hops % 256]).toArray 5)) := rfl
  go_upto_region 8 with (fail)
  have HO3 : Hid (OutE B w2 [op % 256, 1, 6, hops % 256] (.slice (some ⟨w2.heap.size, 0, none⟩) 4 4) (w2.alloc (.cells #[.int .u8 (op % 256), .int .u8 1, .int .u8 6, .int .u8 (hops % 256)] 5)) ∧ B ≤ (w2.alloc (.cells #[.int .u8 (op % 256), .int .u8 1, .int .u8 6, .int .u8 (hops % 256)] 5)).heap.size) := by
    have hr := Row.of_heap (heap_new w2 (.cells (u8s [op % 256, 1, 6, hops % 256]).toArray 5)) (by simp [u8s]; unfold maxLen; omega)
    refine ⟨⟨hr, fun b hb => by simp [Value.ownBlock] at hb; have := HBE.out; omega, by rw [HBE.out]; exact bpush (Below.refl _ _) _⟩, by rw [HBE.out]; simp⟩
  have c3 := fun q => cell_of_heap (HLW.out _ HO3.out.1.below) q
  clear c2 HU8 HX2
  generalize w2.alloc (.cells #[.int .u8 (op % 256), .int .u8 1, .int .u8 6, .int .u8 (hops % 256)] 5) = W3 at *
  obtain ⟨a3, ha3⟩ : ∃ a3, a3 = (some (⟨w2.heap.size, 0, none⟩ : Addr)) := ⟨_, rfl⟩
  rw [← ha3] at HO3 ⊢
  clear ha3
  obtain ⟨n3, hn3⟩ : ∃ n3 : Nat, n3 = 4 := ⟨_, rfl⟩
  obtain ⟨z3, hz3⟩ : ∃ z3, z3 = [op % 256, 1, 6, hops % 256] := ⟨_, rfl⟩
  have HZ3 := hid hz3
  have HL3 : Hid (z3.length ≤ 4) := by unfold Hid; rw [hz3]; simp
  rw [← hz3] at HO3
  clear hz3 hn3 n3
  go_upto_region 9 with (first
    | (go_at_call 39; refine (outNum_any xid 4 (by omega) HUX.out.1 HO3.out.1 HO3.out.2 (by have := HL3.out; omega)).mono ?_; rintro e W4 ⟨a4, n4, c_4, rfl, HQ4⟩)
    | fail)
  obtain ⟨z4, hz4⟩ : ∃ z, z = z3 ++ byN xid 4 := ⟨_, rfl⟩
  have HZ4 := hid hz4
  have HO4 : Hid (OutE B w2 z4 (.slice a4 n4 c_4) W4 ∧ B ≤ W4.heap.size) := by rw [hz4]; exact HQ4.out
  have HL4 : Hid (z4.length ≤ 8) := by
    unfold Hid
    rw [hz4]
    have h0 := HL3.out
    have h1 := HSZ.out
    have h2 := HOL.out
    simp [byN_len, nums_len, zs0_len]
    omega
  have c4 := fun q => cell_of_heap (HLW.out _ HO4.out.1.below) q
  clear hz4 HQ4 HO3 HL3 c3
  go_upto_region 10 with (first
    | (go_at_call 39; refine (outNum_any secs 2 (by omega) HUX.out.2.1 HO4.out.1 HO4.out.2 (by have := HL4.out; omega)).mono ?_; rintro e W5 ⟨a5, n5, c_5, rfl, HQ5⟩)
    | fail)
  obtain ⟨z5, hz5⟩ : ∃ z, z = z4 ++ byN secs 2 := ⟨_, rfl⟩
  have HZ5 := hid hz5
  have HO5 : Hid (OutE B w2 z5 (.slice a5 n5 c_5) W5 ∧ B ≤ W5.heap.size) := by rw [hz5]; exact HQ5.out
  have HL5 : Hid (z5.length ≤ 10) := by
    unfold Hid
    rw [hz5]
    have h0 := HL4.out
    have h1 := HSZ.out
    have h2 := HOL.out
    simp [byN_len, nums_len, zs0_len]
    omega
  have c5 := fun q => cell_of_heap (HLW.out _ HO5.out.1.below) q
  clear hz5 HQ5 HO4 HL4 c4
  obtain ⟨a6, n6, c_6, W6, r6, q6, v6⟩ := HO5.out.1.app HO5.out.2 [128, 0] (by simp) (by have := HL5.out; simp; omega) 2 rfl
  have HRUN := hid r6
  have HQ6 : Hid (OutE B w2 (z5 ++ [128, 0]) (.slice a6 n6 c_6) W6 ∧ B ≤ W6.heap.size) := ⟨q6, v6⟩
  clear r6 q6 v6
  go_upto_region 13 with (first
    | (at_builtin; refine wpList_append_run _ rfl _ _ 33 33 rfl _ _ rfl rfl HRUN.out ?_; clear HRUN)
    | fail)
  obtain ⟨z6, hz6⟩ : ∃ z, z = z5 ++ [128, 0] := ⟨_, rfl⟩
  have HZ6 := hid hz6
  have HO6 : Hid (OutE B w2 z6 (.slice a6 n6 c_6) W6 ∧ B ≤ W6.heap.size) := by rw [hz6]; exact HQ6.out
  have HL6 : Hid (z6.length ≤ 12) := by
    unfold Hid
    rw [hz6]
    have h0 := HL5.out
    have h1 := HSZ.out
    have h2 := HOL.out
    simp [byN_len, nums_len, zs0_len]
    omega
  have c6 := fun q => cell_of_heap (HLW.out _ HO6.out.1.below) q
  clear hz6 HQ6 HO5 HL5 c5
  go_upto_region 14 with (first
    | (go_at_call 39; refine (outNum_any ci 4 (by omega) HUX.out.2.2.1 HO6.out.1 HO6.out.2 (by have := HL6.out; omega)).mono ?_; rintro e W7 ⟨a7, n7, c_7, rfl, HQ7⟩)
    | fail)
  obtain ⟨z7, hz7⟩ : ∃ z, z = z6 ++ byN ci 4 := ⟨_, rfl⟩
  have HZ7 := hid hz7
  have HO7 : Hid (OutE B w2 z7 (.slice a7 n7 c_7) W7 ∧ B ≤ W7.heap.size) := by rw [hz7]; exact HQ7.out
  have HL7 : Hid (z7.length ≤ 16) := by
    unfold Hid
    rw [hz7]
    have h0 := HL6.out
    have h1 := HSZ.out
    have h2 := HOL.out
    simp [byN_len, nums_len, zs0_len]
    omega
  have c7 := fun q => cell_of_heap (HLW.out _ HO7.out.1.below) q
  clear hz7 HQ7 HO6 HL6 c6
  go_upto_region 15 with (first
    | (go_at_call 39; refine (outNum_any yi 4 (by omega) HUX.out.2.2.2.1 HO7.out.1 HO7.out.2 (by have := HL7.out; omega)).mono ?_; rintro e W8 ⟨a8, n8, c_8, rfl, HQ8⟩)
    | fail)
  obtain ⟨z8, hz8⟩ : ∃ z, z = z7 ++ byN yi 4 := ⟨_, rfl⟩
  have HZ8 := hid hz8
  have HO8 : Hid (OutE B w2 z8 (.slice a8 n8 c_8) W8 ∧ B ≤ W8.heap.size) := by rw [hz8]; exact HQ8.out
  have HL8 : Hid (z8.length ≤ 20) := by
    unfold Hid
    rw [hz8]
    have h0 := HL7.out
    have h1 := HSZ.out
    have h2 := HOL.out
    simp [byN_len, nums_len, zs0_len]
    omega
  have c8 := fun q => cell_of_heap (HLW.out _ HO8.out.1.below) q
  clear hz8 HQ8 HO7 HL7 c7
  go_upto_region 16 with (first
    | (go_at_call 39; refine (outNum_any si 4 (by omega) HUX.out.2.2.2.2.1 HO8.out.1 HO8.out.2 (by have := HL8.out; omega)).mono ?_; rintro e W9 ⟨a9, n9, c_9, rfl, HQ9⟩)
    | fail)
  obtain ⟨z9, hz9⟩ : ∃ z, z = z8 ++ byN si 4 := ⟨_, rfl⟩
  have HZ9 := hid hz9
  have HO9 : Hid (OutE B w2 z9 (.slice a9 n9 c_9) W9 ∧ B ≤ W9.heap.size) := by rw [hz9]; exact HQ9.out
  have HL9 : Hid (z9.length ≤ 24) := by
    unfold Hid
    rw [hz9]
    have h0 := HL8.out
    have h1 := HSZ.out
    have h2 := HOL.out
    simp [byN_len, nums_len, zs0_len]
    omega
  have c9 := fun q => cell_of_heap (HLW.out _ HO9.out.1.below) q
  clear hz9 HQ9 HO8 HL8 c8
  go_upto_region 17 with (first
    | (go_at_call 39; refine (outNum_any gi 4 (by omega) HUX.out.2.2.2.2.2 HO9.out.1 HO9.out.2 (by have := HL9.out; omega)).mono ?_; rintro e W10 ⟨a10, n10, c_10, rfl, HQ10⟩)
    | fail)
  obtain ⟨z10, hz10⟩ : ∃ z, z = z9 ++ byN gi 4 := ⟨_, rfl⟩
  have HZ10 := hid hz10
  have HO10 : Hid (OutE B w2 z10 (.slice a10 n10 c_10) W10 ∧ B ≤ W10.heap.size) := by rw [hz10]; exact HQ10.out
  have HL10 : Hid (z10.length ≤ 28) := by
    unfold Hid
    rw [hz10]
    have h0 := HL9.out
    have h1 := HSZ.out
    have h2 := HOL.out
    simp [byN_len, nums_len, zs0_len]
    omega
  have c10 := fun q => cell_of_heap (HLW.out _ HO10.out.1.below) q
  clear hz10 HQ10 HO9 HL9 c9
  have HPM : Hid (Part.ok W10 ⟨some ⟨gb, 9, none⟩, 6, [b0, b1, b2, b3, b4, b5]⟩) := Part.of_heap (HLW.out _ HO10.out.1.below) 9 (by simp) (fun j hj => by
    have hj6 : j < 6 := by simpa using hj
    rcases (show j = 0 ∨ j = 1 ∨ j = 2 ∨ j = 3 ∨ j = 4 ∨ j = 5 by omega) with rfl | rfl | rfl | rfl | rfl | rfl <;> rfl) HMZ.out
  have HAD := hid (outAdd_any ⟨some ⟨gb, 9, none⟩, 6, [b0, b1, b2, b3, b4, b5]⟩ 16 HO10.out.1 HO10.out.2 HPM.out (HO10.out.1.elder _ (fun b o e _ => by
    simp only [Option.some.injEq, Addr.mk.injEq] at e
    have := HGL.out
    omega)) (by have := HL10.out; simp; omega))
  go_upto_region 18 with (first
    | (go_at_call 40; refine HAD.out.mono ?_; rintro e W11 ⟨a11, n11, c_11, rfl, HQ11⟩; clear HAD HPM)
    | fail)
  obtain ⟨z11, hz11⟩ : ∃ z, z = z10 ++ [b0, b1, b2, b3, b4, b5] ++ zs0 (16 - [b0, b1, b2, b3, b4, b5].length) := ⟨_, rfl⟩
  have HZ11 := hid hz11
  have HO11 : Hid (OutE B w2 z11 (.slice a11 n11 c_11) W11 ∧ B ≤ W11.heap.size) := by rw [hz11]; exact HQ11.out
  have HL11 : Hid (z11.length ≤ 44) := by
    unfold Hid
    rw [hz11]
    have h0 := HL10.out
    have h1 := HSZ.out
    have h2 := HOL.out
    simp [byN_len, nums_len, zs0_len]
    omega
  have c11 := fun q => cell_of_heap (HLW.out _ HO11.out.1.below) q
  clear hz11 HQ11 HO10 HL10 c10
  obtain ⟨cap11, wc11, cv11, rv11, bv11, _⟩ := conv_row W11 (nums sname) (nums_bd sname) (by rw [nums_len]; have := HSZ.out; unfold maxLen; omega)
  rw [str_nums] at cv11
  have hb11 : Below W11.heap.size W11 wc11 := bv11
  have HPS : Hid (Part.ok wc11 ⟨some ⟨W11.heap.size, 0, none⟩, cap11, nums sname⟩) := by
    obtain ⟨pt, e1, e2, ok⟩ := rv11.part (nums_bd sname)
    obtain ⟨pa, pc, pz⟩ := pt
    simp only [Part.val, Value.slice.injEq] at e1 e2
    obtain ⟨rfl, _, rfl⟩ := e1
    subst e2
    exact ok
  have HAD := hid (outAdd_any ⟨some ⟨W11.heap.size, 0, none⟩, cap11, nums sname⟩ 64 (HO11.out.1.keep HO11.out.2 hb11) (Nat.le_trans HO11.out.2 hb11.size) HPS.out (HO11.out.1.newer _ _ _ _ (Nat.le_refl _)) (by have := HL11.out; have := HSZ.out; simp only [nums_len]; omega))
  simp only [Part.val] at HAD
  clear rv11 bv11 hb11 HPS
  obtain ⟨ln11, hln11⟩ : ∃ l, l = (nums sname).length := ⟨_, rfl⟩
  have HLN11 := hid hln11
  rw [← hln11] at HAD cv11
  clear hln11
  go_upto_region 19 with (first
    | (go_at_call 40; refine HAD.out.mono ?_; rintro e W12 ⟨a12, n12, c_12, rfl, HQ12⟩; clear HAD cv11; rw [HLN11.out] at HQ12)
    | fail)
  obtain ⟨z12, hz12⟩ : ∃ z, z = z11 ++ nums sname ++ zs0 (64 - (nums sname).length) := ⟨_, rfl⟩
  have HZ12 := hid hz12
  have HO12 : Hid (OutE B w2 z12 (.slice a12 n12 c_12) W12 ∧ B ≤ W12.heap.size) := by rw [hz12]; exact HQ12.out
  have HL12 : Hid (z12.length ≤ 108) := by
    unfold Hid
    rw [hz12]
    have h0 := HL11.out
    have h1 := HSZ.out
    have h2 := HOL.out
    simp [byN_len, nums_len, zs0_len]
    omega
  have c12 := fun q => cell_of_heap (HLW.out _ HO12.out.1.below) q
  clear hz12 HQ12 HO11 HL11 c11
  obtain ⟨cap12, wc12, cv12, rv12, bv12, _⟩ := conv_row W12 (nums file) (nums_bd file) (by rw [nums_len]; have := HSZ.out; unfold maxLen; omega)
  rw [str_nums] at cv12
  have hb12 : Below W12.heap.size W12 wc12 := bv12
  have HPS : Hid (Part.ok wc12 ⟨some ⟨W12.heap.size, 0, none⟩, cap12, nums file⟩) := by
    obtain ⟨pt, e1, e2, ok⟩ := rv12.part (nums_bd file)
    obtain ⟨pa, pc, pz⟩ := pt
    simp only [Part.val, Value.slice.injEq] at e1 e2
    obtain ⟨rfl, _, rfl⟩ := e1
    subst e2
    exact ok
  have HAD := hid (outAdd_any ⟨some ⟨W12.heap.size, 0, none⟩, cap12, nums file⟩ 128 (HO12.out.1.keep HO12.out.2 hb12) (Nat.le_trans HO12.out.2 hb12.size) HPS.out (HO12.out.1.newer _ _ _ _ (Nat.le_refl _)) (by have := HL12.out; have := HSZ.out; simp only [nums_len]; omega))
  simp only [Part.val] at HAD
  clear rv12 bv12 hb12 HPS
  obtain ⟨ln12, hln12⟩ : ∃ l, l = (nums file).length := ⟨_, rfl⟩
  have HLN12 := hid hln12
  rw [← hln12] at HAD cv12
  clear hln12
  go_upto_region 20 with (first
    | (go_at_call 40; refine HAD.out.mono ?_; rintro e W13 ⟨a13, n13, c_13, rfl, HQ13⟩; clear HAD cv12; rw [HLN12.out] at HQ13)
    | fail)
  obtain ⟨z13, hz13⟩ : ∃ z, z = z12 ++ nums file ++ zs0 (128 - (nums file).length) := ⟨_, rfl⟩
  have HZ13 := hid hz13
  have HO13 : Hid (OutE B w2 z13 (.slice a13 n13 c_13) W13 ∧ B ≤ W13.heap.size) := by rw [hz13]; exact HQ13.out
  have HL13 : Hid (z13.length ≤ 236) := by
    unfold Hid
    rw [hz13]
    have h0 := HL12.out
    have h1 := HSZ.out
    have h2 := HOL.out
    simp [byN_len, nums_len, zs0_len]
    omega
  have c13 := fun q => cell_of_heap (HLW.out _ HO13.out.1.below) q
  clear hz13 HQ13 HO12 HL12 c12
  obtain ⟨a14, n14, c_14, W14, r14, q14, v14⟩ := HO13.out.1.app HO13.out.2 [99, 130, 83, 99] (by simp) (by have := HL13.out; simp; omega) 4 rfl
  have HRUN := hid r14
  have HQ14 : Hid (OutE B w2 (z13 ++ [99, 130, 83, 99]) (.slice a14 n14 c_14) W14 ∧ B ≤ W14.heap.size) := ⟨q14, v14⟩
  clear r14 q14 v14
  go_upto_region 21 with (first
    | (at_builtin; refine wpList_append_run _ rfl _ _ 33 33 rfl _ _ rfl rfl HRUN.out ?_; clear HRUN)
    | fail)
  obtain ⟨z14, hz14⟩ : ∃ z, z = z13 ++ [99, 130, 83, 99] := ⟨_, rfl⟩
  have HZ14 := hid hz14
  have HO14 : Hid (OutE B w2 z14 (.slice a14 n14 c_14) W14 ∧ B ≤ W14.heap.size) := by rw [hz14]; exact HQ14.out
  have HL14 : Hid (z14.length ≤ 240) := by
    unfold Hid
    rw [hz14]
    have h0 := HL13.out
    have h1 := HSZ.out
    have h2 := HOL.out
    simp [byN_len, nums_len, zs0_len]
    omega
  have c14 := fun q => cell_of_heap (HLW.out _ HO14.out.1.below) q
  clear hz14 HQ14 HO13 HL13 c13
  have HAD := hid (outAdd_any ⟨ao, co, O⟩ 60 HO14.out.1 HO14.out.2 (HLO.out _ HO14.out.1.below) (HO14.out.1.elder _ HPL.out) (by have := HL14.out; have := HOL.out; simp only; omega))
  simp only [Part.val, ← HOL.out] at HAD
  go_wp2_with (first
    | (go_at_call 40; refine HAD.out.mono ?_; rintro e W15 ⟨a15, n15, c_15, rfl, HQ15⟩; clear HAD)
    | fail)
  go_ret2
  refine ⟨a15, n15, c_15, rfl, ?_⟩
  have hq := HQ15.out.1
  rw [HOL.out, HZ14.out, HZ13.out, HZ12.out, HZ11.out, HZ10.out, HZ9.out, HZ8.out, HZ7.out, HZ6.out, HZ5.out, HZ4.out, HZ3.out] at hq
  have he : encL ⟨op, hops, xid, secs, true, ci, yi, si, gi, ⟨b0, b1, b2, b3, b4, b5⟩, sname, file⟩ O = [op % 256, 1, 6, hops % 256] ++ byN xid 4 ++ byN secs 2 ++ [128, 0] ++ byN ci 4 ++ byN yi 4 ++ byN si 4 ++ byN gi 4 ++ [b0, b1, b2, b3, b4, b5] ++ zs0 (16 - [b0, b1, b2, b3, b4, b5].length) ++ nums sname ++ zs0 (64 - (nums sname).length) ++ nums file ++ zs0 (128 - (nums file).length) ++ [99, 130, 83, 99] ++ O ++ zs0 (60 - O.length) := by
    have := encL_form ⟨op, hops, xid, secs, true, ci, yi, si, gi, ⟨b0, b1, b2, b3, b4, b5⟩, sname, file⟩ O []
    rw [List.append_nil] at this
    rw [this]
    simp only [rmSn, rmFl, nums_len, List.append_assoc, List.append_nil]
    rfl
  rw [he]
  refine ⟨hq.row, fun b hb => ?_, ?_⟩
  · have := hq.low b hb
    have := HBE.out
    have := HB3.out.size
    omega
  · exact HB3.out.trans (hq.below.mono (by rw [HBE.out]; exact HB3.out.size))
set_option maxRecDepth 20000 in
set_option maxHeartbeats 4000000 in
theorem refEnc_false (op hops xid secs ci yi si gi b0 b1 b2 b3 b4 b5 : Int) (sname file : ByteArray) (a : Option Addr) (n c : Nat) (w : World) (O : List Int) (hO : ∀ z, z ∈ O → 0 ≤ z ∧ z ≤ 255) (hol : O.length ≤ 1232) (hf : Fits ⟨op, hops, xid, secs, false, ci, yi, si, gi, ⟨b0, b1, b2, b3, b4, b5⟩, sname, file⟩)
    (HRF : Hid (∀ W, Below w.heap.size w W → Calls Try.prog 38 #[.agg #[.int .i64 op, .int .i64 hops, .int .u32 xid, .int .i64 secs, .bool false, .int .u32 ci, .int .u32 yi, .int .u32 si, .int .u32 gi, .int .u8 b0, .int .u8 b1, .int .u8 b2, .int .u8 b3, .int .u8 b4, .int .u8 b5, .string sname, .string file, .slice a n c]] W fun e w' => e = .returned (.int .i64 0) ∧ Hid (Below W.heap.size W w')))
    (HPK : Hid (∀ W, Below w.heap.size w W → Calls Try.prog 25 #[.slice a n c, .int .i64 1232] W fun e w' => ∃ ao co, e = .returned (.tuple #[.slice ao O.length co, .int .i64 0]) ∧ Hid (Ans W w' O ao O.length co))) :
    Calls Try.prog 12 #[.agg #[.int .i64 op, .int .i64 hops, .int .u32 xid, .int .i64 secs, .bool false, .int .u32 ci, .int .u32 yi, .int .u32 si, .int .u32 gi, .int .u8 b0, .int .u8 b1, .int .u8 b2, .int .u8 b3, .int .u8 b4, .int .u8 b5, .string sname, .string file, .slice a n c]] w fun e w' => ∃ ax nx cx, e = .returned (.tuple #[.slice ax nx cx, .int .i64 0]) ∧ Hid (Ans w w' (encL ⟨op, hops, xid, secs, false, ci, yi, si, gi, ⟨b0, b1, b2, b3, b4, b5⟩, sname, file⟩ O) ax nx cx) := by
  have HX0 := hid (heap_new w (.cells #[.int .i64 op, .int .i64 hops, .int .u32 xid, .int .i64 secs, .bool false, .int .u32 ci, .int .u32 yi, .int .u32 si, .int .u32 gi, .int .u8 b0, .int .u8 b1, .int .u8 b2, .int .u8 b3, .int .u8 b4, .int .u8 b5, .string sname, .string file, .slice a n c] 28))
  have HB0 := hid (bpush (Below.refl _ w) (.cells #[.int .i64 op, .int .i64 hops, .int .u32 xid, .int .i64 secs, .bool false, .int .u32 ci, .int .u32 yi, .int .u32 si, .int .u32 gi, .int .u8 b0, .int .u8 b1, .int .u8 b2, .int .u8 b3, .int .u8 b4, .int .u8 b5, .string sname, .string file, .slice a n c] 28))
  have HFS := hid hf
  have u1 := hf.ok.xid
  have u2 := hf.secs
  have u3 := hf.ok.ci
  have u4 := hf.ok.yi
  have u5 := hf.ok.si
  have u6 := hf.ok.gi
  have u7 := hf.sl
  have u8 := hf.fl
  have u9 := hf.hops
  have uo := hf.op
  simp only at u1 u2 u3 u4 u5 u6 u7 u8 u9 uo
  have HSZ : Hid (sname.size ≤ 63 ∧ file.size ≤ 127) := ⟨u7, u8⟩
  have wo : IntKind.u8.wrap op = op % 256 := by simp only [IntKind.wrap_u8]
  have wh : IntKind.u8.wrap hops = hops % 256 := by simp only [IntKind.wrap_u8]
  have wx : IntKind.u64.wrap xid = xid := by simp only [IntKind.wrap_u64]; omega
  have ws : IntKind.u64.wrap secs = secs := by simp only [IntKind.wrap_u64]; omega
  have w5' : IntKind.u64.wrap ci = ci := by simp only [IntKind.wrap_u64]; omega
  have w6' : IntKind.u64.wrap yi = yi := by simp only [IntKind.wrap_u64]; omega
  have w7' : IntKind.u64.wrap si = si := by simp only [IntKind.wrap_u64]; omega
  have w8' : IntKind.u64.wrap gi = gi := by simp only [IntKind.wrap_u64]; omega
  have ox : xid % 18446744073709551616 = xid := by omega
  have osx : secs % 18446744073709551616 = secs := by omega
  have o5 : ci % 18446744073709551616 = ci := by omega
  have o6 : yi % 18446744073709551616 = yi := by omega
  have o7 : si % 18446744073709551616 = si := by omega
  have o8 : gi % 18446744073709551616 = gi := by omega
  have HMZ : Hid (∀ z, z ∈ [b0, b1, b2, b3, b4, b5] → 0 ≤ z ∧ z ≤ 255) := Mac.bytes hf.ok.mac
  have HUX : Hid ((0 ≤ xid ∧ xid ≤ 18446744073709551615) ∧ (0 ≤ secs ∧ secs ≤ 18446744073709551615) ∧ (0 ≤ ci ∧ ci ≤ 18446744073709551615) ∧ (0 ≤ yi ∧ yi ≤ 18446744073709551615) ∧ (0 ≤ si ∧ si ≤ 18446744073709551615) ∧ (0 ≤ gi ∧ gi ≤ 18446744073709551615)) := by unfold Hid; omega
  clear hf u1 u2 u3 u4 u5 u6 u7 u8 u9 uo
  have HOB := hid hO
  obtain ⟨o, ho⟩ : ∃ o, o = O.length := ⟨_, rfl⟩
  have HOL := hid ho
  rw [← ho] at hol HPK
  clear hO ho
  have cc := fun q => cell_of_heap HX0.out q
  go_enter Try.func12, Try.ntmps12
  go_upto_region 4 with (first
    | (refine wpList_load_row rfl 28 _ rfl w.heap.size rfl 28 _ (0, 0) _ HX0.out Try.underlying28 rfl (by exact sizeBp) ?_)
    | (go_at_call 38; refine (HRF.out _ HB0.out).mono ?_; rintro e w1 ⟨rfl, HB1⟩)
    | fail)
  have HX1 := hid (kept HX0.out HB1.out)
  have c1 := fun q => cell_of_heap HX1.out q
  have HB2 := hid (bstep HB0.out HB1.out)
  clear cc
  go_upto_region 7 with (first
    | (go_at_call 25; refine (HPK.out _ HB2.out).mono ?_; rintro e w2 ⟨ao, co, rfl, HA⟩)
    | fail)
  have hA := HA.out
  rw [HOL.out] at hA
  have HX2 := hid (kept HX1.out hA.2.2)
  have HB3 := hid (bstep HB2.out hA.2.2)
  have HOP : Hid (Part.ok w2 ⟨ao, co, O⟩) := by
    obtain ⟨pt, e1, e2, ok⟩ := hA.1.part HOB.out
    obtain ⟨pa, pc, pz⟩ := pt
    simp only [Part.val, Value.slice.injEq] at e1 e2
    obtain ⟨rfl, _, rfl⟩ := e1
    subst e2
    exact ok
  clear hA HA HB2 HX1 c1 HX0 HB0 HRF HPK HB1
  obtain ⟨gb, hgb⟩ : ∃ g, g = w.heap.size := ⟨_, rfl⟩
  rw [← hgb] at HX2 ⊢
  have HGB := hid hgb
  clear hgb
  obtain ⟨B, hBB⟩ : ∃ B, B = w2.heap.size := ⟨_, rfl⟩
  have HBE := hid hBB
  have HGL : Hid (gb < B) := by rw [hBB]; exact heap_lt HX2.out
  have HPL : Hid (∀ b o, ao = some ⟨b, o, none⟩ → O ≠ [] → b < B) := by rw [hBB]; exact Part.low HOP.out
  clear hBB
  have c2 := fun q => cell_of_heap HX2.out q
  have HLW : Hid (∀ W, Below B w2 W → W.heap[gb]? = some (.cells #[.int .i64 op, .int .i64 hops, .int .u32 xid, .int .i64 secs, .bool false, .int .u32 ci, .int .u32 yi, .int .u32 si, .int .u32 gi, .int .u8 b0, .int .u8 b1, .int .u8 b2, .int .u8 b3, .int .u8 b4, .int .u8 b5, .string sname, .string file, .slice a n c] 28 (0, 0))) := fun W hb => (hb.block gb HGL.out).trans HX2.out
  have HLO : Hid (∀ W, Below B w2 W → Part.ok W ⟨ao, co, O⟩) := fun W hb => Part.ok_lo HOP.out HPL.out hb
  have HU8 : Hid (w2.alloc (.cells #[.int .u8 (op % 256), .int .u8 1, .int .u8 6, .int .u8 (hops % 256)] 5) = w2.alloc (.cells (u8s [op % 256, 1, 6, hops % 256]).toArray 5)) := rfl
  go_upto_region 8 with (fail)
  have HO3 : Hid (OutE B w2 [op % 256, 1, 6, hops % 256] (.slice (some ⟨w2.heap.size, 0, none⟩) 4 4) (w2.alloc (.cells #[.int .u8 (op % 256), .int .u8 1, .int .u8 6, .int .u8 (hops % 256)] 5)) ∧ B ≤ (w2.alloc (.cells #[.int .u8 (op % 256), .int .u8 1, .int .u8 6, .int .u8 (hops % 256)] 5)).heap.size) := by
    have hr := Row.of_heap (heap_new w2 (.cells (u8s [op % 256, 1, 6, hops % 256]).toArray 5)) (by simp [u8s]; unfold maxLen; omega)
    refine ⟨⟨hr, fun b hb => by simp [Value.ownBlock] at hb; have := HBE.out; omega, by rw [HBE.out]; exact bpush (Below.refl _ _) _⟩, by rw [HBE.out]; simp⟩
  have c3 := fun q => cell_of_heap (HLW.out _ HO3.out.1.below) q
  clear c2 HU8 HX2
  generalize w2.alloc (.cells #[.int .u8 (op % 256), .int .u8 1, .int .u8 6, .int .u8 (hops % 256)] 5) = W3 at *
  obtain ⟨a3, ha3⟩ : ∃ a3, a3 = (some (⟨w2.heap.size, 0, none⟩ : Addr)) := ⟨_, rfl⟩
  rw [← ha3] at HO3 ⊢
  clear ha3
  obtain ⟨n3, hn3⟩ : ∃ n3 : Nat, n3 = 4 := ⟨_, rfl⟩
  obtain ⟨z3, hz3⟩ : ∃ z3, z3 = [op % 256, 1, 6, hops % 256] := ⟨_, rfl⟩
  have HZ3 := hid hz3
  have HL3 : Hid (z3.length ≤ 4) := by unfold Hid; rw [hz3]; simp
  rw [← hz3] at HO3
  clear hz3 hn3 n3
  go_upto_region 9 with (first
    | (go_at_call 39; refine (outNum_any xid 4 (by omega) HUX.out.1 HO3.out.1 HO3.out.2 (by have := HL3.out; omega)).mono ?_; rintro e W4 ⟨a4, n4, c_4, rfl, HQ4⟩)
    | fail)
  obtain ⟨z4, hz4⟩ : ∃ z, z = z3 ++ byN xid 4 := ⟨_, rfl⟩
  have HZ4 := hid hz4
  have HO4 : Hid (OutE B w2 z4 (.slice a4 n4 c_4) W4 ∧ B ≤ W4.heap.size) := by rw [hz4]; exact HQ4.out
  have HL4 : Hid (z4.length ≤ 8) := by
    unfold Hid
    rw [hz4]
    have h0 := HL3.out
    have h1 := HSZ.out
    have h2 := HOL.out
    simp [byN_len, nums_len, zs0_len]
    omega
  have c4 := fun q => cell_of_heap (HLW.out _ HO4.out.1.below) q
  clear hz4 HQ4 HO3 HL3 c3
  go_upto_region 10 with (first
    | (go_at_call 39; refine (outNum_any secs 2 (by omega) HUX.out.2.1 HO4.out.1 HO4.out.2 (by have := HL4.out; omega)).mono ?_; rintro e W5 ⟨a5, n5, c_5, rfl, HQ5⟩)
    | fail)
  obtain ⟨z5, hz5⟩ : ∃ z, z = z4 ++ byN secs 2 := ⟨_, rfl⟩
  have HZ5 := hid hz5
  have HO5 : Hid (OutE B w2 z5 (.slice a5 n5 c_5) W5 ∧ B ≤ W5.heap.size) := by rw [hz5]; exact HQ5.out
  have HL5 : Hid (z5.length ≤ 10) := by
    unfold Hid
    rw [hz5]
    have h0 := HL4.out
    have h1 := HSZ.out
    have h2 := HOL.out
    simp [byN_len, nums_len, zs0_len]
    omega
  have c5 := fun q => cell_of_heap (HLW.out _ HO5.out.1.below) q
  clear hz5 HQ5 HO4 HL4 c4
  obtain ⟨a6, n6, c_6, W6, r6, q6, v6⟩ := HO5.out.1.app HO5.out.2 [0, 0] (by simp) (by have := HL5.out; simp; omega) 2 rfl
  have HRUN := hid r6
  have HQ6 : Hid (OutE B w2 (z5 ++ [0, 0]) (.slice a6 n6 c_6) W6 ∧ B ≤ W6.heap.size) := ⟨q6, v6⟩
  clear r6 q6 v6
  go_upto_region 13 with (first
    | (at_builtin; refine wpList_append_run _ rfl _ _ 33 33 rfl _ _ rfl rfl HRUN.out ?_; clear HRUN)
    | fail)
  obtain ⟨z6, hz6⟩ : ∃ z, z = z5 ++ [0, 0] := ⟨_, rfl⟩
  have HZ6 := hid hz6
  have HO6 : Hid (OutE B w2 z6 (.slice a6 n6 c_6) W6 ∧ B ≤ W6.heap.size) := by rw [hz6]; exact HQ6.out
  have HL6 : Hid (z6.length ≤ 12) := by
    unfold Hid
    rw [hz6]
    have h0 := HL5.out
    have h1 := HSZ.out
    have h2 := HOL.out
    simp [byN_len, nums_len, zs0_len]
    omega
  have c6 := fun q => cell_of_heap (HLW.out _ HO6.out.1.below) q
  clear hz6 HQ6 HO5 HL5 c5
  go_upto_region 14 with (first
    | (go_at_call 39; refine (outNum_any ci 4 (by omega) HUX.out.2.2.1 HO6.out.1 HO6.out.2 (by have := HL6.out; omega)).mono ?_; rintro e W7 ⟨a7, n7, c_7, rfl, HQ7⟩)
    | fail)
  obtain ⟨z7, hz7⟩ : ∃ z, z = z6 ++ byN ci 4 := ⟨_, rfl⟩
  have HZ7 := hid hz7
  have HO7 : Hid (OutE B w2 z7 (.slice a7 n7 c_7) W7 ∧ B ≤ W7.heap.size) := by rw [hz7]; exact HQ7.out
  have HL7 : Hid (z7.length ≤ 16) := by
    unfold Hid
    rw [hz7]
    have h0 := HL6.out
    have h1 := HSZ.out
    have h2 := HOL.out
    simp [byN_len, nums_len, zs0_len]
    omega
  have c7 := fun q => cell_of_heap (HLW.out _ HO7.out.1.below) q
  clear hz7 HQ7 HO6 HL6 c6
  go_upto_region 15 with (first
    | (go_at_call 39; refine (outNum_any yi 4 (by omega) HUX.out.2.2.2.1 HO7.out.1 HO7.out.2 (by have := HL7.out; omega)).mono ?_; rintro e W8 ⟨a8, n8, c_8, rfl, HQ8⟩)
    | fail)
  obtain ⟨z8, hz8⟩ : ∃ z, z = z7 ++ byN yi 4 := ⟨_, rfl⟩
  have HZ8 := hid hz8
  have HO8 : Hid (OutE B w2 z8 (.slice a8 n8 c_8) W8 ∧ B ≤ W8.heap.size) := by rw [hz8]; exact HQ8.out
  have HL8 : Hid (z8.length ≤ 20) := by
    unfold Hid
    rw [hz8]
    have h0 := HL7.out
    have h1 := HSZ.out
    have h2 := HOL.out
    simp [byN_len, nums_len, zs0_len]
    omega
  have c8 := fun q => cell_of_heap (HLW.out _ HO8.out.1.below) q
  clear hz8 HQ8 HO7 HL7 c7
  go_upto_region 16 with (first
    | (go_at_call 39; refine (outNum_any si 4 (by omega) HUX.out.2.2.2.2.1 HO8.out.1 HO8.out.2 (by have := HL8.out; omega)).mono ?_; rintro e W9 ⟨a9, n9, c_9, rfl, HQ9⟩)
    | fail)
  obtain ⟨z9, hz9⟩ : ∃ z, z = z8 ++ byN si 4 := ⟨_, rfl⟩
  have HZ9 := hid hz9
  have HO9 : Hid (OutE B w2 z9 (.slice a9 n9 c_9) W9 ∧ B ≤ W9.heap.size) := by rw [hz9]; exact HQ9.out
  have HL9 : Hid (z9.length ≤ 24) := by
    unfold Hid
    rw [hz9]
    have h0 := HL8.out
    have h1 := HSZ.out
    have h2 := HOL.out
    simp [byN_len, nums_len, zs0_len]
    omega
  have c9 := fun q => cell_of_heap (HLW.out _ HO9.out.1.below) q
  clear hz9 HQ9 HO8 HL8 c8
  go_upto_region 17 with (first
    | (go_at_call 39; refine (outNum_any gi 4 (by omega) HUX.out.2.2.2.2.2 HO9.out.1 HO9.out.2 (by have := HL9.out; omega)).mono ?_; rintro e W10 ⟨a10, n10, c_10, rfl, HQ10⟩)
    | fail)
  obtain ⟨z10, hz10⟩ : ∃ z, z = z9 ++ byN gi 4 := ⟨_, rfl⟩
  have HZ10 := hid hz10
  have HO10 : Hid (OutE B w2 z10 (.slice a10 n10 c_10) W10 ∧ B ≤ W10.heap.size) := by rw [hz10]; exact HQ10.out
  have HL10 : Hid (z10.length ≤ 28) := by
    unfold Hid
    rw [hz10]
    have h0 := HL9.out
    have h1 := HSZ.out
    have h2 := HOL.out
    simp [byN_len, nums_len, zs0_len]
    omega
  have c10 := fun q => cell_of_heap (HLW.out _ HO10.out.1.below) q
  clear hz10 HQ10 HO9 HL9 c9
  have HPM : Hid (Part.ok W10 ⟨some ⟨gb, 9, none⟩, 6, [b0, b1, b2, b3, b4, b5]⟩) := Part.of_heap (HLW.out _ HO10.out.1.below) 9 (by simp) (fun j hj => by
    have hj6 : j < 6 := by simpa using hj
    rcases (show j = 0 ∨ j = 1 ∨ j = 2 ∨ j = 3 ∨ j = 4 ∨ j = 5 by omega) with rfl | rfl | rfl | rfl | rfl | rfl <;> rfl) HMZ.out
  have HAD := hid (outAdd_any ⟨some ⟨gb, 9, none⟩, 6, [b0, b1, b2, b3, b4, b5]⟩ 16 HO10.out.1 HO10.out.2 HPM.out (HO10.out.1.elder _ (fun b o e _ => by
    simp only [Option.some.injEq, Addr.mk.injEq] at e
    have := HGL.out
    omega)) (by have := HL10.out; simp; omega))
  go_upto_region 18 with (first
    | (go_at_call 40; refine HAD.out.mono ?_; rintro e W11 ⟨a11, n11, c_11, rfl, HQ11⟩; clear HAD HPM)
    | fail)
  obtain ⟨z11, hz11⟩ : ∃ z, z = z10 ++ [b0, b1, b2, b3, b4, b5] ++ zs0 (16 - [b0, b1, b2, b3, b4, b5].length) := ⟨_, rfl⟩
  have HZ11 := hid hz11
  have HO11 : Hid (OutE B w2 z11 (.slice a11 n11 c_11) W11 ∧ B ≤ W11.heap.size) := by rw [hz11]; exact HQ11.out
  have HL11 : Hid (z11.length ≤ 44) := by
    unfold Hid
    rw [hz11]
    have h0 := HL10.out
    have h1 := HSZ.out
    have h2 := HOL.out
    simp [byN_len, nums_len, zs0_len]
    omega
  have c11 := fun q => cell_of_heap (HLW.out _ HO11.out.1.below) q
  clear hz11 HQ11 HO10 HL10 c10
  obtain ⟨cap11, wc11, cv11, rv11, bv11, _⟩ := conv_row W11 (nums sname) (nums_bd sname) (by rw [nums_len]; have := HSZ.out; unfold maxLen; omega)
  rw [str_nums] at cv11
  have hb11 : Below W11.heap.size W11 wc11 := bv11
  have HPS : Hid (Part.ok wc11 ⟨some ⟨W11.heap.size, 0, none⟩, cap11, nums sname⟩) := by
    obtain ⟨pt, e1, e2, ok⟩ := rv11.part (nums_bd sname)
    obtain ⟨pa, pc, pz⟩ := pt
    simp only [Part.val, Value.slice.injEq] at e1 e2
    obtain ⟨rfl, _, rfl⟩ := e1
    subst e2
    exact ok
  have HAD := hid (outAdd_any ⟨some ⟨W11.heap.size, 0, none⟩, cap11, nums sname⟩ 64 (HO11.out.1.keep HO11.out.2 hb11) (Nat.le_trans HO11.out.2 hb11.size) HPS.out (HO11.out.1.newer _ _ _ _ (Nat.le_refl _)) (by have := HL11.out; have := HSZ.out; simp only [nums_len]; omega))
  simp only [Part.val] at HAD
  clear rv11 bv11 hb11 HPS
  obtain ⟨ln11, hln11⟩ : ∃ l, l = (nums sname).length := ⟨_, rfl⟩
  have HLN11 := hid hln11
  rw [← hln11] at HAD cv11
  clear hln11
  go_upto_region 19 with (first
    | (go_at_call 40; refine HAD.out.mono ?_; rintro e W12 ⟨a12, n12, c_12, rfl, HQ12⟩; clear HAD cv11; rw [HLN11.out] at HQ12)
    | fail)
  obtain ⟨z12, hz12⟩ : ∃ z, z = z11 ++ nums sname ++ zs0 (64 - (nums sname).length) := ⟨_, rfl⟩
  have HZ12 := hid hz12
  have HO12 : Hid (OutE B w2 z12 (.slice a12 n12 c_12) W12 ∧ B ≤ W12.heap.size) := by rw [hz12]; exact HQ12.out
  have HL12 : Hid (z12.length ≤ 108) := by
    unfold Hid
    rw [hz12]
    have h0 := HL11.out
    have h1 := HSZ.out
    have h2 := HOL.out
    simp [byN_len, nums_len, zs0_len]
    omega
  have c12 := fun q => cell_of_heap (HLW.out _ HO12.out.1.below) q
  clear hz12 HQ12 HO11 HL11 c11
  obtain ⟨cap12, wc12, cv12, rv12, bv12, _⟩ := conv_row W12 (nums file) (nums_bd file) (by rw [nums_len]; have := HSZ.out; unfold maxLen; omega)
  rw [str_nums] at cv12
  have hb12 : Below W12.heap.size W12 wc12 := bv12
  have HPS : Hid (Part.ok wc12 ⟨some ⟨W12.heap.size, 0, none⟩, cap12, nums file⟩) := by
    obtain ⟨pt, e1, e2, ok⟩ := rv12.part (nums_bd file)
    obtain ⟨pa, pc, pz⟩ := pt
    simp only [Part.val, Value.slice.injEq] at e1 e2
    obtain ⟨rfl, _, rfl⟩ := e1
    subst e2
    exact ok
  have HAD := hid (outAdd_any ⟨some ⟨W12.heap.size, 0, none⟩, cap12, nums file⟩ 128 (HO12.out.1.keep HO12.out.2 hb12) (Nat.le_trans HO12.out.2 hb12.size) HPS.out (HO12.out.1.newer _ _ _ _ (Nat.le_refl _)) (by have := HL12.out; have := HSZ.out; simp only [nums_len]; omega))
  simp only [Part.val] at HAD
  clear rv12 bv12 hb12 HPS
  obtain ⟨ln12, hln12⟩ : ∃ l, l = (nums file).length := ⟨_, rfl⟩
  have HLN12 := hid hln12
  rw [← hln12] at HAD cv12
  clear hln12
  go_upto_region 20 with (first
    | (go_at_call 40; refine HAD.out.mono ?_; rintro e W13 ⟨a13, n13, c_13, rfl, HQ13⟩; clear HAD cv12; rw [HLN12.out] at HQ13)
    | fail)
  obtain ⟨z13, hz13⟩ : ∃ z, z = z12 ++ nums file ++ zs0 (128 - (nums file).length) := ⟨_, rfl⟩
  have HZ13 := hid hz13
  have HO13 : Hid (OutE B w2 z13 (.slice a13 n13 c_13) W13 ∧ B ≤ W13.heap.size) := by rw [hz13]; exact HQ13.out
  have HL13 : Hid (z13.length ≤ 236) := by
    unfold Hid
    rw [hz13]
    have h0 := HL12.out
    have h1 := HSZ.out
    have h2 := HOL.out
    simp [byN_len, nums_len, zs0_len]
    omega
  have c13 := fun q => cell_of_heap (HLW.out _ HO13.out.1.below) q
  clear hz13 HQ13 HO12 HL12 c12
  obtain ⟨a14, n14, c_14, W14, r14, q14, v14⟩ := HO13.out.1.app HO13.out.2 [99, 130, 83, 99] (by simp) (by have := HL13.out; simp; omega) 4 rfl
  have HRUN := hid r14
  have HQ14 : Hid (OutE B w2 (z13 ++ [99, 130, 83, 99]) (.slice a14 n14 c_14) W14 ∧ B ≤ W14.heap.size) := ⟨q14, v14⟩
  clear r14 q14 v14
  go_upto_region 21 with (first
    | (at_builtin; refine wpList_append_run _ rfl _ _ 33 33 rfl _ _ rfl rfl HRUN.out ?_; clear HRUN)
    | fail)
  obtain ⟨z14, hz14⟩ : ∃ z, z = z13 ++ [99, 130, 83, 99] := ⟨_, rfl⟩
  have HZ14 := hid hz14
  have HO14 : Hid (OutE B w2 z14 (.slice a14 n14 c_14) W14 ∧ B ≤ W14.heap.size) := by rw [hz14]; exact HQ14.out
  have HL14 : Hid (z14.length ≤ 240) := by
    unfold Hid
    rw [hz14]
    have h0 := HL13.out
    have h1 := HSZ.out
    have h2 := HOL.out
    simp [byN_len, nums_len, zs0_len]
    omega
  have c14 := fun q => cell_of_heap (HLW.out _ HO14.out.1.below) q
  clear hz14 HQ14 HO13 HL13 c13
  have HAD := hid (outAdd_any ⟨ao, co, O⟩ 60 HO14.out.1 HO14.out.2 (HLO.out _ HO14.out.1.below) (HO14.out.1.elder _ HPL.out) (by have := HL14.out; have := HOL.out; simp only; omega))
  simp only [Part.val, ← HOL.out] at HAD
  go_wp2_with (first
    | (go_at_call 40; refine HAD.out.mono ?_; rintro e W15 ⟨a15, n15, c_15, rfl, HQ15⟩; clear HAD)
    | fail)
  go_ret2
  refine ⟨a15, n15, c_15, rfl, ?_⟩
  have hq := HQ15.out.1
  rw [HOL.out, HZ14.out, HZ13.out, HZ12.out, HZ11.out, HZ10.out, HZ9.out, HZ8.out, HZ7.out, HZ6.out, HZ5.out, HZ4.out, HZ3.out] at hq
  have he : encL ⟨op, hops, xid, secs, false, ci, yi, si, gi, ⟨b0, b1, b2, b3, b4, b5⟩, sname, file⟩ O = [op % 256, 1, 6, hops % 256] ++ byN xid 4 ++ byN secs 2 ++ [0, 0] ++ byN ci 4 ++ byN yi 4 ++ byN si 4 ++ byN gi 4 ++ [b0, b1, b2, b3, b4, b5] ++ zs0 (16 - [b0, b1, b2, b3, b4, b5].length) ++ nums sname ++ zs0 (64 - (nums sname).length) ++ nums file ++ zs0 (128 - (nums file).length) ++ [99, 130, 83, 99] ++ O ++ zs0 (60 - O.length) := by
    have := encL_form ⟨op, hops, xid, secs, false, ci, yi, si, gi, ⟨b0, b1, b2, b3, b4, b5⟩, sname, file⟩ O []
    rw [List.append_nil] at this
    rw [this]
    simp only [rmSn, rmFl, nums_len, List.append_assoc, List.append_nil]
    rfl
  rw [he]
  refine ⟨hq.row, fun b hb => ?_, ?_⟩
  · have := hq.low b hb
    have := HBE.out
    have := HB3.out.size
    omega
  · exact HB3.out.trans (hq.below.mono (by rw [HBE.out]; exact HB3.out.size))
set_option maxRecDepth 20000 in
set_option maxHeartbeats 2000000 in
theorem refEnc_no1 (m : Bp) (hm : m.ok) (a : Option Addr) (c : Nat) (os : List OP) (w : World) (h : OV w a os) (he : unE m (ovB os) ≠ 0) :
    Calls Try.prog 12 #[m.val (.slice a os.length c)] w fun e w' => e = .returned (.tuple #[.slice none 0 0, .int .i64 (unE m (ovB os))]) ∧ Hid (Below w.heap.size w w') := by
  have HRF := hid (fun wx (hw : Below w.heap.size w wx) => refused_any m hm a c os wx (h.below hw))
  generalize unE m (ovB os) = E at *
  have he1 : (E != 0) = true := by simpa using he
  generalize os.length = n at *
  have HX0 := hid (heap_new w (.cells (m.cells (.slice a n c)) 28))
  have HSZ : Hid (some 18 = some (m.cells (.slice a n c)).size) := rfl
  unfold Bp.val at *
  generalize m.cells (.slice a n c) = C at *
  clear h he
  go_enter Try.func12, Try.ntmps12
  go_wp2_with (first
    | (refine wpList_load_row rfl 28 _ rfl w.heap.size rfl 28 C (0, 0) _ HX0.out Try.underlying28 rfl (sizeBp.trans HSZ.out) ?_)
    | (go_at_call 38; refine (HRF.out _ (bpush (Below.refl _ _) _)).mono ?_; rintro e w1 ⟨rfl, HB⟩)
    | fail)
  go_ret2
  exact ⟨rfl, bstep (bpush (Below.refl _ _) _) HB.out⟩
set_option maxRecDepth 20000 in
set_option maxHeartbeats 2000000 in
theorem refEnc_no2 (m : Bp) (hm : m.ok) (a : Option Addr) (c : Nat) (os : List OP) (w : World) (h : OV w a os) (he : unE m (ovB os) = 0) (hp : packE (absO os) 1232 ≠ 0) (hs : (layL (absO os)).length ≤ 35184372088832) :
    Calls Try.prog 12 #[m.val (.slice a os.length c)] w fun e w' => e = .returned (.tuple #[.slice none 0 0, .int .i64 (packE (absO os) 1232)]) ∧ Hid (Below w.heap.size w w') := by
  have HRF := hid (fun wx (hw : Below w.heap.size w wx) => refused_any m hm a c os wx (h.below hw))
  rw [he] at HRF
  have HPK := hid (fun wx (hw : Below w.heap.size w wx) => refPack_any a c os 1232 wx (h.below hw) (by omega) hs)
  have hp1 : (packE (absO os) 1232 != 0) = true := by simpa using hp
  generalize packE (absO os) 1232 = E at *
  generalize packA (absO os) 1232 = O at *
  generalize O.length = o at *
  generalize os.length = n at *
  have HX0 := hid (heap_new w (.cells (m.cells (.slice a n c)) 28))
  have HSZ : Hid (some 18 = some (m.cells (.slice a n c)).size) := rfl
  have H17 : Hid ((m.cells (.slice a n c))[17]? = some (.slice a n c)) := rfl
  unfold Bp.val at *
  generalize m.cells (.slice a n c) = C at *
  clear h he hp
  go_enter Try.func12, Try.ntmps12
  go_wp2_with (first
    | (refine wpList_load_row rfl 28 _ rfl w.heap.size rfl 28 C (0, 0) _ HX0.out Try.underlying28 rfl (sizeBp.trans HSZ.out) ?_)
    | (go_at_call 38; refine (HRF.out _ (bpush (Below.refl _ _) _)).mono ?_; rintro e w1 ⟨rfl, HB⟩
       have k1 : w1.cell? ⟨w.heap.size, 17, none⟩ = some (.slice a n c) := (cell_of_heap (kept HX0.out HB.out) 17).trans H17.out)
    | (go_at_call 25; refine (HPK.out _ (bstep (bpush (Below.refl _ _) _) HB.out)).mono ?_; rintro e w2 ⟨ao, co, rfl, HA⟩)
    | fail)
  go_ret2
  exact ⟨rfl, bstep (bstep (bpush (Below.refl _ _) _) HB.out) HA.out.2.2⟩
/-- the document's Encode, of any message. -/
theorem refEncode_any (m : Bp) (hm : m.ok) (a : Option Addr) (c : Nat) (os : List OP) (w : World) (h : OV w a os) (hs : (layL (absO os)).length ≤ 35184372088832) :
    Calls Try.prog 12 #[m.val (.slice a os.length c)] w fun e w' => ∃ ax nx cx, e = .returned (.tuple #[.slice ax nx cx, .int .i64 (encX m (absO os))]) ∧ Hid (Ans w w' (encZ m (absO os)) ax nx cx) := by
  by_cases h1 : unE m (ovB os) = 0
  · have e1 : encX m (absO os) = packE (absO os) 1232 := by unfold encX; rw [← ovB_abs, if_pos h1]
    by_cases h2 : packE (absO os) 1232 = 0
    · have e0 : encX m (absO os) = 0 := e1.trans h2
      have ez : encZ m (absO os) = encL m (packA (absO os) 1232) := by unfold encZ; rw [if_pos e0]
      rw [e0, ez]
      have hf := (Fits.of hm h1).1
      have HRF := hid (fun wx (hw : Below w.heap.size w wx) => refused_any m hm a c os wx (h.below hw))
      rw [h1] at HRF
      have HPK := hid (fun wx (hw : Below w.heap.size w wx) => refPack_any a c os 1232 wx (h.below hw) (by omega) hs)
      rw [h2] at HPK
      have hO := packA_bd (abs_bd h)
      have hl := packA_len h2
      generalize packA (absO os) 1232 = O at *
      obtain ⟨op, hops, xid, secs, all, ci, yi, si, gi, ⟨b0, b1, b2, b3, b4, b5⟩, sname, file⟩ := m
      simp only [Bp.val, Bp.cells] at *
      cases all
      · exact refEnc_false op hops xid secs ci yi si gi b0 b1 b2 b3 b4 b5 sname file a os.length c w O hO hl hf HRF HPK
      · exact refEnc_true op hops xid secs ci yi si gi b0 b1 b2 b3 b4 b5 sname file a os.length c w O hO hl hf HRF HPK
    · have ez : encZ m (absO os) = [] := by unfold encZ; rw [if_neg (by rw [e1]; exact h2)]
      rw [e1, ez]
      refine (refEnc_no2 m hm a c os w h h1 h2 hs).mono ?_
      rintro e w' ⟨rfl, HB⟩
      exact ⟨none, 0, 0, rfl, ans_nil HB.out⟩
  · have e1 : encX m (absO os) = unE m (ovB os) := by unfold encX; rw [← ovB_abs, if_neg h1]
    have ez : encZ m (absO os) = [] := by unfold encZ; rw [if_neg (by rw [e1]; exact h1)]
    rw [e1, ez]
    refine (refEnc_no1 m hm a c os w h h1).mono ?_
    rintro e w' ⟨rfl, HB⟩
    exact ⟨none, 0, 0, rfl, ans_nil HB.out⟩
end Go.Proofs.Ytoifblndpcelkaa
