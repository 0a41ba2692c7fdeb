/-
  The walk of the statement IcmpAnswers. Written by mkic.py.
-/
import Derived.Test.YthmfappindbjnaaIcEnsW
namespace Go.Proofs.Ythmfappindbjnaa
open Go.RowKit
set_option linter.all false

theorem ansD_bd (k c : Int) (zs : List Int) (hz : ∀ z, z ∈ zs → 0 ≤ z ∧ z ≤ 255) (hl : zs.length ≤ 140737488351232) : (∀ z, z ∈ ansD k c zs → 0 ≤ z ∧ z ≤ 255) ∧ (ansD k c zs).length ≤ 140737488351232 := by
  unfold ansD
  split
  · exact ⟨hz, hl⟩
  · simp
theorem take28_bd (zs : List Int) (hz : ∀ z, z ∈ zs → 0 ≤ z ∧ z ≤ 255) (hl : zs.length ≤ 140737488351232) : (∀ z, z ∈ zs.take 28 → 0 ≤ z ∧ z ≤ 255) ∧ (zs.take 28).length ≤ 140737488351232 := ⟨fun z h => hz z (List.mem_of_mem_take h), by simp; omega⟩
set_option maxRecDepth 20000 in
set_option maxHeartbeats 4000000 in
theorem icmpAnswers_walk (xk xs xr : Int) (pt : Part) (code : Int) (qt : Part) (w : World) (x0 : 0 ≤ xr ∧ xr ≤ 4294967295) (ho : pt.ok w) (hz : pt.zs.length ≤ 140737488351232) (y0 : -9223372036854775808 ≤ code ∧ code ≤ 9223372036854775807) (hqo : qt.ok w) (hqz : qt.zs.length ≤ 140737488351232) :
    Calls Try.prog 6 #[.agg #[.int .i64 xk, .int .i64 xs, .int .u32 xr, pt.val], .int .i64 code, qt.val] w fun e w' => e = .returned (.bool true) ∧ Below w.heap.size w w' := by
  have R1 : Hid (∀ w', Below w.heap.size w w' → _) := fun w' hb => refAnswer_u xk xs xr pt w' (Part.ok_below ho hb) (by omega)
  have R2 : Hid (∀ w', Below w.heap.size w w' → _) := fun w' hb => refRefuse_u code qt w' (Part.ok_below hqo hb) (by omega)
  have L1 : Hid (∀ w', Below w.heap.size w w' → _) := fun w' hb => lentM_any xk xs xr pt w' (Part.ok_below ho hb) hz
  have LQ : Hid (∀ w', Below w.heap.size w w' → _) := fun w' hb => lent_any qt w' (Part.ok_below hqo hb) hqz
  have E1 : Hid (∀ (g : Nat) (w' : World), w'.heap[g]? = some (.cells (L2 pt.zs) 5 (0, 0)) → _) := fun g w' hg => answer_u xk xs xr ⟨some ⟨g, 0, none⟩, pt.zs.length + 2, pt.zs⟩ w' (lent_part ho.1 hg) (by simp only; omega)
  have E2 : Hid (∀ (g : Nat) (w' : World), w'.heap[g]? = some (.cells (L2 qt.zs) 5 (0, 0)) → _) := fun g w' hg => refuse_u code ⟨some ⟨g, 0, none⟩, qt.zs.length + 2, qt.zs⟩ w' (lent_part hqo.1 hg) (by simp only; omega)
  have S1 : Hid (∀ (g : Nat) (w' : World), Below w.heap.size w w' → w'.heap[g]? = some (.cells (L2 pt.zs) 5 (0, 0)) → _) := fun g w' hb hg => asLent_any g pt w' (Part.ok_below ho hb) hz hg
  have S2 : Hid (∀ (g : Nat) (w' : World), Below w.heap.size w w' → w'.heap[g]? = some (.cells (L2 qt.zs) 5 (0, 0)) → _) := fun g w' hb hg => asLent_any g qt w' (Part.ok_below hqo hb) hqz hg
  have D1 := hid (ansD_bd xk xs pt.zs ho.1 hz)
  have D2 := hid (take28_bd qt.zs hqo.1 hqz)
  have M1 : Hid (∀ (a1 a2 : Option Addr) (n1 c1 n2 c2 : Nat) (w' : World), Row w' 5 (.slice a1 n1 c1) (u8s (ansD xk xs pt.zs)) → Row w' 5 (.slice a2 n2 c2) (u8s (ansD xk xs pt.zs)) → Calls Try.prog 18 #[.agg #[.int .i64 (0), .int .i64 (0), .int .u32 (ansR xk xs xr), .slice a1 n1 c1], .agg #[.int .i64 (0), .int .i64 (0), .int .u32 (ansR xk xs xr), .slice a2 n2 c2]] w' fun e w'' => e = .returned (.bool true) ∧ Below w'.heap.size w' w'') := fun a1 a2 n1 c1 n2 c2 w' h1 h2 => same_rows _ _ _ _ D1.out.1 a1 a2 n1 c1 n2 c2 w' h1 h2
  have M2 : Hid (∀ (a1 a2 : Option Addr) (n1 c1 n2 c2 : Nat) (w' : World), Row w' 5 (.slice a1 n1 c1) (u8s (qt.zs.take 28)) → Row w' 5 (.slice a2 n2 c2) (u8s (qt.zs.take 28)) → Calls Try.prog 18 #[.agg #[.int .i64 (3), .int .i64 (code), .int .u32 (0), .slice a1 n1 c1], .agg #[.int .i64 (3), .int .i64 (code), .int .u32 (0), .slice a2 n2 c2]] w' fun e w'' => e = .returned (.bool true) ∧ Below w'.heap.size w' w'') := fun a1 a2 n1 c1 n2 c2 w' h1 h2 => same_rows _ _ _ _ D2.out.1 a1 a2 n1 c1 n2 c2 w' h1 h2
  clear x0 y0 ho hqo
  obtain ⟨xa, xc, ps⟩ := pt
  obtain ⟨ya, yc, qs⟩ := qt
  simp only [Part.val] at *
  generalize ansD xk xs ps = Y1 at *
  generalize qs.take 28 = Y2 at *
  generalize ansR xk xs xr = U1 at *
  generalize askB xk xs = E at *
  generalize L2 ps = LX at *
  generalize L2 qs = LY at *
  generalize ps.length = xl at *
  generalize qs.length = yl at *
  go_enter Try.func6, Try.ntmps6
  go_wp2_with fail
  refine (live_any _).mono ?_
  rintro e w1 ⟨rfl, hb1⟩
  have HH1 := hid (((Holds.nil w).push (.cells #[.int .i64 xk, .int .i64 xs, .int .u32 xr, .slice xa xl xc] 26)).below hb1)
  have HB1 := hid (bstep (bpush (Below.refl _ w) (.cells #[.int .i64 xk, .int .i64 xs, .int .u32 xr, .slice xa xl xc] 26)) hb1)
  have z01 : w.heap.size + 1 ≤ w1.heap.size := by have := hb1.size; simpa using this
  clear hb1
  have cc : ∀ q, w1.cell? ⟨w.heap.size, q, none⟩ = (#[.int .i64 xk, .int .i64 xs, .int .u32 xr, .slice xa xl xc] : Array Value)[q]? := fun q => cell_of_heap (HH1.out.at 0 _ _ rfl) q
  go_wp2_with fail
  clear cc
  refine (L1.out _ HB1.out).mono ?_
  rintro e v ⟨gl, rfl, hgl, hL, hb⟩
  have bb := bpush hb (.cells #[.int .i64 xk, .int .i64 xs, .int .u32 xr, .slice (some ⟨gl, 0, none⟩) xl (xl + 2)] 26)
  have HL0 := hid (kept hL (bpush (Below.refl _ _) (.cells #[.int .i64 xk, .int .i64 xs, .int .u32 xr, .slice (some ⟨gl, 0, none⟩) xl (xl + 2)] 26)))
  have HL := hid (heap_new v (.cells #[.int .i64 xk, .int .i64 xs, .int .u32 xr, .slice (some ⟨gl, 0, none⟩) xl (xl + 2)] 26))
  have ygl : gl < v.heap.size := heap_lt hL
  have HH2 := hid (((HH1.out.below bb).cons HL0.out).cons HL.out)
  have HB2 := hid (bstep HB1.out bb)
  have z1gx : w1.heap.size ≤ v.heap.size := hb.size
  have zgx2 : v.heap.size + 1 ≤ (v.alloc (.cells #[.int .i64 xk, .int .i64 xs, .int .u32 xr, .slice (some ⟨gl, 0, none⟩) xl (xl + 2)] 26)).heap.size := by simp
  clear hL hb bb HL HL0 HH1 HB1
  go_wp2_with fail
  generalize v.alloc (.cells #[.int .i64 xk, .int .i64 xs, .int .u32 xr, .slice (some ⟨gl, 0, none⟩) xl (xl + 2)] 26) = w2 at *
  generalize v.heap.size = gx at *
  clear v
  refine (LQ.out _ HB2.out).mono ?_
  rintro e w3 ⟨rfl, hw⟩
  have hb : Below w2.heap.size w2 w3 := by rw [hw]; exact bpush (Below.refl _ _) _
  have HL : Hid (w3.heap[w2.heap.size]? = some (.cells LY 5)) := by rw [hw]; exact heap_new _ _
  have HH3 := hid ((HH2.out.below hb).cons HL.out)
  have HB3 := hid (bstep HB2.out hb)
  have z23 : w2.heap.size + 1 ≤ w3.heap.size := by rw [hw]; simp
  clear hw hb HL HH2 HB2
  generalize w2.heap.size = gm at *
  have cc : ∀ q, w3.cell? ⟨gx, q, none⟩ = (#[.int .i64 xk, .int .i64 xs, .int .u32 xr, .slice (some ⟨gl, 0, none⟩) xl (xl + 2)] : Array Value)[q]? := fun q => cell_of_heap (HH3.out.at 1 _ _ rfl) q
  go_wp2_with fail
  clear cc
  refine (E1.out gl _ (HH3.out.at 2 _ _ rfl)).mono ?_
  rintro e v ⟨a3, n3, c3, rfl, an⟩
  have bb := bpush an.2.2 (.cells #[.int .i64 0, .int .i64 0, .int .u32 U1, .slice a3 n3 c3] 26)
  have HL := hid (heap_new v (.cells #[.int .i64 0, .int .i64 0, .int .u32 U1, .slice a3 n3 c3] 26))
  have HH4 := hid ((HH3.out.below bb).cons HL.out)
  have HB4 := hid (bstep HB3.out bb)
  have HR3_4 := hid (an.1.below (bpush (Below.refl _ _) (.cells #[.int .i64 0, .int .i64 0, .int .u32 U1, .slice a3 n3 c3] 26)))
  have HI3 := hid (ans_lt an)
  have z3g3 : w3.heap.size ≤ v.heap.size := an.2.2.size
  have zg34 : v.heap.size + 1 ≤ (v.alloc (.cells #[.int .i64 0, .int .i64 0, .int .u32 U1, .slice a3 n3 c3] 26)).heap.size := by simp
  clear an bb HL HH3 HB3
  go_wp2_with fail
  generalize v.alloc (.cells #[.int .i64 0, .int .i64 0, .int .u32 U1, .slice a3 n3 c3] 26) = w4 at *
  generalize v.heap.size = g3 at *
  clear v
  refine (E2.out gm _ (HH4.out.at 1 _ _ rfl)).mono ?_
  rintro e v ⟨a4, n4, c4, rfl, an⟩
  have bb := bpush an.2.2 (.cells #[.int .i64 3, .int .i64 code, .int .u32 0, .slice a4 n4 c4] 26)
  have HL := hid (heap_new v (.cells #[.int .i64 3, .int .i64 code, .int .u32 0, .slice a4 n4 c4] 26))
  have cl0 : ∀ q, v.cell? ⟨gx, q, none⟩ = (#[.int .i64 xk, .int .i64 xs, .int .u32 xr, .slice (some ⟨gl, 0, none⟩) xl (xl + 2)] : Array Value)[q]? := fun q => cell_of_heap (kept (HH4.out.at 2 _ _ rfl) an.2.2) q
  have hl0 : gx < v.heap.size := heap_lt (kept (HH4.out.at 2 _ _ rfl) an.2.2)
  have HH5 := hid ((HH4.out.below bb).cons HL.out)
  have HB5 := hid (bstep HB4.out bb)
  have HR3_5 := hid (HR3_4.out.below bb)
  have HR4_5 := hid (an.1.below (bpush (Below.refl _ _) (.cells #[.int .i64 3, .int .i64 code, .int .u32 0, .slice a4 n4 c4] 26)))
  have HI4 := hid (ans_lt an)
  have z4g4 : w4.heap.size ≤ v.heap.size := an.2.2.size
  have zg45 : v.heap.size + 1 ≤ (v.alloc (.cells #[.int .i64 3, .int .i64 code, .int .u32 0, .slice a4 n4 c4] 26)).heap.size := by simp
  clear an bb HL HH4 HB4 HR3_4
  go_wp2_with fail
  clear cl0 hl0
  generalize v.alloc (.cells #[.int .i64 3, .int .i64 code, .int .u32 0, .slice a4 n4 c4] 26) = w5 at *
  generalize v.heap.size = g4 at *
  clear v
  refine (E1.out gl _ (HH5.out.at 4 _ _ rfl)).mono ?_
  rintro e v ⟨a5, n5, c5, rfl, an⟩
  have bb := bpush an.2.2 (.cells #[.int .i64 0, .int .i64 0, .int .u32 U1, .slice a5 n5 c5] 26)
  have HL := hid (heap_new v (.cells #[.int .i64 0, .int .i64 0, .int .u32 U1, .slice a5 n5 c5] 26))
  have cl0 : ∀ q, v.cell? ⟨gx, q, none⟩ = (#[.int .i64 xk, .int .i64 xs, .int .u32 xr, .slice (some ⟨gl, 0, none⟩) xl (xl + 2)] : Array Value)[q]? := fun q => cell_of_heap (kept (HH5.out.at 3 _ _ rfl) an.2.2) q
  have hl0 : gx < v.heap.size := heap_lt (kept (HH5.out.at 3 _ _ rfl) an.2.2)
  have cl1 : ∀ q, v.cell? ⟨w.heap.size, q, none⟩ = (#[.int .i64 xk, .int .i64 xs, .int .u32 xr, .slice xa xl xc] : Array Value)[q]? := fun q => cell_of_heap (kept (HH5.out.at 5 _ _ rfl) an.2.2) q
  have hl1 : w.heap.size < v.heap.size := heap_lt (kept (HH5.out.at 5 _ _ rfl) an.2.2)
  have HH6 := hid ((HH5.out.below bb).cons HL.out)
  have HB6 := hid (bstep HB5.out bb)
  have HR3_6 := hid (HR3_5.out.below bb)
  have HR4_6 := hid (HR4_5.out.below bb)
  have HR5_6 := hid (an.1.below (bpush (Below.refl _ _) (.cells #[.int .i64 0, .int .i64 0, .int .u32 U1, .slice a5 n5 c5] 26)))
  have HI5 := hid (ans_lt an)
  have z5g5 : w5.heap.size ≤ v.heap.size := an.2.2.size
  have zg56 : v.heap.size + 1 ≤ (v.alloc (.cells #[.int .i64 0, .int .i64 0, .int .u32 U1, .slice a5 n5 c5] 26)).heap.size := by simp
  clear an bb HL HH5 HB5 HR3_5 HR4_5
  go_wp2_with fail
  clear cl0 hl0 cl1 hl1
  generalize v.alloc (.cells #[.int .i64 0, .int .i64 0, .int .u32 U1, .slice a5 n5 c5] 26) = w6 at *
  generalize v.heap.size = g5 at *
  clear v
  refine (S1.out gl _ HB6.out (HH6.out.at 5 _ _ rfl)).mono ?_
  rintro e w7 ⟨rfl, bt⟩
  have HH7 := hid (((((((Holds.nil _).cons (keptBut (HH6.out.at 6 _ _ rfl) bt (by omega))).cons (keptBut (HH6.out.at 4 _ _ rfl) bt (by omega))).cons (keptBut (HH6.out.at 3 _ _ rfl) bt (by omega))).cons (keptBut (HH6.out.at 2 _ _ rfl) bt (by omega))).cons (keptBut (HH6.out.at 1 _ _ rfl) bt (by omega))).cons (keptBut (HH6.out.at 0 _ _ rfl) bt (by omega)))
  have HB7 := hid (bbut HB6.out bt (by omega))
  have HR3_7 := hid (HR3_6.out.but bt (fun b hb => by have := HI3.out b hb; omega))
  have HR4_7 := hid (HR4_6.out.but bt (fun b hb => by have := HI4.out b hb; omega))
  have HR5_7 := hid (HR5_6.out.but bt (fun b hb => by have := HI5.out b hb; omega))
  have z67 : w6.heap.size ≤ w7.heap.size := bt.size
  clear bt HH6 HB6 HR3_6 HR4_6 HR5_6
  go_wp2_with fail
  refine (S2.out gm _ HB7.out (HH7.out.at 3 _ _ rfl)).mono ?_
  rintro e w8 ⟨rfl, bt⟩
  have HH8 := hid ((((((Holds.nil _).cons (keptBut (HH7.out.at 5 _ _ rfl) bt (by omega))).cons (keptBut (HH7.out.at 4 _ _ rfl) bt (by omega))).cons (keptBut (HH7.out.at 2 _ _ rfl) bt (by omega))).cons (keptBut (HH7.out.at 1 _ _ rfl) bt (by omega))).cons (keptBut (HH7.out.at 0 _ _ rfl) bt (by omega)))
  have HB8 := hid (bbut HB7.out bt (by omega))
  have HR3_8 := hid (HR3_7.out.but bt (fun b hb => by have := HI3.out b hb; omega))
  have HR4_8 := hid (HR4_7.out.but bt (fun b hb => by have := HI4.out b hb; omega))
  have HR5_8 := hid (HR5_7.out.but bt (fun b hb => by have := HI5.out b hb; omega))
  have z78 : w7.heap.size ≤ w8.heap.size := bt.size
  clear bt HH7 HB7 HR3_7 HR4_7 HR5_7
  have cc : ∀ q, w8.cell? ⟨w.heap.size, q, none⟩ = (#[.int .i64 xk, .int .i64 xs, .int .u32 xr, .slice xa xl xc] : Array Value)[q]? := fun q => cell_of_heap (HH8.out.at 4 _ _ rfl) q
  go_wp2_with fail
  clear cc
  refine (R1.out _ HB8.out).mono ?_
  rintro e v ⟨a1, n1, c1, rfl, an⟩
  have bb := bpush an.2.2 (.cells #[.int .i64 0, .int .i64 0, .int .u32 U1, .slice a1 n1 c1] 26)
  have HL := hid (heap_new v (.cells #[.int .i64 0, .int .i64 0, .int .u32 U1, .slice a1 n1 c1] 26))
  have HH9 := hid ((HH8.out.below bb).cons HL.out)
  have HB9 := hid (bstep HB8.out bb)
  have HR3_9 := hid (HR3_8.out.below bb)
  have HR4_9 := hid (HR4_8.out.below bb)
  have HR5_9 := hid (HR5_8.out.below bb)
  have HR1_9 := hid (an.1.below (bpush (Below.refl _ _) (.cells #[.int .i64 0, .int .i64 0, .int .u32 U1, .slice a1 n1 c1] 26)))
  have HI1 := hid (ans_lt an)
  have z8g1 : w8.heap.size ≤ v.heap.size := an.2.2.size
  have zg19 : v.heap.size + 1 ≤ (v.alloc (.cells #[.int .i64 0, .int .i64 0, .int .u32 U1, .slice a1 n1 c1] 26)).heap.size := by simp
  clear an bb HL HH8 HB8 HR3_8 HR4_8 HR5_8
  go_wp2_with fail
  generalize v.alloc (.cells #[.int .i64 0, .int .i64 0, .int .u32 U1, .slice a1 n1 c1] 26) = w9 at *
  generalize v.heap.size = g1 at *
  clear v
  refine (R2.out _ HB9.out).mono ?_
  rintro e v ⟨a2, n2, c2, rfl, an⟩
  have bb := bpush an.2.2 (.cells #[.int .i64 3, .int .i64 code, .int .u32 0, .slice a2 n2 c2] 26)
  have HL := hid (heap_new v (.cells #[.int .i64 3, .int .i64 code, .int .u32 0, .slice a2 n2 c2] 26))
  have cl0 : ∀ q, v.cell? ⟨g3, q, none⟩ = (#[.int .i64 0, .int .i64 0, .int .u32 U1, .slice a3 n3 c3] : Array Value)[q]? := fun q => cell_of_heap (kept (HH9.out.at 3 _ _ rfl) an.2.2) q
  have hl0 : g3 < v.heap.size := heap_lt (kept (HH9.out.at 3 _ _ rfl) an.2.2)
  have cl1 : ∀ q, v.cell? ⟨g1, q, none⟩ = (#[.int .i64 0, .int .i64 0, .int .u32 U1, .slice a1 n1 c1] : Array Value)[q]? := fun q => cell_of_heap (kept (HH9.out.at 0 _ _ rfl) an.2.2) q
  have hl1 : g1 < v.heap.size := heap_lt (kept (HH9.out.at 0 _ _ rfl) an.2.2)
  have HH10 := hid ((HH9.out.below bb).cons HL.out)
  have HB10 := hid (bstep HB9.out bb)
  have HR3_10 := hid (HR3_9.out.below bb)
  have HR4_10 := hid (HR4_9.out.below bb)
  have HR5_10 := hid (HR5_9.out.below bb)
  have HR1_10 := hid (HR1_9.out.below bb)
  have HR2_10 := hid (an.1.below (bpush (Below.refl _ _) (.cells #[.int .i64 3, .int .i64 code, .int .u32 0, .slice a2 n2 c2] 26)))
  have HI2 := hid (ans_lt an)
  have z9g2 : w9.heap.size ≤ v.heap.size := an.2.2.size
  have zg210 : v.heap.size + 1 ≤ (v.alloc (.cells #[.int .i64 3, .int .i64 code, .int .u32 0, .slice a2 n2 c2] 26)).heap.size := by simp
  clear an bb HL HH9 HB9 HR3_9 HR4_9 HR5_9 HR1_9
  go_wp2_with fail
  clear cl0 hl0 cl1 hl1
  generalize v.alloc (.cells #[.int .i64 3, .int .i64 code, .int .u32 0, .slice a2 n2 c2] 26) = w10 at *
  generalize v.heap.size = g2 at *
  clear v
  refine (M1.out _ _ _ _ _ _ _ HR3_10.out HR1_10.out).mono ?_
  rintro e w11 ⟨rfl, bs⟩
  have HH11 := hid (HH10.out.below bs)
  have HB11 := hid (bstep HB10.out bs)
  have HR3_11 := hid (HR3_10.out.below bs)
  have HR4_11 := hid (HR4_10.out.below bs)
  have HR5_11 := hid (HR5_10.out.below bs)
  have HR1_11 := hid (HR1_10.out.below bs)
  have HR2_11 := hid (HR2_10.out.below bs)
  have z1011 : w10.heap.size ≤ w11.heap.size := bs.size
  clear bs HH10 HB10 HR3_10 HR4_10 HR5_10 HR1_10 HR2_10
  have cc : ∀ q, w11.cell? ⟨g4, q, none⟩ = (#[.int .i64 3, .int .i64 code, .int .u32 0, .slice a4 n4 c4] : Array Value)[q]? := fun q => cell_of_heap (HH11.out.at 3 _ _ rfl) q
  have cd : ∀ q, w11.cell? ⟨g2, q, none⟩ = (#[.int .i64 3, .int .i64 code, .int .u32 0, .slice a2 n2 c2] : Array Value)[q]? := fun q => cell_of_heap (HH11.out.at 0 _ _ rfl) q
  go_wp2_with fail
  clear cc cd
  refine (M2.out _ _ _ _ _ _ _ HR4_11.out HR2_11.out).mono ?_
  rintro e w12 ⟨rfl, bs⟩
  have HH12 := hid (HH11.out.below bs)
  have HB12 := hid (bstep HB11.out bs)
  have HR3_12 := hid (HR3_11.out.below bs)
  have HR4_12 := hid (HR4_11.out.below bs)
  have HR5_12 := hid (HR5_11.out.below bs)
  have HR1_12 := hid (HR1_11.out.below bs)
  have HR2_12 := hid (HR2_11.out.below bs)
  have z1112 : w11.heap.size ≤ w12.heap.size := bs.size
  clear bs HH11 HB11 HR3_11 HR4_11 HR5_11 HR1_11 HR2_11
  have cc : ∀ q, w12.cell? ⟨g5, q, none⟩ = (#[.int .i64 0, .int .i64 0, .int .u32 U1, .slice a5 n5 c5] : Array Value)[q]? := fun q => cell_of_heap (HH12.out.at 2 _ _ rfl) q
  have cd : ∀ q, w12.cell? ⟨g1, q, none⟩ = (#[.int .i64 0, .int .i64 0, .int .u32 U1, .slice a1 n1 c1] : Array Value)[q]? := fun q => cell_of_heap (HH12.out.at 1 _ _ rfl) q
  go_wp2_with fail
  clear cc cd
  refine (M1.out _ _ _ _ _ _ _ HR5_12.out HR1_12.out).mono ?_
  rintro e w13 ⟨rfl, bs⟩
  have HH13 := hid (HH12.out.below bs)
  have HB13 := hid (bstep HB12.out bs)
  have HR3_13 := hid (HR3_12.out.below bs)
  have HR4_13 := hid (HR4_12.out.below bs)
  have HR5_13 := hid (HR5_12.out.below bs)
  have HR1_13 := hid (HR1_12.out.below bs)
  have HR2_13 := hid (HR2_12.out.below bs)
  have z1213 : w12.heap.size ≤ w13.heap.size := bs.size
  clear bs HH12 HB12 HR3_12 HR4_12 HR5_12 HR1_12 HR2_12
  have hE : (E != E) = false := by simp
  have B3 : w13.heap[g3]? = some (.cells #[.int .i64 0, .int .i64 0, .int .u32 U1, .slice a3 n3 c3] 26) := HH13.out.at 4 _ _ rfl
  have B4 : w13.heap[g4]? = some (.cells #[.int .i64 3, .int .i64 code, .int .u32 0, .slice a4 n4 c4] 26) := HH13.out.at 3 _ _ rfl
  have B5 : w13.heap[g5]? = some (.cells #[.int .i64 0, .int .i64 0, .int .u32 U1, .slice a5 n5 c5] 26) := HH13.out.at 2 _ _ rfl
  have hbk : w.heap.size ≤ w13.heap.size := HB13.out.size
  have ra := bpush (Below.refl w13.heap.size w13) (.cells #[.slice none 0 0, .slice none 0 0] 36)
  have HBk := hid (bpush HB13.out (.cells #[.slice none 0 0, .slice none 0 0] 36))
  have HR3k := hid (HR3_13.out.below ra)
  have HR4k := hid (HR4_13.out.below ra)
  have HR5k := hid (HR5_13.out.below ra)
  have HX3 := hid (kept B3 ra)
  have HX4 := hid (kept B4 ra)
  have HX5 := hid (kept B5 ra)
  have q3 : w13.cell? ⟨g3, 3, none⟩ = some (.slice a3 n3 c3) := cell_of_heap B3 3
  have hlt : g3 < w13.heap.size := heap_lt B3
  clear ra B3 B4 B5
  go_wp2_with fail
  clear q3
  refine (take_late w13.heap.size _ _ (.slice a3 n3 c3) [] Y1 w.heap.size _ (Late.new w13 w.heap.size hbk) HR3k.out D1.out.1 (by have := D1.out.2; omega) (by simp) (fun b hb => ⟨by have := HI3.out b hb; omega, by have := HI3.out b hb; omega, by simp⟩)).mono ?_
  rintro e wb ⟨rfl, Lb, Vb, lb, kb, bb⟩
  have HLb := hid lb
  have HBb := hid (HBk.out.trans bb)
  have HR4b := hid (HR4k.out.low kb (fun b hb => by have := HI4.out b hb; omega))
  have HR5b := hid (HR5k.out.low kb (fun b hb => by have := HI5.out b hb; omega))
  have HX4b := hid ((kb g4 (by omega)).trans HX4.out)
  have HX5b := hid ((kb g5 (by omega)).trans HX5.out)
  clear lb bb kb HR3k HR4k HR5k HBk HX3 HX4 HX5
  generalize w13.heap.size = gk at *
  have q4 : wb.cell? ⟨g4, 3, none⟩ = some (.slice a4 n4 c4) := cell_of_heap HX4b.out 3
  go_wp2_with fail
  clear q4
  refine (take_late gk Lb Vb (.slice a4 n4 c4) _ Y2 w.heap.size wb HLb.out HR4b.out D2.out.1 (by have := D2.out.2; omega) (by simp) (fun b hb => ⟨by have := HI4.out b hb; omega, by have := HI4.out b hb; omega, fun p hp e => by
    simp at hp
    subst hp
    have h1 := HI4.out b hb
    have h2 := HI3.out b e
    omega⟩)).mono ?_
  rintro e wd ⟨rfl, Ld, Vd, ld, kd, bd⟩
  have HLd := hid ld
  have HBd := hid (HBb.out.trans bd)
  have HR5d := hid (HR5b.out.low kd (fun b hb => by have := HI5.out b hb; omega))
  have HX5d := hid ((kd g5 (by omega)).trans HX5b.out)
  clear ld bd kd HR4b HR5b HBb HLb HX4b HX5b
  have q5 : wd.cell? ⟨g5, 3, none⟩ = some (.slice a5 n5 c5) := cell_of_heap HX5d.out 3
  go_wp2_with fail
  clear q5
  refine (take_late gk Ld Vd (.slice a5 n5 c5) _ Y1 w.heap.size wd HLd.out HR5d.out D1.out.1 (by have := D1.out.2; omega) (by simp) (fun b hb => ⟨by have := HI5.out b hb; omega, by have := HI5.out b hb; omega, fun p hp e => by
    have h1 := HI5.out b hb
    simp at hp
    rcases hp with hp | hp
    · subst hp
      have h2 := HI3.out b e
      omega
    · subst hp
      have h2 := HI4.out b e
      omega⟩)).mono ?_
  rintro e we ⟨rfl, Le, Ve, le, ke, be⟩
  have HLe := hid le
  have HBe := hid (HBd.out.trans be)
  clear le be ke HR5d HBd HLd
  go_wp2_with fail
  refine (owned_late gk Le Ve _ w.heap.size we HLe.out).mono ?_
  rintro e wf ⟨rfl, bf, _⟩
  have HBf := hid (HBe.out.trans bf)
  clear bf HBe HLe
  go_wp2
  go_ret
  exact ⟨rfl, HBf.out⟩
end Go.Proofs.Ythmfappindbjnaa
