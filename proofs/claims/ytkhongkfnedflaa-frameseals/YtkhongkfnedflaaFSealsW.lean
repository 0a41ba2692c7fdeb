/-
  The walk of the statement FrameSeals.
-/
import Derived.Test.YtkhongkfnedflaaFSealsC
import Derived.Test.YtkhongkfnedflaaBBookL
namespace Go.Proofs.Ytkhongkfnedflaa
open Go.RowKit
set_option linter.all false

theorem ans_lt {w w' : World} {ys : List Int} {a : Option Addr} {n c : Nat} (h : Ans w w' ys a n c) : ∀ b, (Value.slice a n c).ownBlock = some b → w.heap.size ≤ b ∧ b < w'.heap.size := fun b hb => ⟨h.2.1 b hb, h.1.lt hb⟩

set_option maxRecDepth 20000 in
set_option maxHeartbeats 4000000 in
theorem frameSeals_walk (d s : Mac) (k : Int) (pt : Part) (d' s' : Mac) (m : Int) (qt : Part) (w : World) (hd : d.ok) (hs : s.ok) (hk : -9223372036854775808 ≤ k ∧ k ≤ 9223372036854775807) (hp : pt.ok w) (hz : pt.zs.length ≤ 140737488351232) (hd' : d'.ok) (hs' : s'.ok) (hm : -9223372036854775808 ≤ m ∧ m ≤ 9223372036854775807) (hq : qt.ok w) (hqz : qt.zs.length ≤ 140737488351232) :
    Calls Try.prog 4 #[frameV d s k pt.val, frameV d' s' m qt.val] w fun e w' => e = .returned (.bool true) ∧ Below w.heap.size w w' := by
  have C1 := hid (sealsC d s k pt w hd hs hz hp)
  have C2 := hid (sealsC d' s' m qt w hd' hs' hqz hq)
  clear hd hs hp hd' hs' hq hk hm
  obtain ⟨fa, fc, ps⟩ := pt
  obtain ⟨ha, hc, qs⟩ := qt
  simp only [frameV, Part.val] at *
  generalize ps.length = l at *
  generalize qs.length = n at *
  generalize sealB d s k ps = Y1 at *
  generalize sealB d' s' m qs = Y2 at *
  generalize sealE k ps = E1 at *
  generalize sealE m qs = E2 at *
  generalize L2 ps = LX at *
  generalize L2 qs = LY at *
  obtain ⟨d0, d1, d2, d3, d4, d5⟩ := d
  obtain ⟨s0, s1, s2, s3, s4, s5⟩ := s
  obtain ⟨p0, p1, p2, p3, p4, p5⟩ := d'
  obtain ⟨q0, q1, q2, q3, q4, q5⟩ := s'
  simp only [frameC] at *
  go_enter Try.func4, Try.ntmps4
  go_wp2_with fail
  refine (awake_any _).mono ?_
  rintro e w1 ⟨rfl, hb1⟩
  have hh0 := ((Holds.nil w).push (.cells #[.int .u8 d0, .int .u8 d1, .int .u8 d2, .int .u8 d3, .int .u8 d4, .int .u8 d5, .int .u8 s0, .int .u8 s1, .int .u8 s2, .int .u8 s3, .int .u8 s4, .int .u8 s5, .int .i64 k, .slice fa l fc] 27)).push (.cells #[.int .u8 p0, .int .u8 p1, .int .u8 p2, .int .u8 p3, .int .u8 p4, .int .u8 p5, .int .u8 q0, .int .u8 q1, .int .u8 q2, .int .u8 q3, .int .u8 q4, .int .u8 q5, .int .i64 m, .slice ha n hc] 27)
  simp only [World.size_alloc] at hh0
  have HH1 := hid (hh0.below hb1)
  have HB1 := hid (bstep (bpush (bpush (Below.refl _ _) (.cells #[.int .u8 d0, .int .u8 d1, .int .u8 d2, .int .u8 d3, .int .u8 d4, .int .u8 d5, .int .u8 s0, .int .u8 s1, .int .u8 s2, .int .u8 s3, .int .u8 s4, .int .u8 s5, .int .i64 k, .slice fa l fc] 27)) (.cells #[.int .u8 p0, .int .u8 p1, .int .u8 p2, .int .u8 p3, .int .u8 p4, .int .u8 p5, .int .u8 q0, .int .u8 q1, .int .u8 q2, .int .u8 q3, .int .u8 q4, .int .u8 q5, .int .i64 m, .slice ha n hc] 27)) hb1)
  clear hh0 hb1
  have cf1 : ∀ q, w1.cell? ⟨w.heap.size, q, none⟩ = (#[.int .u8 d0, .int .u8 d1, .int .u8 d2, .int .u8 d3, .int .u8 d4, .int .u8 d5, .int .u8 s0, .int .u8 s1, .int .u8 s2, .int .u8 s3, .int .u8 s4, .int .u8 s5, .int .i64 k, .slice fa l fc] : Array Value)[q]? := fun q => cell_of_heap (HH1.out.at 1 _ _ rfl) q
  go_wp2_with fail
  refine (C1.out.rf _ HB1.out).mono ?_
  rintro e w2 ⟨a1, n1, c1, rfl, an1⟩
  have HN1 := hid an1
  have HH2 := hid (HH1.out.below an1.2.2)
  have HB2 := hid (bstep HB1.out an1.2.2)
  have i1 := ans_lt an1
  have HI1 := hid i1
  have z12 : w1.heap.size ≤ w2.heap.size := an1.2.2.size
  clear an1 i1 cf1 HH1 HB1
  have cg2 : ∀ q, w2.cell? ⟨w.heap.size + 1, q, none⟩ = (#[.int .u8 p0, .int .u8 p1, .int .u8 p2, .int .u8 p3, .int .u8 p4, .int .u8 p5, .int .u8 q0, .int .u8 q1, .int .u8 q2, .int .u8 q3, .int .u8 q4, .int .u8 q5, .int .i64 m, .slice ha n hc] : Array Value)[q]? := fun q => cell_of_heap (HH2.out.at 0 _ _ rfl) q
  go_wp2_with fail
  refine (C2.out.rf _ HB2.out).mono ?_
  rintro e w3 ⟨a2, n2, c2, rfl, an2⟩
  have HN2 := hid an2
  have HH3 := hid (HH2.out.below an2.2.2)
  have HB3 := hid (bstep HB2.out an2.2.2)
  have i2 := ans_lt an2
  have HI2 := hid i2
  have HR13 := hid (HN1.out.1.below an2.2.2)
  have z23 : w2.heap.size ≤ w3.heap.size := an2.2.2.size
  clear an2 i2 cg2 HH2 HB2
  have cf3 : ∀ q, w3.cell? ⟨w.heap.size, q, none⟩ = (#[.int .u8 d0, .int .u8 d1, .int .u8 d2, .int .u8 d3, .int .u8 d4, .int .u8 d5, .int .u8 s0, .int .u8 s1, .int .u8 s2, .int .u8 s3, .int .u8 s4, .int .u8 s5, .int .i64 k, .slice fa l fc] : Array Value)[q]? := fun q => cell_of_heap (HH3.out.at 1 _ _ rfl) q
  have l30 : w.heap.size + 1 < w3.heap.size := heap_lt (HH3.out.at 0 _ _ rfl)
  have l31 : w.heap.size < w3.heap.size := by omega
  go_wp2_with fail
  refine (C1.out.ln _ (bpush HB3.out _)).mono ?_
  rintro e w4 ⟨glx, rfl, hlx, hgx, hb4⟩
  have bx := bpush (Below.refl w3.heap.size w3) (.cells #[.int .u8 d0, .int .u8 d1, .int .u8 d2, .int .u8 d3, .int .u8 d4, .int .u8 d5, .int .u8 s0, .int .u8 s1, .int .u8 s2, .int .u8 s3, .int .u8 s4, .int .u8 s5, .int .i64 k, .slice fa l fc] 27)
  have HH4 := hid (((HH3.out.push (.cells #[.int .u8 d0, .int .u8 d1, .int .u8 d2, .int .u8 d3, .int .u8 d4, .int .u8 d5, .int .u8 s0, .int .u8 s1, .int .u8 s2, .int .u8 s3, .int .u8 s4, .int .u8 s5, .int .i64 k, .slice fa l fc] 27)).below hb4).cons hgx)
  have HB4 := hid (bstep (bpush HB3.out (.cells #[.int .u8 d0, .int .u8 d1, .int .u8 d2, .int .u8 d3, .int .u8 d4, .int .u8 d5, .int .u8 s0, .int .u8 s1, .int .u8 s2, .int .u8 s3, .int .u8 s4, .int .u8 s5, .int .i64 k, .slice fa l fc] 27)) hb4)
  have HR14 := hid ((HR13.out.below bx).below hb4)
  have HR24 := hid ((HN2.out.1.below bx).below hb4)
  rw [World.size_alloc] at hlx
  have z34 : w3.heap.size + 1 ≤ w4.heap.size := by have := hb4.size; simpa using this
  have hlx2 : glx < w4.heap.size := heap_lt hgx
  clear hb4 hgx cf3 HH3 HB3 HR13 bx
  clear HN1 HN2
  generalize w3.heap.size = gx at *
  have cx4 : ∀ q, w4.cell? ⟨gx, q, none⟩ = (#[.int .u8 d0, .int .u8 d1, .int .u8 d2, .int .u8 d3, .int .u8 d4, .int .u8 d5, .int .u8 s0, .int .u8 s1, .int .u8 s2, .int .u8 s3, .int .u8 s4, .int .u8 s5, .int .i64 k, .slice fa l fc] : Array Value)[q]? := fun q => cell_of_heap (HH4.out.at 1 _ _ rfl) q
  have fz4 : ∀ q, w4.frozen? ⟨gx, q, none⟩ = false := fun q => frozen_of_heap (HH4.out.at 1 _ _ rfl) q
  have cg4 : ∀ q, w4.cell? ⟨w.heap.size + 1, q, none⟩ = (#[.int .u8 p0, .int .u8 p1, .int .u8 p2, .int .u8 p3, .int .u8 p4, .int .u8 p5, .int .u8 q0, .int .u8 q1, .int .u8 q2, .int .u8 q3, .int .u8 q4, .int .u8 q5, .int .i64 m, .slice ha n hc] : Array Value)[q]? := fun q => cell_of_heap (HH4.out.at 2 _ _ rfl) q
  have ne1 : ¬ w.heap.size + 1 = gx := by omega
  have l41 : w.heap.size + 1 < w4.heap.size := by omega
  have bt4 : But gx w4 (w4.setCell ⟨gx, 13, none⟩ (.slice (some ⟨glx, 0, none⟩) l (l + 2))) := But.setCell _ _ _ _
  have sz4 : (w4.setCell ⟨gx, 13, none⟩ (.slice (some ⟨glx, 0, none⟩) l (l + 2))).heap.size = w4.heap.size := by simp [World.setCell]
  have hx4 : (w4.setCell ⟨gx, 13, none⟩ (.slice (some ⟨glx, 0, none⟩) l (l + 2))).heap[gx]? = some (.cells #[.int .u8 d0, .int .u8 d1, .int .u8 d2, .int .u8 d3, .int .u8 d4, .int .u8 d5, .int .u8 s0, .int .u8 s1, .int .u8 s2, .int .u8 s3, .int .u8 s4, .int .u8 s5, .int .i64 k, .slice (some ⟨glx, 0, none⟩) l (l + 2)] 27) := heap_setCell (HH4.out.at 1 _ _ rfl)
  have HH4' : Hid (Holds (w4.setCell ⟨gx, 13, none⟩ (.slice (some ⟨glx, 0, none⟩) l (l + 2))) [(glx, .cells LX 5), (gx, .cells #[.int .u8 d0, .int .u8 d1, .int .u8 d2, .int .u8 d3, .int .u8 d4, .int .u8 d5, .int .u8 s0, .int .u8 s1, .int .u8 s2, .int .u8 s3, .int .u8 s4, .int .u8 s5, .int .i64 k, .slice (some ⟨glx, 0, none⟩) l (l + 2)] 27), (w.heap.size + 1, .cells #[.int .u8 p0, .int .u8 p1, .int .u8 p2, .int .u8 p3, .int .u8 p4, .int .u8 p5, .int .u8 q0, .int .u8 q1, .int .u8 q2, .int .u8 q3, .int .u8 q4, .int .u8 q5, .int .i64 m, .slice ha n hc] 27), (w.heap.size, .cells #[.int .u8 d0, .int .u8 d1, .int .u8 d2, .int .u8 d3, .int .u8 d4, .int .u8 d5, .int .u8 s0, .int .u8 s1, .int .u8 s2, .int .u8 s3, .int .u8 s4, .int .u8 s5, .int .i64 k, .slice fa l fc] 27)]) :=
    ((((Holds.nil _).cons (keptBut (HH4.out.at 3 _ _ rfl) bt4 (by omega))).cons (keptBut (HH4.out.at 2 _ _ rfl) bt4 (by omega))).cons hx4).cons (keptBut (HH4.out.at 0 _ _ rfl) bt4 (by omega))
  have HB4' := hid (bbut HB4.out bt4 (by omega))
  have HR14' := hid (HR14.out.but bt4 (fun b hb => by have := HI1.out b hb; omega))
  have HR24' := hid (HR24.out.but bt4 (fun b hb => by have := HI2.out b hb; omega))
  have HSZ4 := hid sz4
  clear hx4 bt4 sz4 HH4 HB4 HR14 HR24
  go_wp2_with fail
  refine (C2.out.ln _ (bpush HB4'.out _)).mono ?_
  rintro e w5 ⟨gly, rfl, hly, hgy, hb5⟩
  have HH5 := hid (((HH4'.out.push (.cells #[.int .u8 p0, .int .u8 p1, .int .u8 p2, .int .u8 p3, .int .u8 p4, .int .u8 p5, .int .u8 q0, .int .u8 q1, .int .u8 q2, .int .u8 q3, .int .u8 q4, .int .u8 q5, .int .i64 m, .slice ha n hc] 27)).below hb5).cons hgy)
  have HB5 := hid (bstep (bpush HB4'.out (.cells #[.int .u8 p0, .int .u8 p1, .int .u8 p2, .int .u8 p3, .int .u8 p4, .int .u8 p5, .int .u8 q0, .int .u8 q1, .int .u8 q2, .int .u8 q3, .int .u8 q4, .int .u8 q5, .int .i64 m, .slice ha n hc] 27)) hb5)
  have HR15 := hid ((HR14'.out.below (bpush (Below.refl _ _) (.cells #[.int .u8 p0, .int .u8 p1, .int .u8 p2, .int .u8 p3, .int .u8 p4, .int .u8 p5, .int .u8 q0, .int .u8 q1, .int .u8 q2, .int .u8 q3, .int .u8 q4, .int .u8 q5, .int .i64 m, .slice ha n hc] 27))).below hb5)
  have HR25 := hid ((HR24'.out.below (bpush (Below.refl _ _) (.cells #[.int .u8 p0, .int .u8 p1, .int .u8 p2, .int .u8 p3, .int .u8 p4, .int .u8 p5, .int .u8 q0, .int .u8 q1, .int .u8 q2, .int .u8 q3, .int .u8 q4, .int .u8 q5, .int .i64 m, .slice ha n hc] 27))).below hb5)
  rw [World.size_alloc, HSZ4.out] at hly
  have z45 : w4.heap.size + 1 ≤ w5.heap.size := by have := hb5.size; rw [World.size_alloc, HSZ4.out] at this; exact this
  have hly2 : gly < w5.heap.size := heap_lt hgy
  rw [HSZ4.out] at HH5
  clear hb5 hgy cx4 fz4 cg4 HH4' HB4' HR14' HR24' HSZ4
  generalize w4.heap.size = gy at *
  have cy5 : ∀ q, w5.cell? ⟨gy, q, none⟩ = (#[.int .u8 p0, .int .u8 p1, .int .u8 p2, .int .u8 p3, .int .u8 p4, .int .u8 p5, .int .u8 q0, .int .u8 q1, .int .u8 q2, .int .u8 q3, .int .u8 q4, .int .u8 q5, .int .i64 m, .slice ha n hc] : Array Value)[q]? := fun q => cell_of_heap (HH5.out.at 1 _ _ rfl) q
  have fz5 : ∀ q, w5.frozen? ⟨gy, q, none⟩ = false := fun q => frozen_of_heap (HH5.out.at 1 _ _ rfl) q
  have cx5 : ∀ q, w5.cell? ⟨gx, q, none⟩ = (#[.int .u8 d0, .int .u8 d1, .int .u8 d2, .int .u8 d3, .int .u8 d4, .int .u8 d5, .int .u8 s0, .int .u8 s1, .int .u8 s2, .int .u8 s3, .int .u8 s4, .int .u8 s5, .int .i64 k, .slice (some ⟨glx, 0, none⟩) l (l + 2)] : Array Value)[q]? := fun q => cell_of_heap (HH5.out.at 3 _ _ rfl) q
  have ne2 : ¬ gx = gy := by omega
  have bt5 : But gy w5 (w5.setCell ⟨gy, 13, none⟩ (.slice (some ⟨gly, 0, none⟩) n (n + 2))) := But.setCell _ _ _ _
  have sz5 : (w5.setCell ⟨gy, 13, none⟩ (.slice (some ⟨gly, 0, none⟩) n (n + 2))).heap.size = w5.heap.size := by simp [World.setCell]
  have hy5 : (w5.setCell ⟨gy, 13, none⟩ (.slice (some ⟨gly, 0, none⟩) n (n + 2))).heap[gy]? = some (.cells #[.int .u8 p0, .int .u8 p1, .int .u8 p2, .int .u8 p3, .int .u8 p4, .int .u8 p5, .int .u8 q0, .int .u8 q1, .int .u8 q2, .int .u8 q3, .int .u8 q4, .int .u8 q5, .int .i64 m, .slice (some ⟨gly, 0, none⟩) n (n + 2)] 27) := heap_setCell (HH5.out.at 1 _ _ rfl)
  have HH5' : Hid (Holds (w5.setCell ⟨gy, 13, none⟩ (.slice (some ⟨gly, 0, none⟩) n (n + 2))) [(gly, .cells LY 5), (gy, .cells #[.int .u8 p0, .int .u8 p1, .int .u8 p2, .int .u8 p3, .int .u8 p4, .int .u8 p5, .int .u8 q0, .int .u8 q1, .int .u8 q2, .int .u8 q3, .int .u8 q4, .int .u8 q5, .int .i64 m, .slice (some ⟨gly, 0, none⟩) n (n + 2)] 27), (glx, .cells LX 5), (gx, .cells #[.int .u8 d0, .int .u8 d1, .int .u8 d2, .int .u8 d3, .int .u8 d4, .int .u8 d5, .int .u8 s0, .int .u8 s1, .int .u8 s2, .int .u8 s3, .int .u8 s4, .int .u8 s5, .int .i64 k, .slice (some ⟨glx, 0, none⟩) l (l + 2)] 27), (w.heap.size + 1, .cells #[.int .u8 p0, .int .u8 p1, .int .u8 p2, .int .u8 p3, .int .u8 p4, .int .u8 p5, .int .u8 q0, .int .u8 q1, .int .u8 q2, .int .u8 q3, .int .u8 q4, .int .u8 q5, .int .i64 m, .slice ha n hc] 27), (w.heap.size, .cells #[.int .u8 d0, .int .u8 d1, .int .u8 d2, .int .u8 d3, .int .u8 d4, .int .u8 d5, .int .u8 s0, .int .u8 s1, .int .u8 s2, .int .u8 s3, .int .u8 s4, .int .u8 s5, .int .i64 k, .slice fa l fc] 27)]) :=
    ((((((Holds.nil _).cons (keptBut (HH5.out.at 5 _ _ rfl) bt5 (by omega))).cons (keptBut (HH5.out.at 4 _ _ rfl) bt5 (by omega))).cons (keptBut (HH5.out.at 3 _ _ rfl) bt5 (by omega))).cons (keptBut (HH5.out.at 2 _ _ rfl) bt5 (by omega))).cons hy5).cons (keptBut (HH5.out.at 0 _ _ rfl) bt5 (by omega))
  have HB5' := hid (bbut HB5.out bt5 (by omega))
  have HR15' := hid (HR15.out.but bt5 (fun b hb => by have := HI1.out b hb; omega))
  have HR25' := hid (HR25.out.but bt5 (fun b hb => by have := HI2.out b hb; omega))
  have HSZ5 := hid sz5
  clear hy5 bt5 sz5 HH5 HB5 HR15 HR25
  go_wp2_with fail
  refine (C1.out.sl _ glx (HH5'.out.at 2 _ _ rfl)).mono ?_
  rintro e w6 ⟨a6, n6, c6, rfl, an6⟩
  have HH6 := hid (HH5'.out.below an6.2.2)
  have HB6 := hid (bstep HB5'.out an6.2.2)
  have HR16 := hid (HR15'.out.below an6.2.2)
  have HR26 := hid (HR25'.out.below an6.2.2)
  have HR66 := hid an6.1
  have i6 := ans_lt an6
  rw [HSZ5.out] at i6
  have z56 : w5.heap.size ≤ w6.heap.size := by have := an6.2.2.size; rw [HSZ5.out] at this; exact this
  have HI6 := hid i6
  clear an6 i6 HH5' HB5' HR15' HR25' HSZ5 cy5 fz5 cx5
  have cy6 : ∀ q, w6.cell? ⟨gy, q, none⟩ = (#[.int .u8 p0, .int .u8 p1, .int .u8 p2, .int .u8 p3, .int .u8 p4, .int .u8 p5, .int .u8 q0, .int .u8 q1, .int .u8 q2, .int .u8 q3, .int .u8 q4, .int .u8 q5, .int .i64 m, .slice (some ⟨gly, 0, none⟩) n (n + 2)] : Array Value)[q]? := fun q => cell_of_heap (HH6.out.at 1 _ _ rfl) q
  go_wp2_with fail
  refine (C2.out.sl _ gly (HH6.out.at 0 _ _ rfl)).mono ?_
  rintro e w7 ⟨a7, n7, c7, rfl, an7⟩
  have HH7 := hid (HH6.out.below an7.2.2)
  have HB7 := hid (bstep HB6.out an7.2.2)
  have HR17 := hid (HR16.out.below an7.2.2)
  have HR27 := hid (HR26.out.below an7.2.2)
  have HR67 := hid (HR66.out.below an7.2.2)
  have HR77 := hid an7.1
  have HI7 := hid (ans_lt an7)
  have z67 : w6.heap.size ≤ w7.heap.size := an7.2.2.size
  clear an7 HH6 HB6 HR16 HR26 HR66 cy6
  have cx7 : ∀ q, w7.cell? ⟨gx, q, none⟩ = (#[.int .u8 d0, .int .u8 d1, .int .u8 d2, .int .u8 d3, .int .u8 d4, .int .u8 d5, .int .u8 s0, .int .u8 s1, .int .u8 s2, .int .u8 s3, .int .u8 s4, .int .u8 s5, .int .i64 k, .slice (some ⟨glx, 0, none⟩) l (l + 2)] : Array Value)[q]? := fun q => cell_of_heap (HH7.out.at 3 _ _ rfl) q
  go_wp2_with fail
  refine (C1.out.sl _ glx (HH7.out.at 2 _ _ rfl)).mono ?_
  rintro e w8 ⟨a8, n8, c8, rfl, an8⟩
  have HH8 := hid (HH7.out.below an8.2.2)
  have HB8 := hid (bstep HB7.out an8.2.2)
  have HR18 := hid (HR17.out.below an8.2.2)
  have HR28 := hid (HR27.out.below an8.2.2)
  have HR68 := hid (HR67.out.below an8.2.2)
  have HR78 := hid (HR77.out.below an8.2.2)
  have HR88 := hid an8.1
  have HI8 := hid (ans_lt an8)
  have z78 : w7.heap.size ≤ w8.heap.size := an8.2.2.size
  clear an8 HH7 HB7 HR17 HR27 HR67 HR77 cx7
  have cx8 : ∀ q, w8.cell? ⟨gx, q, none⟩ = (#[.int .u8 d0, .int .u8 d1, .int .u8 d2, .int .u8 d3, .int .u8 d4, .int .u8 d5, .int .u8 s0, .int .u8 s1, .int .u8 s2, .int .u8 s3, .int .u8 s4, .int .u8 s5, .int .i64 k, .slice (some ⟨glx, 0, none⟩) l (l + 2)] : Array Value)[q]? := fun q => cell_of_heap (HH8.out.at 3 _ _ rfl) q
  have cf8 : ∀ q, w8.cell? ⟨w.heap.size, q, none⟩ = (#[.int .u8 d0, .int .u8 d1, .int .u8 d2, .int .u8 d3, .int .u8 d4, .int .u8 d5, .int .u8 s0, .int .u8 s1, .int .u8 s2, .int .u8 s3, .int .u8 s4, .int .u8 s5, .int .i64 k, .slice fa l fc] : Array Value)[q]? := fun q => cell_of_heap (HH8.out.at 5 _ _ rfl) q
  go_wp2_with fail
  refine (C1.out.al _ glx HB8.out (HH8.out.at 2 _ _ rfl)).mono ?_
  rintro e w9 ⟨rfl, bt9⟩
  have HH9 : Hid (Holds w9 [(gly, .cells LY 5), (gy, .cells #[.int .u8 p0, .int .u8 p1, .int .u8 p2, .int .u8 p3, .int .u8 p4, .int .u8 p5, .int .u8 q0, .int .u8 q1, .int .u8 q2, .int .u8 q3, .int .u8 q4, .int .u8 q5, .int .i64 m, .slice (some ⟨gly, 0, none⟩) n (n + 2)] 27), (w.heap.size + 1, .cells #[.int .u8 p0, .int .u8 p1, .int .u8 p2, .int .u8 p3, .int .u8 p4, .int .u8 p5, .int .u8 q0, .int .u8 q1, .int .u8 q2, .int .u8 q3, .int .u8 q4, .int .u8 q5, .int .i64 m, .slice ha n hc] 27)]) :=
    (((Holds.nil _).cons (keptBut (HH8.out.at 4 _ _ rfl) bt9 (by omega))).cons (keptBut (HH8.out.at 1 _ _ rfl) bt9 (by omega))).cons (keptBut (HH8.out.at 0 _ _ rfl) bt9 (by omega))
  have HB9 := hid (bbut HB8.out bt9 (by omega))
  have HR19 := hid (HR18.out.but bt9 (fun b hb => by have := HI1.out b hb; omega))
  have HR29 := hid (HR28.out.but bt9 (fun b hb => by have := HI2.out b hb; omega))
  have HR69 := hid (HR68.out.but bt9 (fun b hb => by have := HI6.out b hb; omega))
  have HR79 := hid (HR78.out.but bt9 (fun b hb => by have := HI7.out b hb; omega))
  have HR89 := hid (HR88.out.but bt9 (fun b hb => by have := HI8.out b hb; omega))
  have z89 : w8.heap.size ≤ w9.heap.size := bt9.size
  clear bt9 HH8 HB8 HR18 HR28 HR68 HR78 HR88 cx8 cf8
  have cy9 : ∀ q, w9.cell? ⟨gy, q, none⟩ = (#[.int .u8 p0, .int .u8 p1, .int .u8 p2, .int .u8 p3, .int .u8 p4, .int .u8 p5, .int .u8 q0, .int .u8 q1, .int .u8 q2, .int .u8 q3, .int .u8 q4, .int .u8 q5, .int .i64 m, .slice (some ⟨gly, 0, none⟩) n (n + 2)] : Array Value)[q]? := fun q => cell_of_heap (HH9.out.at 1 _ _ rfl) q
  have cg9 : ∀ q, w9.cell? ⟨w.heap.size + 1, q, none⟩ = (#[.int .u8 p0, .int .u8 p1, .int .u8 p2, .int .u8 p3, .int .u8 p4, .int .u8 p5, .int .u8 q0, .int .u8 q1, .int .u8 q2, .int .u8 q3, .int .u8 q4, .int .u8 q5, .int .i64 m, .slice ha n hc] : Array Value)[q]? := fun q => cell_of_heap (HH9.out.at 2 _ _ rfl) q
  go_wp2_with fail
  refine (C2.out.al _ gly HB9.out (HH9.out.at 0 _ _ rfl)).mono ?_
  rintro e wa ⟨rfl, bta⟩
  have HBa := hid (bbut HB9.out bta (by omega))
  have HR1a := hid (HR19.out.but bta (fun b hb => by have := HI1.out b hb; omega))
  have HR2a := hid (HR29.out.but bta (fun b hb => by have := HI2.out b hb; omega))
  have HR6a := hid (HR69.out.but bta (fun b hb => by have := HI6.out b hb; omega))
  have HR7a := hid (HR79.out.but bta (fun b hb => by have := HI7.out b hb; omega))
  have HR8a := hid (HR89.out.but bta (fun b hb => by have := HI8.out b hb; omega))
  have z9a : w9.heap.size ≤ wa.heap.size := bta.size
  clear bta HH9 HB9 HR19 HR29 HR69 HR79 HR89 cy9 cg9
  have v1 := HR1a.out.conv0 C1.out.bytes
  have v2 := HR2a.out.conv0 C2.out.bytes
  have v6 := HR6a.out.conv0 C1.out.bytes
  have v7 := HR7a.out.conv0 C2.out.bytes
  have v8 := HR8a.out.conv0 C1.out.bytes
  have st1 := str_same (strOfNums Y1)
  have st2 := str_same (strOfNums Y2)
  generalize strOfNums Y1 = X1 at *
  generalize strOfNums Y2 = X2 at *
  have hE1 : (E1 != E1) = false := by simp
  have hE2 : (E2 != E2) = false := by simp
  go_wp2_with fail
  clear v1 v2 v6 v7 v8
  have hbk : w.heap.size ≤ wa.heap.size := HBa.out.size
  have ra := bpush (Below.refl wa.heap.size wa) (.cells #[.slice none 0 0, .slice none 0 0] 37)
  have HBk := hid (bpush HBa.out (.cells #[.slice none 0 0, .slice none 0 0] 37))
  have HR6k := hid (HR6a.out.below ra)
  have HR7k := hid (HR7a.out.below ra)
  have HR8k := hid (HR8a.out.below ra)
  refine (take_late wa.heap.size _ _ (.slice a6 n6 c6) [] Y1 w.heap.size _ (Late.new wa w.heap.size hbk) HR6k.out C1.out.bytes (by have := C1.out.short; omega) (by simp) (fun b hb => ⟨by have := HI6.out b hb; omega, by have := HI6.out b hb; omega, by simp⟩)).mono ?_
  rintro e wb ⟨rfl, Lb, Vb, lb, kb, bb⟩
  have HLb := hid lb
  have HBb := hid (HBk.out.trans bb)
  have HR7b := hid (HR7k.out.low kb (fun b hb => by have := HI7.out b hb; omega))
  have HR8b := hid (HR8k.out.low kb (fun b hb => by have := HI8.out b hb; omega))
  clear lb bb kb ra HR6k HR7k HR8k HBk
  generalize wa.heap.size = gk at *
  go_wp2_with fail
  refine (take_late gk Lb Vb (.slice a7 n7 c7) _ Y2 w.heap.size wb HLb.out HR7b.out C2.out.bytes (by have := C2.out.short; omega) (by simp) (fun b hb => ⟨by have := HI7.out b hb; omega, by have := HI7.out b hb; omega, fun p hp e => by
    simp at hp
    subst hp
    have h1 := HI7.out b hb
    have h2 := HI6.out b e
    omega⟩)).mono ?_
  rintro e wd ⟨rfl, Ld, Vd, ld, kd, bd⟩
  have HLd := hid ld
  have HBd := hid (HBb.out.trans bd)
  have HR8d := hid (HR8b.out.low kd (fun b hb => by have := HI8.out b hb; omega))
  clear ld bd kd HR7b HR8b HBb HLb
  go_wp2_with fail
  refine (take_late gk Ld Vd (.slice a8 n8 c8) _ Y1 w.heap.size wd HLd.out HR8d.out C1.out.bytes (by have := C1.out.short; omega) (by simp) (fun b hb => ⟨by have := HI8.out b hb; omega, by have := HI8.out b hb; omega, fun p hp e => by
    have h1 := HI8.out b hb
    simp at hp
    rcases hp with hp | hp
    · subst hp
      have h2 := HI6.out b e
      omega
    · subst hp
      have h2 := HI7.out b e
      omega⟩)).mono ?_
  rintro e we ⟨rfl, Le, Ve, le, ke, be⟩
  have HLe := hid le
  have HBe := hid (HBd.out.trans be)
  clear le be ke HR8d HBd HLd
  go_wp2_with fail
  refine (owned_late gk Le Ve _ w.heap.size we HLe.out).mono ?_
  rintro e wf ⟨rfl, bf⟩
  have HBf := hid (HBe.out.trans bf)
  clear bf HBe HLe
  go_wp2
  go_ret
  exact ⟨rfl, HBf.out⟩
end Go.Proofs.Ytkhongkfnedflaa
