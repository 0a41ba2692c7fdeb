/-
  The walk of the statement FrameOpens.
-/
import Derived.Test.YtkhongkfnedflaaFRefOpen
import Derived.Test.YtkhongkfnedflaaBBookL
namespace Go.Proofs.Ytkhongkfnedflaa
open Go.RowKit
set_option linter.all false

/-- the contracts that the statement leans on, at some bytes (fa, l, fc): the frame that Open makes of them (F, whose Data is Y), its error E. -/
structure OpensC (w : World) (F : Option Addr → Nat → Nat → Array Value) (fa : Option Addr) (l fc : Nat) (LX : Array Value) (Y : List Int) (E : Int) : Prop where
  rf : ∀ w', Below w.heap.size w w' → Calls Try.prog 15 #[.slice fa l fc] w' fun e w'' => ∃ a n c, e = .returned (.tuple #[.agg (F a n c), .int .i64 E]) ∧ Ans w' w'' Y a n c
  op : ∀ w' g, w'.heap[g]? = some (.cells LX 5 (0, 0)) → Calls Try.prog 16 #[.slice (some ⟨g, 0, none⟩) l (l + 2)] w' fun e w'' => ∃ a n c, e = .returned (.tuple #[.agg (F a n c), .int .i64 E]) ∧ Ans w' w'' Y a n c
  ln : ∀ w', Below w.heap.size w w' → Calls Try.prog 10 #[.slice fa l fc] w' fun e w'' => ∃ g, e = .returned (.slice (some ⟨g, 0, none⟩) l (l + 2)) ∧ w'.heap.size ≤ g ∧ w''.heap[g]? = some (.cells LX 5 (0, 0)) ∧ Below w'.heap.size w' w''
  al : ∀ w' g, Below w.heap.size w w' → w'.heap[g]? = some (.cells LX 5 (0, 0)) → Calls Try.prog 12 #[.slice (some ⟨g, 0, none⟩) l (l + 2), .slice fa l fc] w' fun e w'' => e = .returned (.bool true) ∧ But g w' w''
  sm : ∀ (w' : World) a n c a' n' c', Row w' 5 (.slice a n c) (u8s Y) → Row w' 5 (.slice a' n' c') (u8s Y) → Calls Try.prog 17 #[.agg (F a n c), .agg (F a' n' c')] w' fun e w'' => e = .returned (.bool true) ∧ Below w'.heap.size w' w''
  bytes : ∀ z, z ∈ Y → 0 ≤ z ∧ z ≤ 255
  short : Y.length ≤ 1500
theorem opensC (pt : Part) (w : World) (hl : pt.zs.length ≤ 140737488351232) (hok : pt.ok w) :
    OpensC w (fun a n c => frameC (openR pt.zs).d (openR pt.zs).s (openR pt.zs).k (.slice a n c)) pt.a pt.zs.length pt.c (L2 pt.zs) (openR pt.zs).ys (openR pt.zs).er :=
  ⟨fun w' hb => refOpen_u pt w' (Part.ok_below hok hb) hl,
   fun w' g hg => open_u ⟨some ⟨g, 0, none⟩, pt.zs.length + 2, pt.zs⟩ w' (lent_part hok.1 hg) hl,
   fun w' hb => lent_u pt w' (Part.ok_below hok hb) hl,
   fun w' g hb hg => asLent_any g pt w' (Part.ok_below hok hb) hl hg,
   fun w' a n c a' n' c' h1 h2 => same_any _ _ _ _ a n c a' n' c' w' (openR_ok pt.zs hok.1).1 (openR_ok pt.zs hok.1).2.1 (openR_ok pt.zs hok.1).2.2.1 h1 h2,
   (openR_ok pt.zs hok.1).2.2.1, (openR_ok pt.zs hok.1).2.2.2⟩
theorem ans_lt {w w' : World} {ys : List Int} {a : Option Addr} {n c : Nat} (h : Ans w w' ys a n c) : ∀ b, (Value.slice a n c).ownBlock = some b → w.heap.size ≤ b ∧ b < w'.heap.size := fun b hb => ⟨h.2.1 b hb, h.1.lt hb⟩
theorem bal (w : World) (o : Obj) : Below w.heap.size w (w.alloc o) := bpush (Below.refl _ _) o

set_option maxRecDepth 20000 in
set_option maxHeartbeats 4000000 in
theorem frameOpens_walk (pt : Part) (qt : Part) (w : World) (hp : pt.ok w) (hz : pt.zs.length ≤ 140737488351232) (hq : qt.ok w) (hqz : qt.zs.length ≤ 140737488351232) :
    Calls Try.prog 5 #[pt.val, qt.val] w fun e w' => e = .returned (.bool true) ∧ Below w.heap.size w w' := by
  have C1 := hid (opensC pt w hz hp)
  have C2 := hid (opensC qt w hqz hq)
  clear hp hq
  obtain ⟨fa, fc, ps⟩ := pt
  obtain ⟨ha, hc, qs⟩ := qt
  simp only [Part.val] at *
  generalize openR ps = R1 at *
  generalize openR qs = R2 at *
  generalize ps.length = l at *
  generalize qs.length = n at *
  generalize L2 ps = LX at *
  generalize L2 qs = LY at *
  obtain ⟨⟨d0, d1, d2, d3, d4, d5⟩, ⟨s0, s1, s2, s3, s4, s5⟩, k, Y1, E1⟩ := R1
  obtain ⟨⟨p0, p1, p2, p3, p4, p5⟩, ⟨q0, q1, q2, q3, q4, q5⟩, m, Y2, E2⟩ := R2
  simp only [frameC] at *
  go_enter Try.func5, Try.ntmps5
  go_wp2_with fail
  refine (awake_any _).mono ?_
  rintro e w1 ⟨rfl, hb1⟩
  have HB1 := hid hb1
  clear hb1
  go_wp2_with fail
  refine (C1.out.rf _ HB1.out).mono ?_
  rintro e w2 ⟨a1, n1, c1, rfl, an⟩
  have HB2 := hid (bpush (bstep HB1.out an.2.2) (.cells #[.int .u8 d0, .int .u8 d1, .int .u8 d2, .int .u8 d3, .int .u8 d4, .int .u8 d5, .int .u8 s0, .int .u8 s1, .int .u8 s2, .int .u8 s3, .int .u8 s4, .int .u8 s5, .int .i64 k, .slice a1 n1 c1] 27))
  have HR12 := hid (an.1.below (bal w2 (.cells #[.int .u8 d0, .int .u8 d1, .int .u8 d2, .int .u8 d3, .int .u8 d4, .int .u8 d5, .int .u8 s0, .int .u8 s1, .int .u8 s2, .int .u8 s3, .int .u8 s4, .int .u8 s5, .int .i64 k, .slice a1 n1 c1] 27)))
  have HI1 := hid (ans_lt an)
  have HH2 := hid ((Holds.nil w2).push (.cells #[.int .u8 d0, .int .u8 d1, .int .u8 d2, .int .u8 d3, .int .u8 d4, .int .u8 d5, .int .u8 s0, .int .u8 s1, .int .u8 s2, .int .u8 s3, .int .u8 s4, .int .u8 s5, .int .i64 k, .slice a1 n1 c1] 27))
  have z12 : w1.heap.size ≤ w2.heap.size := an.2.2.size
  have z01 : w.heap.size ≤ w1.heap.size := HB1.out.size
  clear an HB1
  go_wp2_with fail
  refine (C2.out.rf _ HB2.out).mono ?_
  rintro e w3 ⟨a2, n2, c2, rfl, an⟩
  have HB3 := hid (bpush (bstep HB2.out an.2.2) (.cells #[.int .u8 p0, .int .u8 p1, .int .u8 p2, .int .u8 p3, .int .u8 p4, .int .u8 p5, .int .u8 q0, .int .u8 q1, .int .u8 q2, .int .u8 q3, .int .u8 q4, .int .u8 q5, .int .i64 m, .slice a2 n2 c2] 27))
  have HR13 := hid ((HR12.out.below an.2.2).below (bal w3 (.cells #[.int .u8 p0, .int .u8 p1, .int .u8 p2, .int .u8 p3, .int .u8 p4, .int .u8 p5, .int .u8 q0, .int .u8 q1, .int .u8 q2, .int .u8 q3, .int .u8 q4, .int .u8 q5, .int .i64 m, .slice a2 n2 c2] 27)))
  have HR23 := hid (an.1.below (bal w3 (.cells #[.int .u8 p0, .int .u8 p1, .int .u8 p2, .int .u8 p3, .int .u8 p4, .int .u8 p5, .int .u8 q0, .int .u8 q1, .int .u8 q2, .int .u8 q3, .int .u8 q4, .int .u8 q5, .int .i64 m, .slice a2 n2 c2] 27)))
  have HI2 := hid (ans_lt an)
  have HH3 := hid ((HH2.out.below an.2.2).push (.cells #[.int .u8 p0, .int .u8 p1, .int .u8 p2, .int .u8 p3, .int .u8 p4, .int .u8 p5, .int .u8 q0, .int .u8 q1, .int .u8 q2, .int .u8 q3, .int .u8 q4, .int .u8 q5, .int .i64 m, .slice a2 n2 c2] 27))
  have z23 : w2.heap.size + 1 ≤ w3.heap.size := by have := an.2.2.size; simpa using this
  rw [World.size_alloc] at HI2
  clear an HB2 HH2 HR12
  generalize w2.heap.size = gw at *
  go_wp2_with fail
  refine (C1.out.ln _ HB3.out).mono ?_
  rintro e w4 ⟨glx, rfl, hlx, hgx, hb4⟩
  have HB4 := hid (bstep HB3.out hb4)
  have HR14 := hid (HR13.out.below hb4)
  have HR24 := hid (HR23.out.below hb4)
  have HH4 := hid ((HH3.out.below hb4).cons hgx)
  have z34 : w3.heap.size + 1 ≤ w4.heap.size := by have := hb4.size; simpa using this
  have hlx2 : glx < w4.heap.size := heap_lt hgx
  rw [World.size_alloc] at hlx
  clear hb4 hgx HB3 HR13 HR23 HH3
  generalize w3.heap.size = go at *
  go_wp2_with fail
  refine (C2.out.ln _ HB4.out).mono ?_
  rintro e w5 ⟨gly, rfl, hly, hgy, hb5⟩
  have HB5 := hid (bstep HB4.out hb5)
  have HR15 := hid (HR14.out.below hb5)
  have HR25 := hid (HR24.out.below hb5)
  have HH5 := hid ((HH4.out.below hb5).cons hgy)
  have z45 : w4.heap.size ≤ w5.heap.size := hb5.size
  have hly2 : gly < w5.heap.size := heap_lt hgy
  clear hb5 hgy HB4 HR14 HR24 HH4
  go_wp2_with fail
  refine (C1.out.op _ glx (HH5.out.at 1 _ _ rfl)).mono ?_
  rintro e w6 ⟨a6, n6, c6, rfl, an⟩
  have HB6 := hid (bpush (bstep HB5.out an.2.2) (.cells #[.int .u8 d0, .int .u8 d1, .int .u8 d2, .int .u8 d3, .int .u8 d4, .int .u8 d5, .int .u8 s0, .int .u8 s1, .int .u8 s2, .int .u8 s3, .int .u8 s4, .int .u8 s5, .int .i64 k, .slice a6 n6 c6] 27))
  have HR16 := hid ((HR15.out.below an.2.2).below (bal w6 (.cells #[.int .u8 d0, .int .u8 d1, .int .u8 d2, .int .u8 d3, .int .u8 d4, .int .u8 d5, .int .u8 s0, .int .u8 s1, .int .u8 s2, .int .u8 s3, .int .u8 s4, .int .u8 s5, .int .i64 k, .slice a6 n6 c6] 27)))
  have HR26 := hid ((HR25.out.below an.2.2).below (bal w6 (.cells #[.int .u8 d0, .int .u8 d1, .int .u8 d2, .int .u8 d3, .int .u8 d4, .int .u8 d5, .int .u8 s0, .int .u8 s1, .int .u8 s2, .int .u8 s3, .int .u8 s4, .int .u8 s5, .int .i64 k, .slice a6 n6 c6] 27)))
  have HR66 := hid (an.1.below (bal w6 (.cells #[.int .u8 d0, .int .u8 d1, .int .u8 d2, .int .u8 d3, .int .u8 d4, .int .u8 d5, .int .u8 s0, .int .u8 s1, .int .u8 s2, .int .u8 s3, .int .u8 s4, .int .u8 s5, .int .i64 k, .slice a6 n6 c6] 27)))
  have HI6 := hid (ans_lt an)
  have HH6 := hid ((HH5.out.below an.2.2).push (.cells #[.int .u8 d0, .int .u8 d1, .int .u8 d2, .int .u8 d3, .int .u8 d4, .int .u8 d5, .int .u8 s0, .int .u8 s1, .int .u8 s2, .int .u8 s3, .int .u8 s4, .int .u8 s5, .int .i64 k, .slice a6 n6 c6] 27))
  have z56 : w5.heap.size ≤ w6.heap.size := an.2.2.size
  clear an HB5 HH5 HR15 HR25
  go_wp2_with fail
  refine (C2.out.op _ gly (HH6.out.at 1 _ _ rfl)).mono ?_
  rintro e w7 ⟨a7, n7, c7, rfl, an⟩
  have HB7 := hid (bpush (bstep HB6.out an.2.2) (.cells #[.int .u8 p0, .int .u8 p1, .int .u8 p2, .int .u8 p3, .int .u8 p4, .int .u8 p5, .int .u8 q0, .int .u8 q1, .int .u8 q2, .int .u8 q3, .int .u8 q4, .int .u8 q5, .int .i64 m, .slice a7 n7 c7] 27))
  have HR17 := hid ((HR16.out.below an.2.2).below (bal w7 (.cells #[.int .u8 p0, .int .u8 p1, .int .u8 p2, .int .u8 p3, .int .u8 p4, .int .u8 p5, .int .u8 q0, .int .u8 q1, .int .u8 q2, .int .u8 q3, .int .u8 q4, .int .u8 q5, .int .i64 m, .slice a7 n7 c7] 27)))
  have HR27 := hid ((HR26.out.below an.2.2).below (bal w7 (.cells #[.int .u8 p0, .int .u8 p1, .int .u8 p2, .int .u8 p3, .int .u8 p4, .int .u8 p5, .int .u8 q0, .int .u8 q1, .int .u8 q2, .int .u8 q3, .int .u8 q4, .int .u8 q5, .int .i64 m, .slice a7 n7 c7] 27)))
  have HR67 := hid ((HR66.out.below an.2.2).below (bal w7 (.cells #[.int .u8 p0, .int .u8 p1, .int .u8 p2, .int .u8 p3, .int .u8 p4, .int .u8 p5, .int .u8 q0, .int .u8 q1, .int .u8 q2, .int .u8 q3, .int .u8 q4, .int .u8 q5, .int .i64 m, .slice a7 n7 c7] 27)))
  have HR77 := hid (an.1.below (bal w7 (.cells #[.int .u8 p0, .int .u8 p1, .int .u8 p2, .int .u8 p3, .int .u8 p4, .int .u8 p5, .int .u8 q0, .int .u8 q1, .int .u8 q2, .int .u8 q3, .int .u8 q4, .int .u8 q5, .int .i64 m, .slice a7 n7 c7] 27)))
  have HI7 := hid (ans_lt an)
  rw [World.size_alloc] at HI7
  have HH7 := hid ((HH6.out.below an.2.2).push (.cells #[.int .u8 p0, .int .u8 p1, .int .u8 p2, .int .u8 p3, .int .u8 p4, .int .u8 p5, .int .u8 q0, .int .u8 q1, .int .u8 q2, .int .u8 q3, .int .u8 q4, .int .u8 q5, .int .i64 m, .slice a7 n7 c7] 27))
  have z67 : w6.heap.size + 1 ≤ w7.heap.size := by have := an.2.2.size; simpa using this
  clear an HB6 HH6 HR16 HR26 HR66
  generalize w6.heap.size = g6 at *
  go_wp2_with fail
  refine (C1.out.op _ glx (HH7.out.at 3 _ _ rfl)).mono ?_
  rintro e w8 ⟨a8, n8, c8, rfl, an⟩
  have HB8 := hid (bpush (bstep HB7.out an.2.2) (.cells #[.int .u8 d0, .int .u8 d1, .int .u8 d2, .int .u8 d3, .int .u8 d4, .int .u8 d5, .int .u8 s0, .int .u8 s1, .int .u8 s2, .int .u8 s3, .int .u8 s4, .int .u8 s5, .int .i64 k, .slice a8 n8 c8] 27))
  have HR18 := hid ((HR17.out.below an.2.2).below (bal w8 (.cells #[.int .u8 d0, .int .u8 d1, .int .u8 d2, .int .u8 d3, .int .u8 d4, .int .u8 d5, .int .u8 s0, .int .u8 s1, .int .u8 s2, .int .u8 s3, .int .u8 s4, .int .u8 s5, .int .i64 k, .slice a8 n8 c8] 27)))
  have HR28 := hid ((HR27.out.below an.2.2).below (bal w8 (.cells #[.int .u8 d0, .int .u8 d1, .int .u8 d2, .int .u8 d3, .int .u8 d4, .int .u8 d5, .int .u8 s0, .int .u8 s1, .int .u8 s2, .int .u8 s3, .int .u8 s4, .int .u8 s5, .int .i64 k, .slice a8 n8 c8] 27)))
  have HR68 := hid ((HR67.out.below an.2.2).below (bal w8 (.cells #[.int .u8 d0, .int .u8 d1, .int .u8 d2, .int .u8 d3, .int .u8 d4, .int .u8 d5, .int .u8 s0, .int .u8 s1, .int .u8 s2, .int .u8 s3, .int .u8 s4, .int .u8 s5, .int .i64 k, .slice a8 n8 c8] 27)))
  have HR78 := hid ((HR77.out.below an.2.2).below (bal w8 (.cells #[.int .u8 d0, .int .u8 d1, .int .u8 d2, .int .u8 d3, .int .u8 d4, .int .u8 d5, .int .u8 s0, .int .u8 s1, .int .u8 s2, .int .u8 s3, .int .u8 s4, .int .u8 s5, .int .i64 k, .slice a8 n8 c8] 27)))
  have HR88 := hid (an.1.below (bal w8 (.cells #[.int .u8 d0, .int .u8 d1, .int .u8 d2, .int .u8 d3, .int .u8 d4, .int .u8 d5, .int .u8 s0, .int .u8 s1, .int .u8 s2, .int .u8 s3, .int .u8 s4, .int .u8 s5, .int .i64 k, .slice a8 n8 c8] 27)))
  have HI8 := hid (ans_lt an)
  rw [World.size_alloc] at HI8
  have HH8 := hid ((HH7.out.below an.2.2).push (.cells #[.int .u8 d0, .int .u8 d1, .int .u8 d2, .int .u8 d3, .int .u8 d4, .int .u8 d5, .int .u8 s0, .int .u8 s1, .int .u8 s2, .int .u8 s3, .int .u8 s4, .int .u8 s5, .int .i64 k, .slice a8 n8 c8] 27))
  have z78 : w7.heap.size + 1 ≤ w8.heap.size := by have := an.2.2.size; simpa using this
  have z8 : w8.heap.size + 1 = (w8.alloc (.cells #[.int .u8 d0, .int .u8 d1, .int .u8 d2, .int .u8 d3, .int .u8 d4, .int .u8 d5, .int .u8 s0, .int .u8 s1, .int .u8 s2, .int .u8 s3, .int .u8 s4, .int .u8 s5, .int .i64 k, .slice a8 n8 c8] 27)).heap.size := by simp
  clear an HB7 HH7 HR17 HR27 HR67 HR77
  generalize w7.heap.size = g7 at *
  go_wp2_with fail
  refine (C1.out.al _ glx HB8.out (HH8.out.at 4 _ _ rfl)).mono ?_
  rintro e w9 ⟨rfl, bt⟩
  have z89 : w8.heap.size + 1 ≤ w9.heap.size := by have := bt.size; simpa using this
  generalize w8.heap.size = g8 at *
  have HB9 := hid (bbut HB8.out bt (by omega))
  have HR19 := hid (HR18.out.but bt (fun b hb => by have := HI1.out b hb; omega))
  have HR29 := hid (HR28.out.but bt (fun b hb => by have := HI2.out b hb; omega))
  have HR69 := hid (HR68.out.but bt (fun b hb => by have := HI6.out b hb; omega))
  have HR79 := hid (HR78.out.but bt (fun b hb => by have := HI7.out b hb; omega))
  have HR89 := hid (HR88.out.but bt (fun b hb => by have := HI8.out b hb; omega))
  have HH9 : Hid (Holds w9 [(g8, (.cells #[.int .u8 d0, .int .u8 d1, .int .u8 d2, .int .u8 d3, .int .u8 d4, .int .u8 d5, .int .u8 s0, .int .u8 s1, .int .u8 s2, .int .u8 s3, .int .u8 s4, .int .u8 s5, .int .i64 k, .slice a8 n8 c8] 27)), (g7, (.cells #[.int .u8 p0, .int .u8 p1, .int .u8 p2, .int .u8 p3, .int .u8 p4, .int .u8 p5, .int .u8 q0, .int .u8 q1, .int .u8 q2, .int .u8 q3, .int .u8 q4, .int .u8 q5, .int .i64 m, .slice a7 n7 c7] 27)), (g6, (.cells #[.int .u8 d0, .int .u8 d1, .int .u8 d2, .int .u8 d3, .int .u8 d4, .int .u8 d5, .int .u8 s0, .int .u8 s1, .int .u8 s2, .int .u8 s3, .int .u8 s4, .int .u8 s5, .int .i64 k, .slice a6 n6 c6] 27)), (gly, (.cells LY 5)), (go, (.cells #[.int .u8 p0, .int .u8 p1, .int .u8 p2, .int .u8 p3, .int .u8 p4, .int .u8 p5, .int .u8 q0, .int .u8 q1, .int .u8 q2, .int .u8 q3, .int .u8 q4, .int .u8 q5, .int .i64 m, .slice a2 n2 c2] 27)), (gw, (.cells #[.int .u8 d0, .int .u8 d1, .int .u8 d2, .int .u8 d3, .int .u8 d4, .int .u8 d5, .int .u8 s0, .int .u8 s1, .int .u8 s2, .int .u8 s3, .int .u8 s4, .int .u8 s5, .int .i64 k, .slice a1 n1 c1] 27))]) :=
    ((((((Holds.nil _).cons (keptBut (HH8.out.at 6 _ _ rfl) bt (by omega))).cons (keptBut (HH8.out.at 5 _ _ rfl) bt (by omega))).cons (keptBut (HH8.out.at 3 _ _ rfl) bt (by omega))).cons (keptBut (HH8.out.at 2 _ _ rfl) bt (by omega))).cons (keptBut (HH8.out.at 1 _ _ rfl) bt (by omega))).cons (keptBut (HH8.out.at 0 _ _ rfl) bt (by omega))
  clear bt HB8 HH8 HR18 HR28 HR68 HR78 HR88 z8
  go_wp2_with fail
  refine (C2.out.al _ gly HB9.out (HH9.out.at 3 _ _ rfl)).mono ?_
  rintro e wa ⟨rfl, bt⟩
  have HBa := hid (bbut HB9.out bt (by omega))
  have HR1a := hid (HR19.out.but bt (fun b hb => by have := HI1.out b hb; omega))
  have HR2a := hid (HR29.out.but bt (fun b hb => by have := HI2.out b hb; omega))
  have HR6a := hid (HR69.out.but bt (fun b hb => by have := HI6.out b hb; omega))
  have HR7a := hid (HR79.out.but bt (fun b hb => by have := HI7.out b hb; omega))
  have HR8a := hid (HR89.out.but bt (fun b hb => by have := HI8.out b hb; omega))
  have HHa : Hid (Holds wa [(g8, (.cells #[.int .u8 d0, .int .u8 d1, .int .u8 d2, .int .u8 d3, .int .u8 d4, .int .u8 d5, .int .u8 s0, .int .u8 s1, .int .u8 s2, .int .u8 s3, .int .u8 s4, .int .u8 s5, .int .i64 k, .slice a8 n8 c8] 27)), (g7, (.cells #[.int .u8 p0, .int .u8 p1, .int .u8 p2, .int .u8 p3, .int .u8 p4, .int .u8 p5, .int .u8 q0, .int .u8 q1, .int .u8 q2, .int .u8 q3, .int .u8 q4, .int .u8 q5, .int .i64 m, .slice a7 n7 c7] 27)), (g6, (.cells #[.int .u8 d0, .int .u8 d1, .int .u8 d2, .int .u8 d3, .int .u8 d4, .int .u8 d5, .int .u8 s0, .int .u8 s1, .int .u8 s2, .int .u8 s3, .int .u8 s4, .int .u8 s5, .int .i64 k, .slice a6 n6 c6] 27)), (go, (.cells #[.int .u8 p0, .int .u8 p1, .int .u8 p2, .int .u8 p3, .int .u8 p4, .int .u8 p5, .int .u8 q0, .int .u8 q1, .int .u8 q2, .int .u8 q3, .int .u8 q4, .int .u8 q5, .int .i64 m, .slice a2 n2 c2] 27)), (gw, (.cells #[.int .u8 d0, .int .u8 d1, .int .u8 d2, .int .u8 d3, .int .u8 d4, .int .u8 d5, .int .u8 s0, .int .u8 s1, .int .u8 s2, .int .u8 s3, .int .u8 s4, .int .u8 s5, .int .i64 k, .slice a1 n1 c1] 27))]) :=
    (((((Holds.nil _).cons (keptBut (HH9.out.at 5 _ _ rfl) bt (by omega))).cons (keptBut (HH9.out.at 4 _ _ rfl) bt (by omega))).cons (keptBut (HH9.out.at 2 _ _ rfl) bt (by omega))).cons (keptBut (HH9.out.at 1 _ _ rfl) bt (by omega))).cons (keptBut (HH9.out.at 0 _ _ rfl) bt (by omega))
  have z9a : w9.heap.size ≤ wa.heap.size := bt.size
  clear bt HB9 HH9 HR19 HR29 HR69 HR79 HR89
  have ca : ∀ q, wa.cell? ⟨g6, q, none⟩ = (#[.int .u8 d0, .int .u8 d1, .int .u8 d2, .int .u8 d3, .int .u8 d4, .int .u8 d5, .int .u8 s0, .int .u8 s1, .int .u8 s2, .int .u8 s3, .int .u8 s4, .int .u8 s5, .int .i64 k, .slice a6 n6 c6] : Array Value)[q]? := fun q => cell_of_heap (HHa.out.at 2 _ _ rfl) q
  have cb : ∀ q, wa.cell? ⟨gw, q, none⟩ = (#[.int .u8 d0, .int .u8 d1, .int .u8 d2, .int .u8 d3, .int .u8 d4, .int .u8 d5, .int .u8 s0, .int .u8 s1, .int .u8 s2, .int .u8 s3, .int .u8 s4, .int .u8 s5, .int .i64 k, .slice a1 n1 c1] : Array Value)[q]? := fun q => cell_of_heap (HHa.out.at 4 _ _ rfl) q
  go_wp2_with fail
  refine (C1.out.sm _ _ _ _ _ _ _ HR6a.out HR1a.out).mono ?_
  rintro e wb ⟨rfl, hb⟩
  have HBb := hid (bstep HBa.out hb)
  have HHb := hid (HHa.out.below hb)
  have zab : wa.heap.size ≤ wb.heap.size := hb.size
  have HR1b := hid (HR1a.out.below hb)
  have HR2b := hid (HR2a.out.below hb)
  have HR6b := hid (HR6a.out.below hb)
  have HR7b := hid (HR7a.out.below hb)
  have HR8b := hid (HR8a.out.below hb)
  clear hb ca cb HBa HHa HR1a HR2a HR6a HR7a HR8a
  have ca : ∀ q, wb.cell? ⟨g7, q, none⟩ = (#[.int .u8 p0, .int .u8 p1, .int .u8 p2, .int .u8 p3, .int .u8 p4, .int .u8 p5, .int .u8 q0, .int .u8 q1, .int .u8 q2, .int .u8 q3, .int .u8 q4, .int .u8 q5, .int .i64 m, .slice a7 n7 c7] : Array Value)[q]? := fun q => cell_of_heap (HHb.out.at 1 _ _ rfl) q
  have cb : ∀ q, wb.cell? ⟨go, q, none⟩ = (#[.int .u8 p0, .int .u8 p1, .int .u8 p2, .int .u8 p3, .int .u8 p4, .int .u8 p5, .int .u8 q0, .int .u8 q1, .int .u8 q2, .int .u8 q3, .int .u8 q4, .int .u8 q5, .int .i64 m, .slice a2 n2 c2] : Array Value)[q]? := fun q => cell_of_heap (HHb.out.at 3 _ _ rfl) q
  go_wp2_with fail
  refine (C2.out.sm _ _ _ _ _ _ _ HR7b.out HR2b.out).mono ?_
  rintro e wc ⟨rfl, hb⟩
  have HBc := hid (bstep HBb.out hb)
  have HHc := hid (HHb.out.below hb)
  have zbc : wb.heap.size ≤ wc.heap.size := hb.size
  have HR1c := hid (HR1b.out.below hb)
  have HR2c := hid (HR2b.out.below hb)
  have HR6c := hid (HR6b.out.below hb)
  have HR7c := hid (HR7b.out.below hb)
  have HR8c := hid (HR8b.out.below hb)
  clear hb ca cb HBb HHb HR1b HR2b HR6b HR7b HR8b
  have ca : ∀ q, wc.cell? ⟨g8, q, none⟩ = (#[.int .u8 d0, .int .u8 d1, .int .u8 d2, .int .u8 d3, .int .u8 d4, .int .u8 d5, .int .u8 s0, .int .u8 s1, .int .u8 s2, .int .u8 s3, .int .u8 s4, .int .u8 s5, .int .i64 k, .slice a8 n8 c8] : Array Value)[q]? := fun q => cell_of_heap (HHc.out.at 0 _ _ rfl) q
  have cb : ∀ q, wc.cell? ⟨gw, q, none⟩ = (#[.int .u8 d0, .int .u8 d1, .int .u8 d2, .int .u8 d3, .int .u8 d4, .int .u8 d5, .int .u8 s0, .int .u8 s1, .int .u8 s2, .int .u8 s3, .int .u8 s4, .int .u8 s5, .int .i64 k, .slice a1 n1 c1] : Array Value)[q]? := fun q => cell_of_heap (HHc.out.at 4 _ _ rfl) q
  go_wp2_with fail
  refine (C1.out.sm _ _ _ _ _ _ _ HR8c.out HR1c.out).mono ?_
  rintro e wd ⟨rfl, hb⟩
  have HBd := hid (bstep HBc.out hb)
  have HHd := hid (HHc.out.below hb)
  have zcd : wc.heap.size ≤ wd.heap.size := hb.size
  have HR1d := hid (HR1c.out.below hb)
  have HR2d := hid (HR2c.out.below hb)
  have HR6d := hid (HR6c.out.below hb)
  have HR7d := hid (HR7c.out.below hb)
  have HR8d := hid (HR8c.out.below hb)
  clear hb ca cb HBc HHc HR1c HR2c HR6c HR7c HR8c
  have hE1 : (E1 != E1) = false := by simp
  have hE2 : (E2 != E2) = false := by simp
  have hbk : w.heap.size ≤ wd.heap.size := HBd.out.size
  have cd : ∀ q, wd.cell? ⟨g6, q, none⟩ = (#[.int .u8 d0, .int .u8 d1, .int .u8 d2, .int .u8 d3, .int .u8 d4, .int .u8 d5, .int .u8 s0, .int .u8 s1, .int .u8 s2, .int .u8 s3, .int .u8 s4, .int .u8 s5, .int .i64 k, .slice a6 n6 c6] : Array Value)[q]? := fun q => cell_of_heap (HHd.out.at 2 _ _ rfl) q
  have l6 : g6 < wd.heap.size := by omega
  go_wp2_with fail
  have ra := bal wd (.cells #[.slice none 0 0, .slice none 0 0] 37)
  have HBk := hid (bpush HBd.out (.cells #[.slice none 0 0, .slice none 0 0] 37))
  have HR6k := hid (HR6d.out.below ra)
  have HR7k := hid (HR7d.out.below ra)
  have HR8k := hid (HR8d.out.below ra)
  have HHk := hid (HHd.out.below ra)
  refine (take_late wd.heap.size _ _ (.slice a6 n6 c6) [] Y1 w.heap.size _ (Late.new wd w.heap.size hbk) HR6k.out C1.out.bytes (by have := C1.out.short; omega) (by simp) (fun b hb => ⟨by have := HI6.out b hb; omega, by have := HI6.out b hb; omega, by simp⟩)).mono ?_
  rintro e wf ⟨rfl, Lf, Vf, lf, kf, bf⟩
  have HLf := hid lf
  have HBf := hid (HBk.out.trans bf)
  have HR7f := hid (HR7k.out.low kf (fun b hb => by have := HI7.out b hb; omega))
  have HR8f := hid (HR8k.out.low kf (fun b hb => by have := HI8.out b hb; omega))
  have H7f : Hid (wf.heap[g7]? = some (.cells #[.int .u8 p0, .int .u8 p1, .int .u8 p2, .int .u8 p3, .int .u8 p4, .int .u8 p5, .int .u8 q0, .int .u8 q1, .int .u8 q2, .int .u8 q3, .int .u8 q4, .int .u8 q5, .int .i64 m, .slice a7 n7 c7] 27)) := (kf g7 (by omega)).trans (HHk.out.at 1 _ _ rfl)
  have H8f : Hid (wf.heap[g8]? = some (.cells #[.int .u8 d0, .int .u8 d1, .int .u8 d2, .int .u8 d3, .int .u8 d4, .int .u8 d5, .int .u8 s0, .int .u8 s1, .int .u8 s2, .int .u8 s3, .int .u8 s4, .int .u8 s5, .int .i64 k, .slice a8 n8 c8] 27)) := (kf g8 (by omega)).trans (HHk.out.at 0 _ _ rfl)
  clear lf bf kf ra HR6k HR7k HR8k HBk HHk HHd cd l6
  generalize wd.heap.size = gk at *
  have c7f : ∀ q, wf.cell? ⟨g7, q, none⟩ = (#[.int .u8 p0, .int .u8 p1, .int .u8 p2, .int .u8 p3, .int .u8 p4, .int .u8 p5, .int .u8 q0, .int .u8 q1, .int .u8 q2, .int .u8 q3, .int .u8 q4, .int .u8 q5, .int .i64 m, .slice a7 n7 c7] : Array Value)[q]? := fun q => cell_of_heap H7f.out q
  go_wp2_with fail
  refine (take_late gk Lf Vf (.slice a7 n7 c7) _ Y2 w.heap.size wf HLf.out HR7f.out C2.out.bytes (by have := C2.out.short; omega) (by simp) (fun b hb => ⟨by have := HI7.out b hb; omega, by have := HI7.out b hb; omega, fun p hp e => by
    simp at hp
    subst hp
    have h1 := HI7.out b hb
    have h2 := HI6.out b e
    omega⟩)).mono ?_
  rintro e wg ⟨rfl, Lg, Vg, lg, kg, bg⟩
  have HLg := hid lg
  have HBg := hid (HBf.out.trans bg)
  have HR8g := hid (HR8f.out.low kg (fun b hb => by have := HI8.out b hb; omega))
  have H8g : Hid (wg.heap[g8]? = some (.cells #[.int .u8 d0, .int .u8 d1, .int .u8 d2, .int .u8 d3, .int .u8 d4, .int .u8 d5, .int .u8 s0, .int .u8 s1, .int .u8 s2, .int .u8 s3, .int .u8 s4, .int .u8 s5, .int .i64 k, .slice a8 n8 c8] 27)) := (kg g8 (by omega)).trans H8f.out
  clear lg bg kg HR7f HR8f HBf HLf c7f H7f H8f
  have c8g : ∀ q, wg.cell? ⟨g8, q, none⟩ = (#[.int .u8 d0, .int .u8 d1, .int .u8 d2, .int .u8 d3, .int .u8 d4, .int .u8 d5, .int .u8 s0, .int .u8 s1, .int .u8 s2, .int .u8 s3, .int .u8 s4, .int .u8 s5, .int .i64 k, .slice a8 n8 c8] : Array Value)[q]? := fun q => cell_of_heap H8g.out q
  go_wp2_with fail
  refine (take_late gk Lg Vg (.slice a8 n8 c8) _ Y1 w.heap.size wg HLg.out HR8g.out C1.out.bytes (by have := C1.out.short; omega) (by simp) (fun b hb => ⟨by have := HI8.out b hb; omega, by have := HI8.out b hb; omega, fun p hp e => by
    have h1 := HI8.out b hb
    simp at hp
    rcases hp with hp | hp
    · subst hp
      have h2 := HI6.out b e
      omega
    · subst hp
      have h2 := HI7.out b e
      omega⟩)).mono ?_
  rintro e wh ⟨rfl, Lh, Vh, lh, kh, bh⟩
  have HLh := hid lh
  have HBh := hid (HBg.out.trans bh)
  clear lh bh kh HR8g HBg HLg c8g H8g
  go_wp2_with fail
  refine (owned_late gk Lh Vh _ w.heap.size wh HLh.out).mono ?_
  rintro e wi ⟨rfl, bi⟩
  have HBi := hid (HBh.out.trans bi)
  clear bi HBh HLh
  go_wp2
  go_ret
  exact ⟨rfl, HBi.out⟩
end Go.Proofs.Ytkhongkfnedflaa
