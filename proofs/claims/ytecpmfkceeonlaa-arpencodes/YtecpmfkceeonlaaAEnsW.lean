/-
  The walk of the statement ArpEncodes.
-/
import Derived.Test.YtecpmfkceeonlaaARefF
import Derived.Test.YtecpmfkceeonlaaALive
import Derived.Test.YtecpmfkceeonlaaBAns
namespace Go.Proofs.Ytecpmfkceeonlaa
open Go.RowKit
set_option linter.all false

theorem encB_bd (p : Arp) (h : p.ok) : (∀ z, z ∈ encB p → 0 ≤ z ∧ z ≤ 255) ∧ (encB p).length ≤ 28 := by
  unfold encB
  split
  · exact ⟨encL_bd p h, by rw [encL_len]; omega⟩
  · simp
theorem encode_u (p : Arp) (w : World) (h : p.ok) : Calls Try.prog 9 #[p.val] w fun e w' => ∃ a n c, e = .returned (.tuple #[.slice a n c, .int .i64 (encE p)]) ∧ Ans w w' (encB p) a n c := by
  unfold encB encE
  cases ho : opB p.op
  · exact (encode_no p w ho).mono fun e w' ⟨he, hb⟩ => ⟨none, 0, 0, he, ans_nil hb⟩
  · exact (encode_ok p w h ho).mono fun e w' ⟨g, he, hg, hh, hb⟩ => ⟨_, _, _, he, ans_row (encL_len p) (by decide) hh hg hb⟩
theorem refEncode_u (p : Arp) (w : World) (h : p.ok) : Calls Try.prog 10 #[p.val] w fun e w' => ∃ a n c, e = .returned (.tuple #[.slice a n c, .int .i64 (encE p)]) ∧ Ans w w' (encB p) a n c := by
  unfold encB encE
  cases ho : opB p.op
  · exact (refEncode_no p w ho).mono fun e w' ⟨he, hb⟩ => ⟨none, 0, 0, he, ans_nil hb⟩
  · exact (refEncode_ok p w h ho).mono fun e w' ⟨a, n, c, he, hr, hf, hb⟩ => ⟨a, n, c, he, hr, hf, hb⟩

set_option maxRecDepth 20000 in
set_option maxHeartbeats 4000000 in
theorem arpEncodes_walk (p q : Arp) (w : World) (hp : p.ok) (hq : q.ok) :
    Calls Try.prog 4 #[p.val, q.val] w fun e w' => e = .returned (.bool true) ∧ Below w.heap.size w w' := by
  have C1 : Hid (∀ w', _) := fun w' => encode_u p w' hp
  have C2 : Hid (∀ w', _) := fun w' => encode_u q w' hq
  have C3 : Hid (∀ w', _) := fun w' => refEncode_u p w' hp
  have C4 : Hid (∀ w', _) := fun w' => refEncode_u q w' hq
  have D1 := hid (encB_bd p hp)
  have D2 := hid (encB_bd q hq)
  clear hp hq
  generalize encB p = Y1 at *
  generalize encB q = Y2 at *
  generalize encE p = E at *
  generalize encE q = F at *
  obtain ⟨xo, ⟨xs0, xs1, xs2, xs3, xs4, xs5⟩, xi, ⟨xd0, xd1, xd2, xd3, xd4, xd5⟩, xj⟩ := p
  obtain ⟨yo, ⟨ys0, ys1, ys2, ys3, ys4, ys5⟩, yi, ⟨yd0, yd1, yd2, yd3, yd4, yd5⟩, yj⟩ := q
  simp only [Arp.val] at *
  go_enter Try.func4, Try.ntmps4
  go_wp2_with fail
  refine (live_any _).mono ?_
  rintro e w1 ⟨rfl, hb1⟩
  have hh0 := ((Holds.nil w).push (.cells #[.int .i64 xo, .int .u8 xs0, .int .u8 xs1, .int .u8 xs2, .int .u8 xs3, .int .u8 xs4, .int .u8 xs5, .int .u32 xi, .int .u8 xd0, .int .u8 xd1, .int .u8 xd2, .int .u8 xd3, .int .u8 xd4, .int .u8 xd5, .int .u32 xj] 27)).push (.cells #[.int .i64 yo, .int .u8 ys0, .int .u8 ys1, .int .u8 ys2, .int .u8 ys3, .int .u8 ys4, .int .u8 ys5, .int .u32 yi, .int .u8 yd0, .int .u8 yd1, .int .u8 yd2, .int .u8 yd3, .int .u8 yd4, .int .u8 yd5, .int .u32 yj] 27)
  simp only [World.size_alloc] at hh0
  have HH1 := hid (hh0.below hb1)
  have HB1 := hid (bstep (bpush (bpush (Below.refl _ w) (.cells #[.int .i64 xo, .int .u8 xs0, .int .u8 xs1, .int .u8 xs2, .int .u8 xs3, .int .u8 xs4, .int .u8 xs5, .int .u32 xi, .int .u8 xd0, .int .u8 xd1, .int .u8 xd2, .int .u8 xd3, .int .u8 xd4, .int .u8 xd5, .int .u32 xj] 27)) (.cells #[.int .i64 yo, .int .u8 ys0, .int .u8 ys1, .int .u8 ys2, .int .u8 ys3, .int .u8 ys4, .int .u8 ys5, .int .u32 yi, .int .u8 yd0, .int .u8 yd1, .int .u8 yd2, .int .u8 yd3, .int .u8 yd4, .int .u8 yd5, .int .u32 yj] 27)) hb1)
  have z01 : w.heap.size ≤ w1.heap.size := HB1.out.size
  clear hh0 hb1
  have cc : ∀ q, w1.cell? ⟨w.heap.size, q, none⟩ = (#[.int .i64 xo, .int .u8 xs0, .int .u8 xs1, .int .u8 xs2, .int .u8 xs3, .int .u8 xs4, .int .u8 xs5, .int .u32 xi, .int .u8 xd0, .int .u8 xd1, .int .u8 xd2, .int .u8 xd3, .int .u8 xd4, .int .u8 xd5, .int .u32 xj] : Array Value)[q]? := fun q => cell_of_heap (HH1.out.at 1 _ _ rfl) q
  go_wp2_with fail
  refine (C1.out _).mono ?_
  rintro e w2 ⟨a1, n1, c1, rfl, an1⟩
  have HH2 := hid (HH1.out.below an1.2.2)
  have HB2 := hid (bstep HB1.out an1.2.2)
  have HR1_2 := hid an1.1
  have HI1 := hid (ans_lt an1)
  have z12 : w1.heap.size ≤ w2.heap.size := an1.2.2.size
  clear an1 cc HH1 HB1
  have cc : ∀ q, w2.cell? ⟨w.heap.size + 1, q, none⟩ = (#[.int .i64 yo, .int .u8 ys0, .int .u8 ys1, .int .u8 ys2, .int .u8 ys3, .int .u8 ys4, .int .u8 ys5, .int .u32 yi, .int .u8 yd0, .int .u8 yd1, .int .u8 yd2, .int .u8 yd3, .int .u8 yd4, .int .u8 yd5, .int .u32 yj] : Array Value)[q]? := fun q => cell_of_heap (HH2.out.at 0 _ _ rfl) q
  go_wp2_with fail
  refine (C2.out _).mono ?_
  rintro e w3 ⟨a2, n2, c2, rfl, an2⟩
  have HH3 := hid (HH2.out.below an2.2.2)
  have HB3 := hid (bstep HB2.out an2.2.2)
  have HR1_3 := hid (HR1_2.out.below an2.2.2)
  have HR2_3 := hid an2.1
  have HI2 := hid (ans_lt an2)
  have z23 : w2.heap.size ≤ w3.heap.size := an2.2.2.size
  clear an2 cc HH2 HB2 HR1_2
  have cc : ∀ q, w3.cell? ⟨w.heap.size, q, none⟩ = (#[.int .i64 xo, .int .u8 xs0, .int .u8 xs1, .int .u8 xs2, .int .u8 xs3, .int .u8 xs4, .int .u8 xs5, .int .u32 xi, .int .u8 xd0, .int .u8 xd1, .int .u8 xd2, .int .u8 xd3, .int .u8 xd4, .int .u8 xd5, .int .u32 xj] : Array Value)[q]? := fun q => cell_of_heap (HH3.out.at 1 _ _ rfl) q
  go_wp2_with fail
  refine (C1.out _).mono ?_
  rintro e w4 ⟨a3, n3, c3, rfl, an3⟩
  have HH4 := hid (HH3.out.below an3.2.2)
  have HB4 := hid (bstep HB3.out an3.2.2)
  have HR1_4 := hid (HR1_3.out.below an3.2.2)
  have HR2_4 := hid (HR2_3.out.below an3.2.2)
  have HR3_4 := hid an3.1
  have HI3 := hid (ans_lt an3)
  have z34 : w3.heap.size ≤ w4.heap.size := an3.2.2.size
  clear an3 cc HH3 HB3 HR1_3 HR2_3
  have cc : ∀ q, w4.cell? ⟨w.heap.size, q, none⟩ = (#[.int .i64 xo, .int .u8 xs0, .int .u8 xs1, .int .u8 xs2, .int .u8 xs3, .int .u8 xs4, .int .u8 xs5, .int .u32 xi, .int .u8 xd0, .int .u8 xd1, .int .u8 xd2, .int .u8 xd3, .int .u8 xd4, .int .u8 xd5, .int .u32 xj] : Array Value)[q]? := fun q => cell_of_heap (HH4.out.at 1 _ _ rfl) q
  go_wp2_with fail
  refine (C3.out _).mono ?_
  rintro e w5 ⟨a4, n4, c4, rfl, an4⟩
  have HH5 := hid (HH4.out.below an4.2.2)
  have HB5 := hid (bstep HB4.out an4.2.2)
  have HR1_5 := hid (HR1_4.out.below an4.2.2)
  have HR2_5 := hid (HR2_4.out.below an4.2.2)
  have HR3_5 := hid (HR3_4.out.below an4.2.2)
  have HR4_5 := hid an4.1
  have HI4 := hid (ans_lt an4)
  have z45 : w4.heap.size ≤ w5.heap.size := an4.2.2.size
  clear an4 cc HH4 HB4 HR1_4 HR2_4 HR3_4
  have cc : ∀ q, w5.cell? ⟨w.heap.size + 1, q, none⟩ = (#[.int .i64 yo, .int .u8 ys0, .int .u8 ys1, .int .u8 ys2, .int .u8 ys3, .int .u8 ys4, .int .u8 ys5, .int .u32 yi, .int .u8 yd0, .int .u8 yd1, .int .u8 yd2, .int .u8 yd3, .int .u8 yd4, .int .u8 yd5, .int .u32 yj] : Array Value)[q]? := fun q => cell_of_heap (HH5.out.at 0 _ _ rfl) q
  go_wp2_with fail
  refine (C4.out _).mono ?_
  rintro e w6 ⟨a5, n5, c5, rfl, an5⟩
  have HH6 := hid (HH5.out.below an5.2.2)
  have HB6 := hid (bstep HB5.out an5.2.2)
  have HR1_6 := hid (HR1_5.out.below an5.2.2)
  have HR2_6 := hid (HR2_5.out.below an5.2.2)
  have HR3_6 := hid (HR3_5.out.below an5.2.2)
  have HR4_6 := hid (HR4_5.out.below an5.2.2)
  have HR5_6 := hid an5.1
  have HI5 := hid (ans_lt an5)
  have z56 : w5.heap.size ≤ w6.heap.size := an5.2.2.size
  clear an5 cc HH5 HB5 HR1_5 HR2_5 HR3_5 HR4_5
  have v1 := HR1_6.out.conv0 D1.out.1
  have v2 := HR2_6.out.conv0 D2.out.1
  have v3 := HR3_6.out.conv0 D1.out.1
  have v4 := HR4_6.out.conv0 D1.out.1
  have v5 := HR5_6.out.conv0 D2.out.1
  have st1 := str_same (strOfNums Y1)
  have st2 := str_same (strOfNums Y2)
  generalize strOfNums Y1 = X1 at *
  generalize strOfNums Y2 = X2 at *
  have hE : (E != E) = false := by simp
  have hF : (F != F) = false := by simp
  go_wp2_with fail
  clear v1 v2 v3 v4 v5
  have hbk : w.heap.size ≤ w6.heap.size := HB6.out.size
  have ra := bpush (Below.refl w6.heap.size w6) (.cells #[.slice none 0 0, .slice none 0 0] 36)
  have HBk := hid (bpush HB6.out (.cells #[.slice none 0 0, .slice none 0 0] 36))
  have HR1k := hid (HR1_6.out.below ra)
  have HR2k := hid (HR2_6.out.below ra)
  have HR3k := hid (HR3_6.out.below ra)
  refine (take_late w6.heap.size _ _ (.slice a1 n1 c1) [] Y1 w.heap.size _ (Late.new w6 w.heap.size hbk) HR1k.out D1.out.1 (by have := D1.out.2; omega) (by simp) (fun b hb => ⟨by have := HI1.out b hb; omega, by have := HI1.out b hb; omega, by simp⟩)).mono ?_
  rintro e wb ⟨rfl, Lb, Vb, lb, kb, bb⟩
  have HLb := hid lb
  have HBb := hid (HBk.out.trans bb)
  have HR2b := hid (HR2k.out.low kb (fun b hb => by have := HI2.out b hb; omega))
  have HR3b := hid (HR3k.out.low kb (fun b hb => by have := HI3.out b hb; omega))
  clear lb bb kb ra HR1k HR2k HR3k HBk
  generalize w6.heap.size = gk at *
  go_wp2_with fail
  refine (take_late gk Lb Vb (.slice a2 n2 c2) _ Y2 w.heap.size wb HLb.out HR2b.out D2.out.1 (by have := D2.out.2; omega) (by simp) (fun b hb => ⟨by have := HI2.out b hb; omega, by have := HI2.out b hb; omega, fun p hp e => by
    simp at hp
    subst hp
    have h1 := HI2.out b hb
    have h2 := HI1.out b e
    omega⟩)).mono ?_
  rintro e wd ⟨rfl, Ld, Vd, ld, kd, bd⟩
  have HLd := hid ld
  have HBd := hid (HBb.out.trans bd)
  have HR3d := hid (HR3b.out.low kd (fun b hb => by have := HI3.out b hb; omega))
  clear ld bd kd HR2b HR3b HBb HLb
  go_wp2_with fail
  refine (take_late gk Ld Vd (.slice a3 n3 c3) _ Y1 w.heap.size wd HLd.out HR3d.out D1.out.1 (by have := D1.out.2; omega) (by simp) (fun b hb => ⟨by have := HI3.out b hb; omega, by have := HI3.out b hb; omega, fun p hp e => by
    have h1 := HI3.out b hb
    simp at hp
    rcases hp with hp | hp
    · subst hp
      have h2 := HI1.out b e
      omega
    · subst hp
      have h2 := HI2.out b e
      omega⟩)).mono ?_
  rintro e we ⟨rfl, Le, Ve, le, ke, be⟩
  have HLe := hid le
  have HBe := hid (HBd.out.trans be)
  clear le be ke HR3d HBd HLd
  go_wp2_with fail
  refine (owned_late gk Le Ve _ w.heap.size we HLe.out).mono ?_
  rintro e wf ⟨rfl, bf, _⟩
  have HBf := hid (HBe.out.trans bf)
  clear bf HBe HLe
  go_wp2
  go_ret
  exact ⟨rfl, HBf.out⟩
end Go.Proofs.Ytecpmfkceeonlaa
