/-
  The walk of the statement InetDecodes.
-/
import Derived.Test.YtccmkljbedddiaaIRefG
import Derived.Test.YtccmkljbedddiaaILive
import Derived.Test.YtccmkljbedddiaaBLent
import Derived.Test.YtccmkljbedddiaaBAns
namespace Go.Proofs.Ytccmkljbedddiaa
open Go.RowKit
set_option linter.all false

theorem lentD_part {w : World} {g : Nat} {pt : Part} (hz : ∀ z, z ∈ pt.zs → 0 ≤ z ∧ z ≤ 255) (hg : w.heap[g]? = some (.cells (L2 pt.zs) 5 (0, 0))) : Part.ok w ⟨some ⟨g, 0, none⟩, pt.zs.length + 2, pt.zs⟩ :=
  Part.of_heap hg 0 (by omega) (fun j hj => by rw [Nat.zero_add]; exact L2_lo pt.zs j hj) hz
theorem decA_ok {zs : List Int} (h : ∀ z, z ∈ zs → 0 ≤ z ∧ z ≤ 255) : (decA zs).ok := by
  unfold decA
  split
  · exact decP_ok h
  · exact zeroIp_ok
theorem decD_bd {zs : List Int} (h : ∀ z, z ∈ zs → 0 ≤ z ∧ z ≤ 255) (hl : zs.length ≤ 140737488351232) : (∀ z, z ∈ decD zs → 0 ≤ z ∧ z ≤ 255) ∧ (decD zs).length ≤ 140737488351232 := by
  unfold decD
  split
  · exact ⟨fun z hz => h z (List.mem_of_mem_drop (List.mem_of_mem_take hz)), by simp; omega⟩
  · simp
set_option maxRecDepth 20000 in
set_option maxHeartbeats 4000000 in
theorem inetDecodes_walk (pt qt : Part) (w : World) (ho : pt.ok w) (hz : pt.zs.length ≤ 140737488351232) (hqo : qt.ok w) (hqz : qt.zs.length ≤ 140737488351232) :
    Calls Try.prog 5 #[pt.val, qt.val] w fun e w' => e = .returned (.bool true) ∧ Below w.heap.size w w' := by
  have R1 : Hid (∀ w', Below w.heap.size w w' → _) := fun w' hb => refDecode_u pt w' (Part.ok_below ho hb) hz
  have R2 : Hid (∀ w', Below w.heap.size w w' → _) := fun w' hb => refDecode_u qt w' (Part.ok_below hqo hb) hqz
  have L1 : Hid (∀ w', Below w.heap.size w w' → _) := fun w' hb => lent_any pt w' (Part.ok_below ho hb) hz
  have LQ : Hid (∀ w', Below w.heap.size w w' → _) := fun w' hb => lent_any qt w' (Part.ok_below hqo hb) hqz
  have E1 : Hid (∀ (g : Nat) (w' : World), w'.heap[g]? = some (.cells (L2 pt.zs) 5 (0, 0)) → _) := fun g w' hg => decode_u ⟨some ⟨g, 0, none⟩, pt.zs.length + 2, pt.zs⟩ w' (lentD_part ho.1 hg) (show pt.zs.length ≤ 281474976710656 by omega)
  have E2 : Hid (∀ (g : Nat) (w' : World), w'.heap[g]? = some (.cells (L2 qt.zs) 5 (0, 0)) → _) := fun g w' hg => decode_u ⟨some ⟨g, 0, none⟩, qt.zs.length + 2, qt.zs⟩ w' (lentD_part hqo.1 hg) (show qt.zs.length ≤ 281474976710656 by omega)
  have S1 : Hid (∀ (g : Nat) (w' : World), Below w.heap.size w w' → w'.heap[g]? = some (.cells (L2 pt.zs) 5 (0, 0)) → _) := fun g w' hb hg => asLent_any g pt w' (Part.ok_below ho hb) hz hg
  have S2 : Hid (∀ (g : Nat) (w' : World), Below w.heap.size w w' → w'.heap[g]? = some (.cells (L2 qt.zs) 5 (0, 0)) → _) := fun g w' hb hg => asLent_any g qt w' (Part.ok_below hqo hb) hqz hg
  have D1 := hid (decD_bd ho.1 hz)
  have D2 := hid (decD_bd hqo.1 hqz)
  have q1 := ip_eq (decA pt.zs) (decA pt.zs) (decA_ok ho.1) (decA_ok ho.1)
  have q2 := ip_eq (decA qt.zs) (decA qt.zs) (decA_ok hqo.1) (decA_ok hqo.1)
  rw [decide_eq_true rfl] at q1 q2
  clear ho hqo
  obtain ⟨pa, pc, ps⟩ := pt
  obtain ⟨qa, qc, qs⟩ := qt
  simp only [Part.val] at *
  generalize decA ps = XA at *
  generalize decA qs = XB at *
  generalize decD ps = Y1 at *
  generalize decD qs = Y2 at *
  generalize decE ps = E at *
  generalize decE qs = F at *
  generalize L2 ps = LX at *
  generalize L2 qs = LY at *
  generalize ps.length = l at *
  generalize qs.length = m at *
  obtain ⟨xt, xi, xl, xp, xk, xs, xd⟩ := XA
  obtain ⟨yt, yi, yl, yp, yk, ys, yd⟩ := XB
  simp only [Ip.val] at *
  go_enter Try.func5, Try.ntmps5
  go_wp2_with fail
  refine (awake_any _).mono ?_
  rintro e w1 ⟨rfl, hb1⟩
  have HH1 := hid (Holds.nil w1)
  have HB1 := hid hb1
  have z01 : w.heap.size ≤ w1.heap.size := hb1.size
  clear hb1
  go_wp2_with fail
  refine (R1.out _ HB1.out).mono ?_
  rintro e w2 ⟨a1, n1, c1, rfl, an⟩
  have HH2 := hid (HH1.out.below an.2.2)
  have HB2 := hid (bstep HB1.out an.2.2)
  have HR1_2 := hid an.1
  have hi := ans_lt an
  have hz := an.2.2.size
  have HI1 := hid hi
  have z12 := hz
  clear an hi hz HH1 HB1
  go_wp2_with fail
  refine (R2.out _ (bpush HB2.out (.cells #[.int .i64 xt, .int .i64 xi, .int .i64 xl, .int .i64 xp, .bool xk, .int .u32 xs, .int .u32 xd] 27))).mono ?_
  rintro e w3 ⟨a2, n2, c2, rfl, an⟩
  have HH3 := hid ((HH2.out.push (.cells #[.int .i64 xt, .int .i64 xi, .int .i64 xl, .int .i64 xp, .bool xk, .int .u32 xs, .int .u32 xd] 27)).below an.2.2)
  have HB3 := hid (bstep (bpush HB2.out (.cells #[.int .i64 xt, .int .i64 xi, .int .i64 xl, .int .i64 xp, .bool xk, .int .u32 xs, .int .u32 xd] 27)) an.2.2)
  have HR1_3 := hid ((HR1_2.out.below (bpush (Below.refl _ _) (.cells #[.int .i64 xt, .int .i64 xi, .int .i64 xl, .int .i64 xp, .bool xk, .int .u32 xs, .int .u32 xd] 27))).below an.2.2)
  have HR2_3 := hid an.1
  have hi := ans_lt an
  have hz := an.2.2.size
  simp only [World.size_alloc] at hi hz
  have HI2 := hid hi
  have z23 := hz
  clear an hi hz HH2 HB2 HR1_2
  generalize w2.heap.size = b1 at *
  go_wp2_with fail
  refine (L1.out _ (bpush HB3.out (.cells #[.int .i64 yt, .int .i64 yi, .int .i64 yl, .int .i64 yp, .bool yk, .int .u32 ys, .int .u32 yd] 27))).mono ?_
  rintro e w4 ⟨rfl, hw⟩
  have hb : Below (w3.alloc (.cells #[.int .i64 yt, .int .i64 yi, .int .i64 yl, .int .i64 yp, .bool yk, .int .u32 ys, .int .u32 yd] 27)).heap.size (w3.alloc (.cells #[.int .i64 yt, .int .i64 yi, .int .i64 yl, .int .i64 yp, .bool yk, .int .u32 ys, .int .u32 yd] 27)) w4 := by rw [hw]; exact bpush (Below.refl _ _) _
  have hL : w4.heap[(w3.alloc (.cells #[.int .i64 yt, .int .i64 yi, .int .i64 yl, .int .i64 yp, .bool yk, .int .u32 ys, .int .u32 yd] 27)).heap.size]? = some (.cells LX 5) := by rw [hw]; exact heap_new _ _
  simp only [World.size_alloc] at hL ⊢
  have HH4 := hid (((HH3.out.push (.cells #[.int .i64 yt, .int .i64 yi, .int .i64 yl, .int .i64 yp, .bool yk, .int .u32 ys, .int .u32 yd] 27)).below hb).cons hL)
  have HB4 := hid (bstep (bpush HB3.out (.cells #[.int .i64 yt, .int .i64 yi, .int .i64 yl, .int .i64 yp, .bool yk, .int .u32 ys, .int .u32 yd] 27)) hb)
  have HR1_4 := hid ((HR1_3.out.below (bpush (Below.refl _ _) (.cells #[.int .i64 yt, .int .i64 yi, .int .i64 yl, .int .i64 yp, .bool yk, .int .u32 ys, .int .u32 yd] 27))).below hb)
  have HR2_4 := hid ((HR2_3.out.below (bpush (Below.refl _ _) (.cells #[.int .i64 yt, .int .i64 yi, .int .i64 yl, .int .i64 yp, .bool yk, .int .u32 ys, .int .u32 yd] 27))).below hb)
  have z34 : w3.heap.size + 1 + 1 ≤ w4.heap.size := heap_lt hL
  clear hw hb hL HH3 HB3 HR1_3 HR2_3
  have ygx : w3.heap.size < w3.heap.size + 1 := by omega
  generalize w3.heap.size + 1 = gx at *
  generalize w3.heap.size = b2 at *
  go_wp2_with fail
  refine (LQ.out _ HB4.out).mono ?_
  rintro e w5 ⟨rfl, hw⟩
  have hb : Below w4.heap.size w4 w5 := by rw [hw]; exact bpush (Below.refl _ _) _
  have hL : w5.heap[w4.heap.size]? = some (.cells LY 5) := by rw [hw]; exact heap_new _ _
  have HH5 := hid ((HH4.out.below hb).cons hL)
  have HB5 := hid (bstep HB4.out hb)
  have HR1_5 := hid (HR1_4.out.below hb)
  have HR2_5 := hid (HR2_4.out.below hb)
  have z45 : w4.heap.size + 1 ≤ w5.heap.size := heap_lt hL
  clear hw hb hL HH4 HB4 HR1_4 HR2_4
  generalize w4.heap.size = gy at *
  go_wp2_with fail
  refine (E1.out gx _ (HH5.out.at 1 _ _ rfl)).mono ?_
  rintro e w6 ⟨a3, n3, c3, rfl, an⟩
  have HH6 := hid (HH5.out.below an.2.2)
  have HB6 := hid (bstep HB5.out an.2.2)
  have HR1_6 := hid (HR1_5.out.below an.2.2)
  have HR2_6 := hid (HR2_5.out.below an.2.2)
  have HR3_6 := hid an.1
  have hi := ans_lt an
  have hz := an.2.2.size
  have HI3 := hid hi
  have z56 := hz
  clear an hi hz HH5 HB5 HR1_5 HR2_5
  go_wp2_with fail
  refine (E2.out gy _ ((HH6.out.push (.cells #[.int .i64 xt, .int .i64 xi, .int .i64 xl, .int .i64 xp, .bool xk, .int .u32 xs, .int .u32 xd] 27)).at 1 _ _ rfl)).mono ?_
  rintro e w7 ⟨a4, n4, c4, rfl, an⟩
  have HH7 := hid ((HH6.out.push (.cells #[.int .i64 xt, .int .i64 xi, .int .i64 xl, .int .i64 xp, .bool xk, .int .u32 xs, .int .u32 xd] 27)).below an.2.2)
  have HB7 := hid (bstep (bpush HB6.out (.cells #[.int .i64 xt, .int .i64 xi, .int .i64 xl, .int .i64 xp, .bool xk, .int .u32 xs, .int .u32 xd] 27)) an.2.2)
  have HR1_7 := hid ((HR1_6.out.below (bpush (Below.refl _ _) (.cells #[.int .i64 xt, .int .i64 xi, .int .i64 xl, .int .i64 xp, .bool xk, .int .u32 xs, .int .u32 xd] 27))).below an.2.2)
  have HR2_7 := hid ((HR2_6.out.below (bpush (Below.refl _ _) (.cells #[.int .i64 xt, .int .i64 xi, .int .i64 xl, .int .i64 xp, .bool xk, .int .u32 xs, .int .u32 xd] 27))).below an.2.2)
  have HR3_7 := hid ((HR3_6.out.below (bpush (Below.refl _ _) (.cells #[.int .i64 xt, .int .i64 xi, .int .i64 xl, .int .i64 xp, .bool xk, .int .u32 xs, .int .u32 xd] 27))).below an.2.2)
  have HR4_7 := hid an.1
  have hi := ans_lt an
  have hz := an.2.2.size
  simp only [World.size_alloc] at hi hz
  have HI4 := hid hi
  have z67 := hz
  clear an hi hz HH6 HB6 HR1_6 HR2_6 HR3_6
  generalize w6.heap.size = b3 at *
  go_wp2_with fail
  refine (E1.out gx _ ((HH7.out.push (.cells #[.int .i64 yt, .int .i64 yi, .int .i64 yl, .int .i64 yp, .bool yk, .int .u32 ys, .int .u32 yd] 27)).at 3 _ _ rfl)).mono ?_
  rintro e w8 ⟨a5, n5, c5, rfl, an⟩
  have HH8 := hid ((HH7.out.push (.cells #[.int .i64 yt, .int .i64 yi, .int .i64 yl, .int .i64 yp, .bool yk, .int .u32 ys, .int .u32 yd] 27)).below an.2.2)
  have HB8 := hid (bstep (bpush HB7.out (.cells #[.int .i64 yt, .int .i64 yi, .int .i64 yl, .int .i64 yp, .bool yk, .int .u32 ys, .int .u32 yd] 27)) an.2.2)
  have HR1_8 := hid ((HR1_7.out.below (bpush (Below.refl _ _) (.cells #[.int .i64 yt, .int .i64 yi, .int .i64 yl, .int .i64 yp, .bool yk, .int .u32 ys, .int .u32 yd] 27))).below an.2.2)
  have HR2_8 := hid ((HR2_7.out.below (bpush (Below.refl _ _) (.cells #[.int .i64 yt, .int .i64 yi, .int .i64 yl, .int .i64 yp, .bool yk, .int .u32 ys, .int .u32 yd] 27))).below an.2.2)
  have HR3_8 := hid ((HR3_7.out.below (bpush (Below.refl _ _) (.cells #[.int .i64 yt, .int .i64 yi, .int .i64 yl, .int .i64 yp, .bool yk, .int .u32 ys, .int .u32 yd] 27))).below an.2.2)
  have HR4_8 := hid ((HR4_7.out.below (bpush (Below.refl _ _) (.cells #[.int .i64 yt, .int .i64 yi, .int .i64 yl, .int .i64 yp, .bool yk, .int .u32 ys, .int .u32 yd] 27))).below an.2.2)
  have HR5_8 := hid an.1
  have hi := ans_lt an
  have hz := an.2.2.size
  simp only [World.size_alloc] at hi hz
  have HI5 := hid hi
  have z78 := hz
  clear an hi hz HH7 HB7 HR1_7 HR2_7 HR3_7 HR4_7
  generalize w7.heap.size = b4 at *
  go_wp2_with fail
  refine (S1.out gx _ (bpush HB8.out (.cells #[.int .i64 xt, .int .i64 xi, .int .i64 xl, .int .i64 xp, .bool xk, .int .u32 xs, .int .u32 xd] 27)) ((HH8.out.push (.cells #[.int .i64 xt, .int .i64 xi, .int .i64 xl, .int .i64 xp, .bool xk, .int .u32 xs, .int .u32 xd] 27)).at 4 _ _ rfl)).mono ?_
  rintro e w9 ⟨rfl, bt⟩
  have HH9 := hid (((((((Holds.nil _).cons (keptBut ((HH8.out.push (.cells #[.int .i64 xt, .int .i64 xi, .int .i64 xl, .int .i64 xp, .bool xk, .int .u32 xs, .int .u32 xd] 27)).at 6 _ _ rfl) bt (by omega))).cons (keptBut ((HH8.out.push (.cells #[.int .i64 xt, .int .i64 xi, .int .i64 xl, .int .i64 xp, .bool xk, .int .u32 xs, .int .u32 xd] 27)).at 5 _ _ rfl) bt (by omega))).cons (keptBut ((HH8.out.push (.cells #[.int .i64 xt, .int .i64 xi, .int .i64 xl, .int .i64 xp, .bool xk, .int .u32 xs, .int .u32 xd] 27)).at 3 _ _ rfl) bt (by omega))).cons (keptBut ((HH8.out.push (.cells #[.int .i64 xt, .int .i64 xi, .int .i64 xl, .int .i64 xp, .bool xk, .int .u32 xs, .int .u32 xd] 27)).at 2 _ _ rfl) bt (by omega))).cons (keptBut ((HH8.out.push (.cells #[.int .i64 xt, .int .i64 xi, .int .i64 xl, .int .i64 xp, .bool xk, .int .u32 xs, .int .u32 xd] 27)).at 1 _ _ rfl) bt (by omega))).cons (keptBut ((HH8.out.push (.cells #[.int .i64 xt, .int .i64 xi, .int .i64 xl, .int .i64 xp, .bool xk, .int .u32 xs, .int .u32 xd] 27)).at 0 _ _ rfl) bt (by omega)))
  have HB9 := hid (bbut (bpush HB8.out (.cells #[.int .i64 xt, .int .i64 xi, .int .i64 xl, .int .i64 xp, .bool xk, .int .u32 xs, .int .u32 xd] 27)) bt (by omega))
  have HR1_9 := hid ((HR1_8.out.below (bpush (Below.refl _ _) (.cells #[.int .i64 xt, .int .i64 xi, .int .i64 xl, .int .i64 xp, .bool xk, .int .u32 xs, .int .u32 xd] 27))).but bt (fun b hb => by have := HI1.out b hb; omega))
  have HR2_9 := hid ((HR2_8.out.below (bpush (Below.refl _ _) (.cells #[.int .i64 xt, .int .i64 xi, .int .i64 xl, .int .i64 xp, .bool xk, .int .u32 xs, .int .u32 xd] 27))).but bt (fun b hb => by have := HI2.out b hb; omega))
  have HR3_9 := hid ((HR3_8.out.below (bpush (Below.refl _ _) (.cells #[.int .i64 xt, .int .i64 xi, .int .i64 xl, .int .i64 xp, .bool xk, .int .u32 xs, .int .u32 xd] 27))).but bt (fun b hb => by have := HI3.out b hb; omega))
  have HR4_9 := hid ((HR4_8.out.below (bpush (Below.refl _ _) (.cells #[.int .i64 xt, .int .i64 xi, .int .i64 xl, .int .i64 xp, .bool xk, .int .u32 xs, .int .u32 xd] 27))).but bt (fun b hb => by have := HI4.out b hb; omega))
  have HR5_9 := hid ((HR5_8.out.below (bpush (Below.refl _ _) (.cells #[.int .i64 xt, .int .i64 xi, .int .i64 xl, .int .i64 xp, .bool xk, .int .u32 xs, .int .u32 xd] 27))).but bt (fun b hb => by have := HI5.out b hb; omega))
  have hz := bt.size
  simp only [World.size_alloc] at hz
  have z89 := hz
  clear bt hz HH8 HB8 HR1_8 HR2_8 HR3_8 HR4_8 HR5_8
  generalize w8.heap.size = b5 at *
  go_wp2_with fail
  refine (S2.out gy _ HB9.out (HH9.out.at 3 _ _ rfl)).mono ?_
  rintro e w10 ⟨rfl, bt⟩
  have HH10 := hid ((((((Holds.nil _).cons (keptBut (HH9.out.at 5 _ _ rfl) bt (by omega))).cons (keptBut (HH9.out.at 4 _ _ rfl) bt (by omega))).cons (keptBut (HH9.out.at 2 _ _ rfl) bt (by omega))).cons (keptBut (HH9.out.at 1 _ _ rfl) bt (by omega))).cons (keptBut (HH9.out.at 0 _ _ rfl) bt (by omega)))
  have HB10 := hid (bbut HB9.out bt (by omega))
  have HR1_10 := hid (HR1_9.out.but bt (fun b hb => by have := HI1.out b hb; omega))
  have HR2_10 := hid (HR2_9.out.but bt (fun b hb => by have := HI2.out b hb; omega))
  have HR3_10 := hid (HR3_9.out.but bt (fun b hb => by have := HI3.out b hb; omega))
  have HR4_10 := hid (HR4_9.out.but bt (fun b hb => by have := HI4.out b hb; omega))
  have HR5_10 := hid (HR5_9.out.but bt (fun b hb => by have := HI5.out b hb; omega))
  have hz := bt.size
  have z910 := hz
  clear bt hz HH9 HB9 HR1_9 HR2_9 HR3_9 HR4_9 HR5_9
  have cb1 : ∀ q, w10.cell? ⟨b1, q, none⟩ = (#[.int .i64 xt, .int .i64 xi, .int .i64 xl, .int .i64 xp, .bool xk, .int .u32 xs, .int .u32 xd] : Array Value)[q]? := fun q => cell_of_heap (HH10.out.at 4 _ _ rfl) q
  have cb2 : ∀ q, w10.cell? ⟨b2, q, none⟩ = (#[.int .i64 yt, .int .i64 yi, .int .i64 yl, .int .i64 yp, .bool yk, .int .u32 ys, .int .u32 yd] : Array Value)[q]? := fun q => cell_of_heap (HH10.out.at 3 _ _ rfl) q
  have cb3 : ∀ q, w10.cell? ⟨b3, q, none⟩ = (#[.int .i64 xt, .int .i64 xi, .int .i64 xl, .int .i64 xp, .bool xk, .int .u32 xs, .int .u32 xd] : Array Value)[q]? := fun q => cell_of_heap (HH10.out.at 2 _ _ rfl) q
  have cb4 : ∀ q, w10.cell? ⟨b4, q, none⟩ = (#[.int .i64 yt, .int .i64 yi, .int .i64 yl, .int .i64 yp, .bool yk, .int .u32 ys, .int .u32 yd] : Array Value)[q]? := fun q => cell_of_heap (HH10.out.at 1 _ _ rfl) q
  have cb5 : ∀ q, w10.cell? ⟨b5, q, none⟩ = (#[.int .i64 xt, .int .i64 xi, .int .i64 xl, .int .i64 xp, .bool xk, .int .u32 xs, .int .u32 xd] : Array Value)[q]? := fun q => cell_of_heap (HH10.out.at 0 _ _ rfl) q
  have v1 := HR1_10.out.conv0 D1.out.1
  have v2 := HR2_10.out.conv0 D2.out.1
  have v3 := HR3_10.out.conv0 D1.out.1
  have v4 := HR4_10.out.conv0 D2.out.1
  have v5 := HR5_10.out.conv0 D1.out.1
  have st1 := str_same (strOfNums Y1)
  have st2 := str_same (strOfNums Y2)
  generalize strOfNums Y1 = X1 at *
  generalize strOfNums Y2 = X2 at *
  have hE : (E != E) = false := by simp
  have hF : (F != F) = false := by simp
  go_wp2_with fail
  clear v1 v2 v3 v4 v5 cb1 cb2 cb3 cb4 cb5
  have hbk : w.heap.size ≤ w10.heap.size := HB10.out.size
  have ra := bpush (Below.refl w10.heap.size w10) (.cells #[.slice none 0 0, .slice none 0 0] 37)
  have HBk := hid (bpush HB10.out (.cells #[.slice none 0 0, .slice none 0 0] 37))
  have HR3k := hid (HR3_10.out.below ra)
  have HR4k := hid (HR4_10.out.below ra)
  have HR5k := hid (HR5_10.out.below ra)
  refine (take_late w10.heap.size _ _ (.slice a3 n3 c3) [] Y1 w.heap.size _ (Late.new w10 w.heap.size hbk) HR3k.out D1.out.1 D1.out.2 (by simp) (fun b hb => ⟨by have := HI3.out b hb; omega, by have := HI3.out b hb; omega, by simp⟩)).mono ?_
  rintro e wb ⟨rfl, Lb, Vb, lb, kb, bb⟩
  have HLb := hid lb
  have HBb := hid (HBk.out.trans bb)
  have HR4b := hid (HR4k.out.low kb (fun b hb => by have := HI4.out b hb; omega))
  have HR5b := hid (HR5k.out.low kb (fun b hb => by have := HI5.out b hb; omega))
  clear lb bb kb ra HR3k HR4k HR5k HBk
  generalize w10.heap.size = gk at *
  go_wp2_with fail
  refine (take_late gk Lb Vb (.slice a4 n4 c4) _ Y2 w.heap.size wb HLb.out HR4b.out D2.out.1 D2.out.2 (by simp) (fun b hb => ⟨by have := HI4.out b hb; omega, by have := HI4.out b hb; omega, fun p hp e => by
    simp at hp
    subst hp
    have h1 := HI4.out b hb
    have h2 := HI3.out b e
    omega⟩)).mono ?_
  rintro e wd ⟨rfl, Ld, Vd, ld, kd, bd⟩
  have HLd := hid ld
  have HBd := hid (HBb.out.trans bd)
  have HR5d := hid (HR5b.out.low kd (fun b hb => by have := HI5.out b hb; omega))
  clear ld bd kd HR4b HR5b HBb HLb
  go_wp2_with fail
  refine (take_late gk Ld Vd (.slice a5 n5 c5) _ Y1 w.heap.size wd HLd.out HR5d.out D1.out.1 D1.out.2 (by simp) (fun b hb => ⟨by have := HI5.out b hb; omega, by have := HI5.out b hb; omega, fun p hp e => by
    have h1 := HI5.out b hb
    simp at hp
    rcases hp with hp | hp
    · subst hp
      have h2 := HI3.out b e
      omega
    · subst hp
      have h2 := HI4.out b e
      omega⟩)).mono ?_
  rintro e we ⟨rfl, Le, Ve, le, ke, be⟩
  have HLe := hid le
  have HBe := hid (HBd.out.trans be)
  clear le be ke HR5d HBd HLd
  go_wp2_with fail
  refine (owned_late gk Le Ve _ w.heap.size we HLe.out).mono ?_
  rintro e wf ⟨rfl, bf, _⟩
  have HBf := hid (HBe.out.trans bf)
  clear bf HBe HLe
  go_wp2
  go_ret
  exact ⟨rfl, HBf.out⟩
end Go.Proofs.Ytccmkljbedddiaa
