/-
  The walk of the statement UdpEncodes.
-/
import Derived.Test.YtdfmnjoodjpibaaULive
import Derived.Test.YtdfmnjoodjpibaaBLent
namespace Go.Proofs.Ytdfmnjoodjpibaa
open Go.RowKit
set_option linter.all false

theorem lent_part {w : World} {g : Nat} {pt : Part} (hz : ∀ z, z ∈ pt.zs → 0 ≤ z ∧ z ≤ 255) (hg : w.heap[g]? = some (.cells (L2 pt.zs) 5 (0, 0))) : Part.ok w ⟨some ⟨g, 0, none⟩, pt.zs.length + 2, pt.zs⟩ :=
  Part.of_heap hg 0 (by omega) (fun j hj => by rw [Nat.zero_add]; exact L2_lo pt.zs j hj) hz
theorem encB_bd (src dst s d : Int) (zs : List Int) (hz : ∀ z, z ∈ zs → 0 ≤ z ∧ z ≤ 255) : (∀ z, z ∈ encB src dst s d zs → 0 ≤ z ∧ z ≤ 255) ∧ (encB src dst s d zs).length ≤ 1480 := by
  unfold encB
  split
  · rename_i he
    refine ⟨datL_bd s d _ hz, ?_⟩
    rw [datL_len]
    unfold encE at he
    split at he
    · omega
    · split at he
      · omega
      · split at he
        · omega
        · omega
  · simp
theorem udp_box {w : World} {g : Nat} {s d : Int} {a a' : Option Addr} {n c n' c' : Nat} (h : w.heap[g]? = some (.cells #[.int .i64 s, .int .i64 d, .slice a n c] 26 (0, 0))) :
    w.cell? ⟨g, 2, none⟩ = some (.slice a n c) ∧ w.frozen? ⟨g, 2, none⟩ = false ∧ (w.setCell ⟨g, 2, none⟩ (.slice a' n' c')).heap[g]? = some (.cells #[.int .i64 s, .int .i64 d, .slice a' n' c'] 26 (0, 0)) ∧ But g w (w.setCell ⟨g, 2, none⟩ (.slice a' n' c')) := by
  refine ⟨cell_of_heap h 2, frozen_of_heap h 2, ?_, But.setCell _ _ _ _⟩
  have := heap_setCell (j := 2) (v := .slice a' n' c') h
  simpa using this
set_option maxRecDepth 20000 in
set_option maxHeartbeats 4000000 in
theorem udpEncodes_walk (src dst xs xd : Int) (pt : Part) (ys yd : Int) (qt : Part) (w : World) (s0 : 0 ≤ src ∧ src ≤ 4294967295) (d0 : 0 ≤ dst ∧ dst ≤ 4294967295) (ho : pt.ok w) (hz : pt.zs.length ≤ 140737488351232) (hqo : qt.ok w) (hqz : qt.zs.length ≤ 140737488351232) :
    Calls Try.prog 4 #[.int .u32 src, .int .u32 dst, .agg #[.int .i64 xs, .int .i64 xd, pt.val], .agg #[.int .i64 ys, .int .i64 yd, qt.val]] w fun e w' => e = .returned (.bool true) ∧ Below w.heap.size w w' := by
  have R1 : Hid (∀ w', Below w.heap.size w w' → _) := fun w' hb => refEncode_u src dst xs xd pt w' s0 d0 (Part.ok_below ho hb)
  have R2 : Hid (∀ w', Below w.heap.size w w' → _) := fun w' hb => refEncode_u dst src ys yd qt w' d0 s0 (Part.ok_below hqo hb)
  have L1 : Hid (∀ w', Below w.heap.size w w' → _) := fun w' hb => lent_any pt w' (Part.ok_below ho hb) hz
  have LQ : Hid (∀ w', Below w.heap.size w w' → _) := fun w' hb => lent_any qt w' (Part.ok_below hqo hb) hqz
  have E1 : Hid (∀ (g : Nat) (w' : World), w'.heap[g]? = some (.cells (L2 pt.zs) 5 (0, 0)) → _) := fun g w' hg => encode_u src dst xs xd ⟨some ⟨g, 0, none⟩, pt.zs.length + 2, pt.zs⟩ w' s0 d0 (lent_part ho.1 hg)
  have E2 : Hid (∀ (g : Nat) (w' : World), w'.heap[g]? = some (.cells (L2 qt.zs) 5 (0, 0)) → _) := fun g w' hg => encode_u dst src ys yd ⟨some ⟨g, 0, none⟩, qt.zs.length + 2, qt.zs⟩ w' d0 s0 (lent_part hqo.1 hg)
  have S1 : Hid (∀ (g : Nat) (w' : World), Below w.heap.size w w' → w'.heap[g]? = some (.cells (L2 pt.zs) 5 (0, 0)) → _) := fun g w' hb hg => asLent_any g pt w' (Part.ok_below ho hb) hz hg
  have S2 : Hid (∀ (g : Nat) (w' : World), Below w.heap.size w w' → w'.heap[g]? = some (.cells (L2 qt.zs) 5 (0, 0)) → _) := fun g w' hb hg => asLent_any g qt w' (Part.ok_below hqo hb) hqz hg
  have D1 := hid (encB_bd src dst xs xd pt.zs ho.1)
  have D2 := hid (encB_bd dst src ys yd qt.zs hqo.1)
  clear s0 d0 ho hqo
  obtain ⟨xa, xc, ps⟩ := pt
  obtain ⟨ya, yc, qs⟩ := qt
  simp only [Part.val] at *
  generalize encB src dst xs xd ps = Y1 at *
  generalize encB dst src ys yd qs = Y2 at *
  generalize L2 ps = LX at *
  generalize L2 qs = LY at *
  generalize ps.length = xl at *
  generalize qs.length = yl at *
  generalize encE xs xd xl = E at *
  generalize encE ys yd yl = F at *
  go_enter Try.func4, Try.ntmps4
  go_wp2_with fail
  refine (awake_any _).mono ?_
  rintro e w1 ⟨rfl, hb1⟩
  have hh0 := ((Holds.nil w).push (.cells #[.int .i64 xs, .int .i64 xd, .slice xa xl xc] 26)).push (.cells #[.int .i64 ys, .int .i64 yd, .slice ya yl yc] 26)
  simp only [World.size_alloc] at hh0
  have HH1 := hid (hh0.below hb1)
  have HB1 := hid (bstep (bpush (bpush (Below.refl _ w) (.cells #[.int .i64 xs, .int .i64 xd, .slice xa xl xc] 26)) (.cells #[.int .i64 ys, .int .i64 yd, .slice ya yl yc] 26)) hb1)
  have z01 : w.heap.size + 2 ≤ w1.heap.size := by have := hb1.size; simpa using this
  clear hh0 hb1
  have cc : ∀ q, w1.cell? ⟨w.heap.size, q, none⟩ = (#[.int .i64 xs, .int .i64 xd, .slice xa xl xc] : Array Value)[q]? := fun q => cell_of_heap (HH1.out.at 1 _ _ rfl) q
  go_wp2_with fail
  refine (R1.out _ HB1.out).mono ?_
  rintro e w2 ⟨a1, n1, c1, rfl, an⟩
  have HH2 := hid (HH1.out.below an.2.2)
  have HB2 := hid (bstep HB1.out an.2.2)
  have HR1_2 := hid an.1
  have HI1 := hid (ans_lt an)
  have z12 : w1.heap.size ≤ w2.heap.size := an.2.2.size
  clear an cc HH1 HB1
  have cc : ∀ q, w2.cell? ⟨w.heap.size + 1, q, none⟩ = (#[.int .i64 ys, .int .i64 yd, .slice ya yl yc] : Array Value)[q]? := fun q => cell_of_heap (HH2.out.at 0 _ _ rfl) q
  go_wp2_with fail
  refine (R2.out _ HB2.out).mono ?_
  rintro e w3 ⟨a2, n2, c2, rfl, an⟩
  have HH3 := hid (HH2.out.below an.2.2)
  have HB3 := hid (bstep HB2.out an.2.2)
  have HR1_3 := hid (HR1_2.out.below an.2.2)
  have HR2_3 := hid an.1
  have HI2 := hid (ans_lt an)
  have z23 : w2.heap.size ≤ w3.heap.size := an.2.2.size
  clear an cc HH2 HB2 HR1_2
  have cc : ∀ q, w3.cell? ⟨w.heap.size, q, none⟩ = (#[.int .i64 xs, .int .i64 xd, .slice xa xl xc] : Array Value)[q]? := fun q => cell_of_heap (HH3.out.at 1 _ _ rfl) q
  have hlt : w.heap.size < w3.heap.size := by omega
  go_wp2_with fail
  clear cc hlt
  obtain ⟨w4, hw⟩ : ∃ w', w' = w3.alloc (.cells #[.int .i64 xs, .int .i64 xd, .slice xa xl xc] 26) := ⟨_, rfl⟩
  have hb : Below w3.heap.size w3 w4 := by rw [hw]; exact bpush (Below.refl _ _) _
  have HL : Hid (w4.heap[w3.heap.size]? = some (.cells #[.int .i64 xs, .int .i64 xd, .slice xa xl xc] 26)) := by rw [hw]; exact heap_new _ _
  have HH4 := hid ((HH3.out.below hb).cons HL.out)
  have HB4 := hid (bstep HB3.out hb)
  have HR1_4 := hid (HR1_3.out.below hb)
  have HR2_4 := hid (HR2_3.out.below hb)
  have z34 : w3.heap.size + 1 ≤ w4.heap.size := by rw [hw]; simp
  clear hb HL HH3 HB3 HR1_3 HR2_3
  rw [← hw]
  clear hw
  generalize w3.heap.size = gx at *
  refine (L1.out _ HB4.out).mono ?_
  rintro e w5 ⟨rfl, hw⟩
  have hb : Below w4.heap.size w4 w5 := by rw [hw]; exact bpush (Below.refl _ _) _
  have HL : Hid (w5.heap[w4.heap.size]? = some (.cells LX 5)) := by rw [hw]; exact heap_new _ _
  have HH5 := hid ((HH4.out.below hb).cons HL.out)
  have HB5 := hid (bstep HB4.out hb)
  have HR1_5 := hid (HR1_4.out.below hb)
  have HR2_5 := hid (HR2_4.out.below hb)
  have z45 : w4.heap.size + 1 ≤ w5.heap.size := by rw [hw]; simp
  clear hw hb HL HH4 HB4 HR1_4 HR2_4
  generalize w4.heap.size = gl at *
  obtain ⟨bc, bf, bh, bt⟩ := udp_box (a' := some ⟨gl, 0, none⟩) (n' := xl) (c' := xl + 2) (HH5.out.at 1 _ _ rfl)
  obtain ⟨w6, hw⟩ : ∃ w', w' = w5.setCell ⟨gx, 2, none⟩ (.slice (some ⟨gl, 0, none⟩) xl (xl + 2)) := ⟨_, rfl⟩
  have HW := hid hw
  rw [← hw] at bh bt
  clear hw
  have HH6 := hid (((((Holds.nil _).cons (keptBut (HH5.out.at 3 _ _ rfl) bt (by omega))).cons (keptBut (HH5.out.at 2 _ _ rfl) bt (by omega))).cons (keptBut (HH5.out.at 0 _ _ rfl) bt (by omega))).cons bh)
  have HB6 := hid (bbut HB5.out bt (by omega))
  have HR1_6 := hid (HR1_5.out.but bt (fun b hb => by have := HI1.out b hb; omega))
  have HR2_6 := hid (HR2_5.out.but bt (fun b hb => by have := HI2.out b hb; omega))
  have z56 : w5.heap.size ≤ w6.heap.size := bt.size
  clear bt HH5 HB5 HR1_5 HR2_5
  have cc : ∀ q, w6.cell? ⟨w.heap.size + 1, q, none⟩ = (#[.int .i64 ys, .int .i64 yd, .slice ya yl yc] : Array Value)[q]? := fun q => cell_of_heap (HH6.out.at 2 _ _ rfl) q
  have hlt : w.heap.size + 1 < w5.heap.size := by omega
  have hsz : w6.heap.size = w5.heap.size := by rw [HW.out]; simp [World.setCell]
  have HSZ := hid hsz
  clear hsz
  rw [HW.out] at cc
  go_wp2_with fail
  rw [← HW.out, ← HSZ.out]
  clear cc bc bf HW hlt HSZ
  obtain ⟨w7, hw⟩ : ∃ w', w' = w6.alloc (.cells #[.int .i64 ys, .int .i64 yd, .slice ya yl yc] 26) := ⟨_, rfl⟩
  have hb : Below w6.heap.size w6 w7 := by rw [hw]; exact bpush (Below.refl _ _) _
  have HL : Hid (w7.heap[w6.heap.size]? = some (.cells #[.int .i64 ys, .int .i64 yd, .slice ya yl yc] 26)) := by rw [hw]; exact heap_new _ _
  have HH7 := hid ((HH6.out.below hb).cons HL.out)
  have HB7 := hid (bstep HB6.out hb)
  have HR1_7 := hid (HR1_6.out.below hb)
  have HR2_7 := hid (HR2_6.out.below hb)
  have z67 : w6.heap.size + 1 ≤ w7.heap.size := by rw [hw]; simp
  clear hb HL HH6 HB6 HR1_6 HR2_6
  rw [← hw]
  clear hw
  generalize w6.heap.size = gy at *
  refine (LQ.out _ HB7.out).mono ?_
  rintro e w8 ⟨rfl, hw⟩
  have hb : Below w7.heap.size w7 w8 := by rw [hw]; exact bpush (Below.refl _ _) _
  have HL : Hid (w8.heap[w7.heap.size]? = some (.cells LY 5)) := by rw [hw]; exact heap_new _ _
  have HH8 := hid ((HH7.out.below hb).cons HL.out)
  have HB8 := hid (bstep HB7.out hb)
  have HR1_8 := hid (HR1_7.out.below hb)
  have HR2_8 := hid (HR2_7.out.below hb)
  have z78 : w7.heap.size + 1 ≤ w8.heap.size := by rw [hw]; simp
  clear hw hb HL HH7 HB7 HR1_7 HR2_7
  generalize w7.heap.size = gm at *
  obtain ⟨bc, bf, bh, bt⟩ := udp_box (a' := some ⟨gm, 0, none⟩) (n' := yl) (c' := yl + 2) (HH8.out.at 1 _ _ rfl)
  obtain ⟨w9, hw⟩ : ∃ w', w' = w8.setCell ⟨gy, 2, none⟩ (.slice (some ⟨gm, 0, none⟩) yl (yl + 2)) := ⟨_, rfl⟩
  have HW := hid hw
  rw [← hw] at bh bt
  clear hw
  have HH9 := hid (((((((Holds.nil _).cons (keptBut (HH8.out.at 5 _ _ rfl) bt (by omega))).cons (keptBut (HH8.out.at 4 _ _ rfl) bt (by omega))).cons (keptBut (HH8.out.at 3 _ _ rfl) bt (by omega))).cons (keptBut (HH8.out.at 2 _ _ rfl) bt (by omega))).cons (keptBut (HH8.out.at 0 _ _ rfl) bt (by omega))).cons bh)
  have HB9 := hid (bbut HB8.out bt (by omega))
  have HR1_9 := hid (HR1_8.out.but bt (fun b hb => by have := HI1.out b hb; omega))
  have HR2_9 := hid (HR2_8.out.but bt (fun b hb => by have := HI2.out b hb; omega))
  have z89 : w8.heap.size ≤ w9.heap.size := bt.size
  clear bt HH8 HB8 HR1_8 HR2_8
  have cc : ∀ q, w9.cell? ⟨gx, q, none⟩ = (#[.int .i64 xs, .int .i64 xd, .slice (some ⟨gl, 0, none⟩) xl (xl + 2)] : Array Value)[q]? := fun q => cell_of_heap (HH9.out.at 2 _ _ rfl) q
  rw [HW.out] at cc
  go_wp2_with fail
  rw [← HW.out]
  clear cc bc bf HW
  refine (E1.out gl _ (HH9.out.at 3 _ _ rfl)).mono ?_
  rintro e w10 ⟨a3, n3, c3, rfl, an⟩
  have HH10 := hid (HH9.out.below an.2.2)
  have HB10 := hid (bstep HB9.out an.2.2)
  have HR1_10 := hid (HR1_9.out.below an.2.2)
  have HR2_10 := hid (HR2_9.out.below an.2.2)
  have HR3_10 := hid an.1
  have HI3 := hid (ans_lt an)
  have z910 : w9.heap.size ≤ w10.heap.size := an.2.2.size
  clear an HH9 HB9 HR1_9 HR2_9
  have cc : ∀ q, w10.cell? ⟨gy, q, none⟩ = (#[.int .i64 ys, .int .i64 yd, .slice (some ⟨gm, 0, none⟩) yl (yl + 2)] : Array Value)[q]? := fun q => cell_of_heap (HH10.out.at 0 _ _ rfl) q
  go_wp2_with fail
  refine (E2.out gm _ (HH10.out.at 1 _ _ rfl)).mono ?_
  rintro e w11 ⟨a4, n4, c4, rfl, an⟩
  have HH11 := hid (HH10.out.below an.2.2)
  have HB11 := hid (bstep HB10.out an.2.2)
  have HR1_11 := hid (HR1_10.out.below an.2.2)
  have HR2_11 := hid (HR2_10.out.below an.2.2)
  have HR3_11 := hid (HR3_10.out.below an.2.2)
  have HR4_11 := hid an.1
  have HI4 := hid (ans_lt an)
  have z1011 : w10.heap.size ≤ w11.heap.size := an.2.2.size
  clear an cc HH10 HB10 HR1_10 HR2_10 HR3_10
  have cc : ∀ q, w11.cell? ⟨gx, q, none⟩ = (#[.int .i64 xs, .int .i64 xd, .slice (some ⟨gl, 0, none⟩) xl (xl + 2)] : Array Value)[q]? := fun q => cell_of_heap (HH11.out.at 2 _ _ rfl) q
  go_wp2_with fail
  refine (E1.out gl _ (HH11.out.at 3 _ _ rfl)).mono ?_
  rintro e w12 ⟨a5, n5, c5, rfl, an⟩
  have HH12 := hid (HH11.out.below an.2.2)
  have HB12 := hid (bstep HB11.out an.2.2)
  have HR1_12 := hid (HR1_11.out.below an.2.2)
  have HR2_12 := hid (HR2_11.out.below an.2.2)
  have HR3_12 := hid (HR3_11.out.below an.2.2)
  have HR4_12 := hid (HR4_11.out.below an.2.2)
  have HR5_12 := hid an.1
  have HI5 := hid (ans_lt an)
  have z1112 : w11.heap.size ≤ w12.heap.size := an.2.2.size
  clear an cc HH11 HB11 HR1_11 HR2_11 HR3_11 HR4_11
  have cc : ∀ q, w12.cell? ⟨gx, q, none⟩ = (#[.int .i64 xs, .int .i64 xd, .slice (some ⟨gl, 0, none⟩) xl (xl + 2)] : Array Value)[q]? := fun q => cell_of_heap (HH12.out.at 2 _ _ rfl) q
  have cd : ∀ q, w12.cell? ⟨w.heap.size, q, none⟩ = (#[.int .i64 xs, .int .i64 xd, .slice xa xl xc] : Array Value)[q]? := fun q => cell_of_heap (HH12.out.at 5 _ _ rfl) q
  go_wp2_with fail
  refine (S1.out gl _ HB12.out (HH12.out.at 3 _ _ rfl)).mono ?_
  rintro e w13 ⟨rfl, bt⟩
  have HH13 := hid ((((((Holds.nil _).cons (keptBut (HH12.out.at 5 _ _ rfl) bt (by omega))).cons (keptBut (HH12.out.at 4 _ _ rfl) bt (by omega))).cons (keptBut (HH12.out.at 2 _ _ rfl) bt (by omega))).cons (keptBut (HH12.out.at 1 _ _ rfl) bt (by omega))).cons (keptBut (HH12.out.at 0 _ _ rfl) bt (by omega)))
  have HB13 := hid (bbut HB12.out bt (by omega))
  have HR1_13 := hid (HR1_12.out.but bt (fun b hb => by have := HI1.out b hb; omega))
  have HR2_13 := hid (HR2_12.out.but bt (fun b hb => by have := HI2.out b hb; omega))
  have HR3_13 := hid (HR3_12.out.but bt (fun b hb => by have := HI3.out b hb; omega))
  have HR4_13 := hid (HR4_12.out.but bt (fun b hb => by have := HI4.out b hb; omega))
  have HR5_13 := hid (HR5_12.out.but bt (fun b hb => by have := HI5.out b hb; omega))
  have z1213 : w12.heap.size ≤ w13.heap.size := bt.size
  clear cc cd
  clear bt HH12 HB12 HR1_12 HR2_12 HR3_12 HR4_12 HR5_12
  have cc : ∀ q, w13.cell? ⟨gy, q, none⟩ = (#[.int .i64 ys, .int .i64 yd, .slice (some ⟨gm, 0, none⟩) yl (yl + 2)] : Array Value)[q]? := fun q => cell_of_heap (HH13.out.at 0 _ _ rfl) q
  have cd : ∀ q, w13.cell? ⟨w.heap.size + 1, q, none⟩ = (#[.int .i64 ys, .int .i64 yd, .slice ya yl yc] : Array Value)[q]? := fun q => cell_of_heap (HH13.out.at 3 _ _ rfl) q
  go_wp2_with fail
  refine (S2.out gm _ HB13.out (HH13.out.at 1 _ _ rfl)).mono ?_
  rintro e w14 ⟨rfl, bt⟩
  have HH14 := hid (((((Holds.nil _).cons (keptBut (HH13.out.at 4 _ _ rfl) bt (by omega))).cons (keptBut (HH13.out.at 3 _ _ rfl) bt (by omega))).cons (keptBut (HH13.out.at 2 _ _ rfl) bt (by omega))).cons (keptBut (HH13.out.at 0 _ _ rfl) bt (by omega)))
  have HB14 := hid (bbut HB13.out bt (by omega))
  have HR1_14 := hid (HR1_13.out.but bt (fun b hb => by have := HI1.out b hb; omega))
  have HR2_14 := hid (HR2_13.out.but bt (fun b hb => by have := HI2.out b hb; omega))
  have HR3_14 := hid (HR3_13.out.but bt (fun b hb => by have := HI3.out b hb; omega))
  have HR4_14 := hid (HR4_13.out.but bt (fun b hb => by have := HI4.out b hb; omega))
  have HR5_14 := hid (HR5_13.out.but bt (fun b hb => by have := HI5.out b hb; omega))
  have z1314 : w13.heap.size ≤ w14.heap.size := bt.size
  clear cc cd
  clear bt HH13 HB13 HR1_13 HR2_13 HR3_13 HR4_13 HR5_13
  have v1 := HR1_14.out.conv0 D1.out.1
  have v2 := HR2_14.out.conv0 D2.out.1
  have v3 := HR3_14.out.conv0 D1.out.1
  have v4 := HR4_14.out.conv0 D2.out.1
  have v5 := HR5_14.out.conv0 D1.out.1
  have st1 := str_same (strOfNums Y1)
  have st2 := str_same (strOfNums Y2)
  generalize strOfNums Y1 = X1 at *
  generalize strOfNums Y2 = X2 at *
  have hE : (E != E) = false := by simp
  have hF : (F != F) = false := by simp
  go_wp2_with fail
  clear v1 v2 v3 v4 v5
  have hbk : w.heap.size ≤ w14.heap.size := HB14.out.size
  have ra := bpush (Below.refl w14.heap.size w14) (.cells #[.slice none 0 0, .slice none 0 0] 36)
  have HBk := hid (bpush HB14.out (.cells #[.slice none 0 0, .slice none 0 0] 36))
  have HR3k := hid (HR3_14.out.below ra)
  have HR4k := hid (HR4_14.out.below ra)
  have HR5k := hid (HR5_14.out.below ra)
  refine (take_late w14.heap.size _ _ (.slice a3 n3 c3) [] Y1 w.heap.size _ (Late.new w14 w.heap.size hbk) HR3k.out D1.out.1 (by have := D1.out.2; omega) (by simp) (fun b hb => ⟨by have := HI3.out b hb; omega, by have := HI3.out b hb; omega, by simp⟩)).mono ?_
  rintro e wb ⟨rfl, Lb, Vb, lb, kb, bb⟩
  have HLb := hid lb
  have HBb := hid (HBk.out.trans bb)
  have HR4b := hid (HR4k.out.low kb (fun b hb => by have := HI4.out b hb; omega))
  have HR5b := hid (HR5k.out.low kb (fun b hb => by have := HI5.out b hb; omega))
  clear lb bb kb ra HR3k HR4k HR5k HBk
  generalize w14.heap.size = gk at *
  go_wp2_with fail
  refine (take_late gk Lb Vb (.slice a4 n4 c4) _ Y2 w.heap.size wb HLb.out HR4b.out D2.out.1 (by have := D2.out.2; omega) (by simp) (fun b hb => ⟨by have := HI4.out b hb; omega, by have := HI4.out b hb; omega, fun p hp e => by
    simp at hp
    subst hp
    have h1 := HI4.out b hb
    have h2 := HI3.out b e
    omega⟩)).mono ?_
  rintro e wd ⟨rfl, Ld, Vd, ld, kd, bd⟩
  have HLd := hid ld
  have HBd := hid (HBb.out.trans bd)
  have HR5d := hid (HR5b.out.low kd (fun b hb => by have := HI5.out b hb; omega))
  clear ld bd kd HR4b HR5b HBb HLb
  go_wp2_with fail
  refine (take_late gk Ld Vd (.slice a5 n5 c5) _ Y1 w.heap.size wd HLd.out HR5d.out D1.out.1 (by have := D1.out.2; omega) (by simp) (fun b hb => ⟨by have := HI5.out b hb; omega, by have := HI5.out b hb; omega, fun p hp e => by
    have h1 := HI5.out b hb
    simp at hp
    rcases hp with hp | hp
    · subst hp
      have h2 := HI3.out b e
      omega
    · subst hp
      have h2 := HI4.out b e
      omega⟩)).mono ?_
  rintro e we ⟨rfl, Le, Ve, le, ke, be⟩
  have HLe := hid le
  have HBe := hid (HBd.out.trans be)
  clear le be ke HR5d HBd HLd
  go_wp2_with fail
  refine (owned_late gk Le Ve _ w.heap.size we HLe.out).mono ?_
  rintro e wf ⟨rfl, bf, _⟩
  have HBf := hid (HBe.out.trans bf)
  clear bf HBe HLe
  go_wp2
  go_ret
  exact ⟨rfl, HBf.out⟩
end Go.Proofs.Ytdfmnjoodjpibaa
