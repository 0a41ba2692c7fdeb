/-
  The walk of the statement IcmpEncodes. Written by mkic.py.
-/
import Derived.Test.YthmfappindbjnaaIcLive
namespace Go.Proofs.Ythmfappindbjnaa
open Go.RowKit
set_option linter.all false

theorem lent_part {w : World} {g : Nat} {pt : Part} (hz : ∀ z, z ∈ pt.zs → 0 ≤ z ∧ z ≤ 255) (hg : w.heap[g]? = some (.cells (L2 pt.zs) 5 (0, 0))) : Part.ok w ⟨some ⟨g, 0, none⟩, pt.zs.length + 2, pt.zs⟩ :=
  Part.of_heap hg 0 (by omega) (fun j hj => by rw [Nat.zero_add]; exact L2_lo pt.zs j hj) hz
theorem encB_bd (k c r : Int) (zs : List Int) (hz : ∀ z, z ∈ zs → 0 ≤ z ∧ z ≤ 255) : (∀ z, z ∈ encB k c r zs → 0 ≤ z ∧ z ≤ 255) ∧ (encB k c r zs).length ≤ 1480 := by
  unfold encB
  split
  · rename_i he
    unfold encE at he
    split at he
    · omega
    · rename_i hk
      split at he
      · omega
      · rename_i hc
        split at he
        · omega
        · refine ⟨msgL_bd _ _ (kind_bd (by simpa using hk)) (by omega) hz, ?_⟩
          rw [msgL_len]
          omega
  · simp
set_option maxRecDepth 20000 in
set_option maxHeartbeats 4000000 in
theorem icmpEncodes_walk (xk xs xr : Int) (pt : Part) (yk ys yr : Int) (qt : Part) (w : World) (x0 : 0 ≤ xr ∧ xr ≤ 4294967295) (ho : pt.ok w) (hz : pt.zs.length ≤ 140737488351232) (y0 : 0 ≤ yr ∧ yr ≤ 4294967295) (hqo : qt.ok w) (hqz : qt.zs.length ≤ 140737488351232) :
    Calls Try.prog 4 #[.agg #[.int .i64 xk, .int .i64 xs, .int .u32 xr, pt.val], .agg #[.int .i64 yk, .int .i64 ys, .int .u32 yr, qt.val]] w fun e w' => e = .returned (.bool true) ∧ Below w.heap.size w w' := by
  have R1 : Hid (∀ w', Below w.heap.size w w' → _) := fun w' hb => refEncode_u xk xs xr pt w' x0 (Part.ok_below ho hb)
  have R2 : Hid (∀ w', Below w.heap.size w w' → _) := fun w' hb => refEncode_u yk ys yr qt w' y0 (Part.ok_below hqo hb)
  have L1 : Hid (∀ w', Below w.heap.size w w' → _) := fun w' hb => lentM_any xk xs xr pt w' (Part.ok_below ho hb) hz
  have E1 : Hid (∀ (g : Nat) (w' : World), w'.heap[g]? = some (.cells (L2 pt.zs) 5 (0, 0)) → _) := fun g w' hg => encode_u xk xs xr ⟨some ⟨g, 0, none⟩, pt.zs.length + 2, pt.zs⟩ w' x0 (lent_part ho.1 hg)
  have E2 : Hid (∀ w', Below w.heap.size w w' → _) := fun w' hb => encode_u yk ys yr qt w' y0 (Part.ok_below hqo hb)
  have S1 : Hid (∀ (g : Nat) (w' : World), Below w.heap.size w w' → w'.heap[g]? = some (.cells (L2 pt.zs) 5 (0, 0)) → _) := fun g w' hb hg => asLent_any g pt w' (Part.ok_below ho hb) hz hg
  have D1 := hid (encB_bd xk xs xr pt.zs ho.1)
  have D2 := hid (encB_bd yk ys yr qt.zs hqo.1)
  clear x0 y0 ho hqo
  obtain ⟨xa, xc, ps⟩ := pt
  obtain ⟨ya, yc, qs⟩ := qt
  simp only [Part.val] at *
  generalize encB xk xs xr ps = Y1 at *
  generalize encB yk ys yr qs = Y2 at *
  generalize L2 ps = LX at *
  generalize ps.length = xl at *
  generalize qs.length = yl at *
  generalize encE xk xs xl = E at *
  generalize encE yk ys yl = F at *
  go_enter Try.func4, Try.ntmps4
  go_wp2_with fail
  refine (live_any _).mono ?_
  rintro e w1 ⟨rfl, hb1⟩
  have hh0 := ((Holds.nil w).push (.cells #[.int .i64 xk, .int .i64 xs, .int .u32 xr, .slice xa xl xc] 26)).push (.cells #[.int .i64 yk, .int .i64 ys, .int .u32 yr, .slice ya yl yc] 26)
  simp only [World.size_alloc] at hh0
  have HH1 := hid (hh0.below hb1)
  have HB1 := hid (bstep (bpush (bpush (Below.refl _ w) (.cells #[.int .i64 xk, .int .i64 xs, .int .u32 xr, .slice xa xl xc] 26)) (.cells #[.int .i64 yk, .int .i64 ys, .int .u32 yr, .slice ya yl yc] 26)) hb1)
  have z01 : w.heap.size + 2 ≤ w1.heap.size := by have := hb1.size; simpa using this
  clear hh0 hb1
  have cc : ∀ q, w1.cell? ⟨w.heap.size, q, none⟩ = (#[.int .i64 xk, .int .i64 xs, .int .u32 xr, .slice xa xl xc] : Array Value)[q]? := fun q => cell_of_heap (HH1.out.at 1 _ _ rfl) q
  go_wp2_with fail
  clear cc
  refine (L1.out _ HB1.out).mono ?_
  rintro e v ⟨gl, rfl, hgl, hL, hb⟩
  have bb := bpush hb (.cells #[.int .i64 xk, .int .i64 xs, .int .u32 xr, .slice (some ⟨gl, 0, none⟩) xl (xl + 2)] 26)
  have HL0 := hid (kept hL (bpush (Below.refl _ _) (.cells #[.int .i64 xk, .int .i64 xs, .int .u32 xr, .slice (some ⟨gl, 0, none⟩) xl (xl + 2)] 26)))
  have HL := hid (heap_new v (.cells #[.int .i64 xk, .int .i64 xs, .int .u32 xr, .slice (some ⟨gl, 0, none⟩) xl (xl + 2)] 26))
  have ygl : gl < v.heap.size := heap_lt hL
  have HH2 := hid (((HH1.out.below bb).cons HL0.out).cons HL.out)
  have HB2 := hid (bstep HB1.out bb)
  have z1gx : w1.heap.size ≤ v.heap.size := hb.size
  have zgx2 : v.heap.size + 1 ≤ (v.alloc (.cells #[.int .i64 xk, .int .i64 xs, .int .u32 xr, .slice (some ⟨gl, 0, none⟩) xl (xl + 2)] 26)).heap.size := by simp
  clear hL hb bb HL HL0 HH1 HB1
  go_wp2_with fail
  generalize v.alloc (.cells #[.int .i64 xk, .int .i64 xs, .int .u32 xr, .slice (some ⟨gl, 0, none⟩) xl (xl + 2)] 26) = w2 at *
  generalize v.heap.size = gx at *
  clear v
  refine (E1.out gl _ (HH2.out.at 1 _ _ rfl)).mono ?_
  rintro e w3 ⟨a3, n3, c3, rfl, an⟩
  have HH3 := hid (HH2.out.below an.2.2)
  have HB3 := hid (bstep HB2.out an.2.2)
  have HR3_3 := hid an.1
  have HI3 := hid (ans_lt an)
  have z23 : w2.heap.size ≤ w3.heap.size := an.2.2.size
  clear an HH2 HB2
  have cc : ∀ q, w3.cell? ⟨w.heap.size + 1, q, none⟩ = (#[.int .i64 yk, .int .i64 ys, .int .u32 yr, .slice ya yl yc] : Array Value)[q]? := fun q => cell_of_heap (HH3.out.at 2 _ _ rfl) q
  go_wp2_with fail
  clear cc
  refine (E2.out _ HB3.out).mono ?_
  rintro e w4 ⟨a4, n4, c4, rfl, an⟩
  have HH4 := hid (HH3.out.below an.2.2)
  have HB4 := hid (bstep HB3.out an.2.2)
  have HR3_4 := hid (HR3_3.out.below an.2.2)
  have HR4_4 := hid an.1
  have HI4 := hid (ans_lt an)
  have z34 : w3.heap.size ≤ w4.heap.size := an.2.2.size
  clear an HH3 HB3 HR3_3
  have cc : ∀ q, w4.cell? ⟨gx, q, none⟩ = (#[.int .i64 xk, .int .i64 xs, .int .u32 xr, .slice (some ⟨gl, 0, none⟩) xl (xl + 2)] : Array Value)[q]? := fun q => cell_of_heap (HH4.out.at 0 _ _ rfl) q
  go_wp2_with fail
  clear cc
  refine (E1.out gl _ (HH4.out.at 1 _ _ rfl)).mono ?_
  rintro e w5 ⟨a5, n5, c5, rfl, an⟩
  have HH5 := hid (HH4.out.below an.2.2)
  have HB5 := hid (bstep HB4.out an.2.2)
  have HR3_5 := hid (HR3_4.out.below an.2.2)
  have HR4_5 := hid (HR4_4.out.below an.2.2)
  have HR5_5 := hid an.1
  have HI5 := hid (ans_lt an)
  have z45 : w4.heap.size ≤ w5.heap.size := an.2.2.size
  clear an HH4 HB4 HR3_4 HR4_4
  have cc : ∀ q, w5.cell? ⟨gx, q, none⟩ = (#[.int .i64 xk, .int .i64 xs, .int .u32 xr, .slice (some ⟨gl, 0, none⟩) xl (xl + 2)] : Array Value)[q]? := fun q => cell_of_heap (HH5.out.at 0 _ _ rfl) q
  have cd : ∀ q, w5.cell? ⟨w.heap.size, q, none⟩ = (#[.int .i64 xk, .int .i64 xs, .int .u32 xr, .slice xa xl xc] : Array Value)[q]? := fun q => cell_of_heap (HH5.out.at 3 _ _ rfl) q
  go_wp2_with fail
  clear cc cd
  refine (S1.out gl _ HB5.out (HH5.out.at 1 _ _ rfl)).mono ?_
  rintro e w6 ⟨rfl, bt⟩
  have HH6 := hid ((((Holds.nil _).cons (keptBut (HH5.out.at 3 _ _ rfl) bt (by omega))).cons (keptBut (HH5.out.at 2 _ _ rfl) bt (by omega))).cons (keptBut (HH5.out.at 0 _ _ rfl) bt (by omega)))
  have HB6 := hid (bbut HB5.out bt (by omega))
  have HR3_6 := hid (HR3_5.out.but bt (fun b hb => by have := HI3.out b hb; omega))
  have HR4_6 := hid (HR4_5.out.but bt (fun b hb => by have := HI4.out b hb; omega))
  have HR5_6 := hid (HR5_5.out.but bt (fun b hb => by have := HI5.out b hb; omega))
  have z56 : w5.heap.size ≤ w6.heap.size := bt.size
  clear bt HH5 HB5 HR3_5 HR4_5 HR5_5
  have cc : ∀ q, w6.cell? ⟨w.heap.size, q, none⟩ = (#[.int .i64 xk, .int .i64 xs, .int .u32 xr, .slice xa xl xc] : Array Value)[q]? := fun q => cell_of_heap (HH6.out.at 2 _ _ rfl) q
  go_wp2_with fail
  clear cc
  refine (R1.out _ HB6.out).mono ?_
  rintro e w7 ⟨a1, n1, c1, rfl, an⟩
  have HH7 := hid (HH6.out.below an.2.2)
  have HB7 := hid (bstep HB6.out an.2.2)
  have HR3_7 := hid (HR3_6.out.below an.2.2)
  have HR4_7 := hid (HR4_6.out.below an.2.2)
  have HR5_7 := hid (HR5_6.out.below an.2.2)
  have HR1_7 := hid an.1
  have HI1 := hid (ans_lt an)
  have z67 : w6.heap.size ≤ w7.heap.size := an.2.2.size
  clear an HH6 HB6 HR3_6 HR4_6 HR5_6
  have cc : ∀ q, w7.cell? ⟨w.heap.size + 1, q, none⟩ = (#[.int .i64 yk, .int .i64 ys, .int .u32 yr, .slice ya yl yc] : Array Value)[q]? := fun q => cell_of_heap (HH7.out.at 1 _ _ rfl) q
  go_wp2_with fail
  clear cc
  refine (R2.out _ HB7.out).mono ?_
  rintro e w8 ⟨a2, n2, c2, rfl, an⟩
  have HH8 := hid (HH7.out.below an.2.2)
  have HB8 := hid (bstep HB7.out an.2.2)
  have HR3_8 := hid (HR3_7.out.below an.2.2)
  have HR4_8 := hid (HR4_7.out.below an.2.2)
  have HR5_8 := hid (HR5_7.out.below an.2.2)
  have HR1_8 := hid (HR1_7.out.below an.2.2)
  have HR2_8 := hid an.1
  have HI2 := hid (ans_lt an)
  have z78 : w7.heap.size ≤ w8.heap.size := an.2.2.size
  clear an HH7 HB7 HR3_7 HR4_7 HR5_7 HR1_7
  have v1 := HR1_8.out.conv0 D1.out.1
  have v2 := HR2_8.out.conv0 D2.out.1
  have v3 := HR3_8.out.conv0 D1.out.1
  have v4 := HR4_8.out.conv0 D2.out.1
  have v5 := HR5_8.out.conv0 D1.out.1
  have st1 := str_same (strOfNums Y1)
  have st2 := str_same (strOfNums Y2)
  generalize strOfNums Y1 = X1 at *
  generalize strOfNums Y2 = X2 at *
  have hE : (E != E) = false := by simp
  have hF : (F != F) = false := by simp
  go_wp2_with fail
  clear v1 v2 v3 v4 v5
  have hbk : w.heap.size ≤ w8.heap.size := HB8.out.size
  have ra := bpush (Below.refl w8.heap.size w8) (.cells #[.slice none 0 0, .slice none 0 0] 36)
  have HBk := hid (bpush HB8.out (.cells #[.slice none 0 0, .slice none 0 0] 36))
  have HR3k := hid (HR3_8.out.below ra)
  have HR4k := hid (HR4_8.out.below ra)
  have HR5k := hid (HR5_8.out.below ra)
  refine (take_late w8.heap.size _ _ (.slice a3 n3 c3) [] Y1 w.heap.size _ (Late.new w8 w.heap.size hbk) HR3k.out D1.out.1 (by have := D1.out.2; omega) (by simp) (fun b hb => ⟨by have := HI3.out b hb; omega, by have := HI3.out b hb; omega, by simp⟩)).mono ?_
  rintro e wb ⟨rfl, Lb, Vb, lb, kb, bb⟩
  have HLb := hid lb
  have HBb := hid (HBk.out.trans bb)
  have HR4b := hid (HR4k.out.low kb (fun b hb => by have := HI4.out b hb; omega))
  have HR5b := hid (HR5k.out.low kb (fun b hb => by have := HI5.out b hb; omega))
  clear lb bb kb ra HR3k HR4k HR5k HBk
  generalize w8.heap.size = gk at *
  go_wp2_with fail
  refine (take_late gk Lb Vb (.slice a4 n4 c4) _ Y2 w.heap.size wb HLb.out HR4b.out D2.out.1 (by have := D2.out.2; omega) (by simp) (fun b hb => ⟨by have := HI4.out b hb; omega, by have := HI4.out b hb; omega, fun p hp e => by
    simp at hp
    subst hp
    have h1 := HI4.out b hb
    have h2 := HI3.out b e
    omega⟩)).mono ?_
  rintro e wd ⟨rfl, Ld, Vd, ld, kd, bd⟩
  have HLd := hid ld
  have HBd := hid (HBb.out.trans bd)
  have HR5d := hid (HR5b.out.low kd (fun b hb => by have := HI5.out b hb; omega))
  clear ld bd kd HR4b HR5b HBb HLb
  go_wp2_with fail
  refine (take_late gk Ld Vd (.slice a5 n5 c5) _ Y1 w.heap.size wd HLd.out HR5d.out D1.out.1 (by have := D1.out.2; omega) (by simp) (fun b hb => ⟨by have := HI5.out b hb; omega, by have := HI5.out b hb; omega, fun p hp e => by
    have h1 := HI5.out b hb
    simp at hp
    rcases hp with hp | hp
    · subst hp
      have h2 := HI3.out b e
      omega
    · subst hp
      have h2 := HI4.out b e
      omega⟩)).mono ?_
  rintro e we ⟨rfl, Le, Ve, le, ke, be⟩
  have HLe := hid le
  have HBe := hid (HBd.out.trans be)
  clear le be ke HR5d HBd HLd
  go_wp2_with fail
  refine (owned_late gk Le Ve _ w.heap.size we HLe.out).mono ?_
  rintro e wf ⟨rfl, bf, _⟩
  have HBf := hid (HBe.out.trans bf)
  clear bf HBe HLe
  go_wp2
  go_ret
  exact ⟨rfl, HBf.out⟩
end Go.Proofs.Ythmfappindbjnaa
