/-
  The walk of the statement IcmpDecodes. Written by mkic.py.
-/
import Derived.Test.YthmfappindbjnaaIcRefG
import Derived.Test.YthmfappindbjnaaIcEnsW
namespace Go.Proofs.Ythmfappindbjnaa
open Go.RowKit
set_option linter.all false

theorem decD_bd (zs : List Int) (hz : ∀ z, z ∈ zs → 0 ≤ z ∧ z ≤ 255) (hl : zs.length ≤ 140737488351232) : (∀ z, z ∈ decD zs → 0 ≤ z ∧ z ≤ 255) ∧ (decD zs).length ≤ 140737488351232 := by
  unfold decD
  split
  · exact ⟨fun z h => hz z (List.mem_of_mem_drop h), by simp; omega⟩
  · simp
set_option maxRecDepth 20000 in
set_option maxHeartbeats 4000000 in
theorem icmpDecodes_walk (pt qt : Part) (w : World) (ho : pt.ok w) (hz : pt.zs.length ≤ 140737488351232) (hqo : qt.ok w) (hqz : qt.zs.length ≤ 140737488351232) :
    Calls Try.prog 5 #[pt.val, qt.val] w fun e w' => e = .returned (.bool true) ∧ Below w.heap.size w w' := by
  have R1 : Hid (∀ w', Below w.heap.size w w' → _) := fun w' hb => refDecode_u pt w' (Part.ok_below ho hb)
  have R2 : Hid (∀ w', Below w.heap.size w w' → _) := fun w' hb => refDecode_u qt w' (Part.ok_below hqo hb)
  have L1 : Hid (∀ w', Below w.heap.size w w' → _) := fun w' hb => lent_any pt w' (Part.ok_below ho hb) hz
  have E1 : Hid (∀ (g : Nat) (w' : World), w'.heap[g]? = some (.cells (L2 pt.zs) 5 (0, 0)) → _) := fun g w' hg => decode_u ⟨some ⟨g, 0, none⟩, pt.zs.length + 2, pt.zs⟩ w' (lent_part ho.1 hg)
  have E2 : Hid (∀ w', Below w.heap.size w w' → _) := fun w' hb => decode_u qt w' (Part.ok_below hqo hb)
  have S1 : Hid (∀ (g : Nat) (w' : World), Below w.heap.size w w' → w'.heap[g]? = some (.cells (L2 pt.zs) 5 (0, 0)) → _) := fun g w' hb hg => asLent_any g pt w' (Part.ok_below ho hb) hz hg
  have D1 := hid (decD_bd pt.zs ho.1 hz)
  have D2 := hid (decD_bd qt.zs hqo.1 hqz)
  have M1 : Hid (∀ (a1 a2 : Option Addr) (n1 c1 n2 c2 : Nat) (w' : World), Row w' 5 (.slice a1 n1 c1) (u8s (decD pt.zs)) → Row w' 5 (.slice a2 n2 c2) (u8s (decD pt.zs)) → Calls Try.prog 18 #[.agg #[.int .i64 (decK pt.zs), .int .i64 (decC pt.zs), .int .u32 (decR pt.zs), .slice a1 n1 c1], .agg #[.int .i64 (decK pt.zs), .int .i64 (decC pt.zs), .int .u32 (decR pt.zs), .slice a2 n2 c2]] w' fun e w'' => e = .returned (.bool true) ∧ Below w'.heap.size w' w'') := fun a1 a2 n1 c1 n2 c2 w' h1 h2 => same_rows _ _ _ _ D1.out.1 a1 a2 n1 c1 n2 c2 w' h1 h2
  have M2 : Hid (∀ (a1 a2 : Option Addr) (n1 c1 n2 c2 : Nat) (w' : World), Row w' 5 (.slice a1 n1 c1) (u8s (decD qt.zs)) → Row w' 5 (.slice a2 n2 c2) (u8s (decD qt.zs)) → Calls Try.prog 18 #[.agg #[.int .i64 (decK qt.zs), .int .i64 (decC qt.zs), .int .u32 (decR qt.zs), .slice a1 n1 c1], .agg #[.int .i64 (decK qt.zs), .int .i64 (decC qt.zs), .int .u32 (decR qt.zs), .slice a2 n2 c2]] w' fun e w'' => e = .returned (.bool true) ∧ Below w'.heap.size w' w'') := fun a1 a2 n1 c1 n2 c2 w' h1 h2 => same_rows _ _ _ _ D2.out.1 a1 a2 n1 c1 n2 c2 w' h1 h2
  clear ho hqo
  obtain ⟨xa, xc, ps⟩ := pt
  obtain ⟨ya, yc, qs⟩ := qt
  simp only [Part.val] at *
  generalize decD ps = Y1 at *
  generalize decD qs = Y2 at *
  generalize decK ps = K1 at *
  generalize decC ps = C1 at *
  generalize decR ps = U1 at *
  generalize decK qs = K2 at *
  generalize decC qs = C2 at *
  generalize decR qs = U2 at *
  generalize decE ps = E at *
  generalize decE qs = F at *
  generalize L2 ps = LX at *
  generalize ps.length = xl at *
  generalize qs.length = yl at *
  go_enter Try.func5, Try.ntmps5
  go_wp2_with fail
  refine (live_any _).mono ?_
  rintro e w1 ⟨rfl, hb1⟩
  have HH1 := hid (Holds.nil w1)
  have HB1 := hid hb1
  have z01 : w.heap.size ≤ w1.heap.size := hb1.size
  clear hb1
  go_wp2_with fail
  refine (L1.out _ HB1.out).mono ?_
  rintro e w2 ⟨rfl, hw⟩
  have hb : Below w1.heap.size w1 w2 := by rw [hw]; exact bpush (Below.refl _ _) _
  have HL : Hid (w2.heap[w1.heap.size]? = some (.cells LX 5)) := by rw [hw]; exact heap_new _ _
  have HH2 := hid ((HH1.out.below hb).cons HL.out)
  have HB2 := hid (bstep HB1.out hb)
  have z12 : w1.heap.size + 1 ≤ w2.heap.size := by rw [hw]; simp
  clear hw hb HL HH1 HB1
  generalize w1.heap.size = gl at *
  go_wp2_with fail
  refine (E1.out gl _ (HH2.out.at 0 _ _ rfl)).mono ?_
  rintro e v ⟨a3, n3, c3, rfl, an⟩
  have bb := bpush an.2.2 (.cells #[.int .i64 K1, .int .i64 C1, .int .u32 U1, .slice a3 n3 c3] 26)
  have HL := hid (heap_new v (.cells #[.int .i64 K1, .int .i64 C1, .int .u32 U1, .slice a3 n3 c3] 26))
  have HH3 := hid ((HH2.out.below bb).cons HL.out)
  have HB3 := hid (bstep HB2.out bb)
  have HR3_3 := hid (an.1.below (bpush (Below.refl _ _) (.cells #[.int .i64 K1, .int .i64 C1, .int .u32 U1, .slice a3 n3 c3] 26)))
  have HI3 := hid (ans_lt an)
  have z2g3 : w2.heap.size ≤ v.heap.size := an.2.2.size
  have zg33 : v.heap.size + 1 ≤ (v.alloc (.cells #[.int .i64 K1, .int .i64 C1, .int .u32 U1, .slice a3 n3 c3] 26)).heap.size := by simp
  clear an bb HL HH2 HB2
  go_wp2_with fail
  generalize v.alloc (.cells #[.int .i64 K1, .int .i64 C1, .int .u32 U1, .slice a3 n3 c3] 26) = w3 at *
  generalize v.heap.size = g3 at *
  clear v
  refine (E2.out _ HB3.out).mono ?_
  rintro e v ⟨a4, n4, c4, rfl, an⟩
  have bb := bpush an.2.2 (.cells #[.int .i64 K2, .int .i64 C2, .int .u32 U2, .slice a4 n4 c4] 26)
  have HL := hid (heap_new v (.cells #[.int .i64 K2, .int .i64 C2, .int .u32 U2, .slice a4 n4 c4] 26))
  have HH4 := hid ((HH3.out.below bb).cons HL.out)
  have HB4 := hid (bstep HB3.out bb)
  have HR3_4 := hid (HR3_3.out.below bb)
  have HR4_4 := hid (an.1.below (bpush (Below.refl _ _) (.cells #[.int .i64 K2, .int .i64 C2, .int .u32 U2, .slice a4 n4 c4] 26)))
  have HI4 := hid (ans_lt an)
  have z3g4 : w3.heap.size ≤ v.heap.size := an.2.2.size
  have zg44 : v.heap.size + 1 ≤ (v.alloc (.cells #[.int .i64 K2, .int .i64 C2, .int .u32 U2, .slice a4 n4 c4] 26)).heap.size := by simp
  clear an bb HL HH3 HB3 HR3_3
  go_wp2_with fail
  generalize v.alloc (.cells #[.int .i64 K2, .int .i64 C2, .int .u32 U2, .slice a4 n4 c4] 26) = w4 at *
  generalize v.heap.size = g4 at *
  clear v
  refine (E1.out gl _ (HH4.out.at 2 _ _ rfl)).mono ?_
  rintro e v ⟨a5, n5, c5, rfl, an⟩
  have bb := bpush an.2.2 (.cells #[.int .i64 K1, .int .i64 C1, .int .u32 U1, .slice a5 n5 c5] 26)
  have HL := hid (heap_new v (.cells #[.int .i64 K1, .int .i64 C1, .int .u32 U1, .slice a5 n5 c5] 26))
  have HH5 := hid ((HH4.out.below bb).cons HL.out)
  have HB5 := hid (bstep HB4.out bb)
  have HR3_5 := hid (HR3_4.out.below bb)
  have HR4_5 := hid (HR4_4.out.below bb)
  have HR5_5 := hid (an.1.below (bpush (Below.refl _ _) (.cells #[.int .i64 K1, .int .i64 C1, .int .u32 U1, .slice a5 n5 c5] 26)))
  have HI5 := hid (ans_lt an)
  have z4g5 : w4.heap.size ≤ v.heap.size := an.2.2.size
  have zg55 : v.heap.size + 1 ≤ (v.alloc (.cells #[.int .i64 K1, .int .i64 C1, .int .u32 U1, .slice a5 n5 c5] 26)).heap.size := by simp
  clear an bb HL HH4 HB4 HR3_4 HR4_4
  go_wp2_with fail
  generalize v.alloc (.cells #[.int .i64 K1, .int .i64 C1, .int .u32 U1, .slice a5 n5 c5] 26) = w5 at *
  generalize v.heap.size = g5 at *
  clear v
  refine (S1.out gl _ HB5.out (HH5.out.at 3 _ _ rfl)).mono ?_
  rintro e w6 ⟨rfl, bt⟩
  have HH6 := hid ((((Holds.nil _).cons (keptBut (HH5.out.at 2 _ _ rfl) bt (by omega))).cons (keptBut (HH5.out.at 1 _ _ rfl) bt (by omega))).cons (keptBut (HH5.out.at 0 _ _ rfl) bt (by omega)))
  have HB6 := hid (bbut HB5.out bt (by omega))
  have HR3_6 := hid (HR3_5.out.but bt (fun b hb => by have := HI3.out b hb; omega))
  have HR4_6 := hid (HR4_5.out.but bt (fun b hb => by have := HI4.out b hb; omega))
  have HR5_6 := hid (HR5_5.out.but bt (fun b hb => by have := HI5.out b hb; omega))
  have z56 : w5.heap.size ≤ w6.heap.size := bt.size
  clear bt HH5 HB5 HR3_5 HR4_5 HR5_5
  go_wp2_with fail
  refine (R1.out _ HB6.out).mono ?_
  rintro e v ⟨a1, n1, c1, rfl, an⟩
  have bb := bpush an.2.2 (.cells #[.int .i64 K1, .int .i64 C1, .int .u32 U1, .slice a1 n1 c1] 26)
  have HL := hid (heap_new v (.cells #[.int .i64 K1, .int .i64 C1, .int .u32 U1, .slice a1 n1 c1] 26))
  have HH7 := hid ((HH6.out.below bb).cons HL.out)
  have HB7 := hid (bstep HB6.out bb)
  have HR3_7 := hid (HR3_6.out.below bb)
  have HR4_7 := hid (HR4_6.out.below bb)
  have HR5_7 := hid (HR5_6.out.below bb)
  have HR1_7 := hid (an.1.below (bpush (Below.refl _ _) (.cells #[.int .i64 K1, .int .i64 C1, .int .u32 U1, .slice a1 n1 c1] 26)))
  have HI1 := hid (ans_lt an)
  have z6g1 : w6.heap.size ≤ v.heap.size := an.2.2.size
  have zg17 : v.heap.size + 1 ≤ (v.alloc (.cells #[.int .i64 K1, .int .i64 C1, .int .u32 U1, .slice a1 n1 c1] 26)).heap.size := by simp
  clear an bb HL HH6 HB6 HR3_6 HR4_6 HR5_6
  go_wp2_with fail
  generalize v.alloc (.cells #[.int .i64 K1, .int .i64 C1, .int .u32 U1, .slice a1 n1 c1] 26) = w7 at *
  generalize v.heap.size = g1 at *
  clear v
  refine (R2.out _ HB7.out).mono ?_
  rintro e v ⟨a2, n2, c2, rfl, an⟩
  have bb := bpush an.2.2 (.cells #[.int .i64 K2, .int .i64 C2, .int .u32 U2, .slice a2 n2 c2] 26)
  have HL := hid (heap_new v (.cells #[.int .i64 K2, .int .i64 C2, .int .u32 U2, .slice a2 n2 c2] 26))
  have cl0 : ∀ q, v.cell? ⟨g3, q, none⟩ = (#[.int .i64 K1, .int .i64 C1, .int .u32 U1, .slice a3 n3 c3] : Array Value)[q]? := fun q => cell_of_heap (kept (HH7.out.at 3 _ _ rfl) an.2.2) q
  have hl0 : g3 < v.heap.size := heap_lt (kept (HH7.out.at 3 _ _ rfl) an.2.2)
  have cl1 : ∀ q, v.cell? ⟨g1, q, none⟩ = (#[.int .i64 K1, .int .i64 C1, .int .u32 U1, .slice a1 n1 c1] : Array Value)[q]? := fun q => cell_of_heap (kept (HH7.out.at 0 _ _ rfl) an.2.2) q
  have hl1 : g1 < v.heap.size := heap_lt (kept (HH7.out.at 0 _ _ rfl) an.2.2)
  have HH8 := hid ((HH7.out.below bb).cons HL.out)
  have HB8 := hid (bstep HB7.out bb)
  have HR3_8 := hid (HR3_7.out.below bb)
  have HR4_8 := hid (HR4_7.out.below bb)
  have HR5_8 := hid (HR5_7.out.below bb)
  have HR1_8 := hid (HR1_7.out.below bb)
  have HR2_8 := hid (an.1.below (bpush (Below.refl _ _) (.cells #[.int .i64 K2, .int .i64 C2, .int .u32 U2, .slice a2 n2 c2] 26)))
  have HI2 := hid (ans_lt an)
  have z7g2 : w7.heap.size ≤ v.heap.size := an.2.2.size
  have zg28 : v.heap.size + 1 ≤ (v.alloc (.cells #[.int .i64 K2, .int .i64 C2, .int .u32 U2, .slice a2 n2 c2] 26)).heap.size := by simp
  clear an bb HL HH7 HB7 HR3_7 HR4_7 HR5_7 HR1_7
  go_wp2_with fail
  clear cl0 hl0 cl1 hl1
  generalize v.alloc (.cells #[.int .i64 K2, .int .i64 C2, .int .u32 U2, .slice a2 n2 c2] 26) = w8 at *
  generalize v.heap.size = g2 at *
  clear v
  refine (M1.out _ _ _ _ _ _ _ HR3_8.out HR1_8.out).mono ?_
  rintro e w9 ⟨rfl, bs⟩
  have HH9 := hid (HH8.out.below bs)
  have HB9 := hid (bstep HB8.out bs)
  have HR3_9 := hid (HR3_8.out.below bs)
  have HR4_9 := hid (HR4_8.out.below bs)
  have HR5_9 := hid (HR5_8.out.below bs)
  have HR1_9 := hid (HR1_8.out.below bs)
  have HR2_9 := hid (HR2_8.out.below bs)
  have z89 : w8.heap.size ≤ w9.heap.size := bs.size
  clear bs HH8 HB8 HR3_8 HR4_8 HR5_8 HR1_8 HR2_8
  have cc : ∀ q, w9.cell? ⟨g4, q, none⟩ = (#[.int .i64 K2, .int .i64 C2, .int .u32 U2, .slice a4 n4 c4] : Array Value)[q]? := fun q => cell_of_heap (HH9.out.at 3 _ _ rfl) q
  have cd : ∀ q, w9.cell? ⟨g2, q, none⟩ = (#[.int .i64 K2, .int .i64 C2, .int .u32 U2, .slice a2 n2 c2] : Array Value)[q]? := fun q => cell_of_heap (HH9.out.at 0 _ _ rfl) q
  go_wp2_with fail
  clear cc cd
  refine (M2.out _ _ _ _ _ _ _ HR4_9.out HR2_9.out).mono ?_
  rintro e w10 ⟨rfl, bs⟩
  have HH10 := hid (HH9.out.below bs)
  have HB10 := hid (bstep HB9.out bs)
  have HR3_10 := hid (HR3_9.out.below bs)
  have HR4_10 := hid (HR4_9.out.below bs)
  have HR5_10 := hid (HR5_9.out.below bs)
  have HR1_10 := hid (HR1_9.out.below bs)
  have HR2_10 := hid (HR2_9.out.below bs)
  have z910 : w9.heap.size ≤ w10.heap.size := bs.size
  clear bs HH9 HB9 HR3_9 HR4_9 HR5_9 HR1_9 HR2_9
  have cc : ∀ q, w10.cell? ⟨g5, q, none⟩ = (#[.int .i64 K1, .int .i64 C1, .int .u32 U1, .slice a5 n5 c5] : Array Value)[q]? := fun q => cell_of_heap (HH10.out.at 2 _ _ rfl) q
  have cd : ∀ q, w10.cell? ⟨g1, q, none⟩ = (#[.int .i64 K1, .int .i64 C1, .int .u32 U1, .slice a1 n1 c1] : Array Value)[q]? := fun q => cell_of_heap (HH10.out.at 1 _ _ rfl) q
  go_wp2_with fail
  clear cc cd
  refine (M1.out _ _ _ _ _ _ _ HR5_10.out HR1_10.out).mono ?_
  rintro e w11 ⟨rfl, bs⟩
  have HH11 := hid (HH10.out.below bs)
  have HB11 := hid (bstep HB10.out bs)
  have HR3_11 := hid (HR3_10.out.below bs)
  have HR4_11 := hid (HR4_10.out.below bs)
  have HR5_11 := hid (HR5_10.out.below bs)
  have HR1_11 := hid (HR1_10.out.below bs)
  have HR2_11 := hid (HR2_10.out.below bs)
  have z1011 : w10.heap.size ≤ w11.heap.size := bs.size
  clear bs HH10 HB10 HR3_10 HR4_10 HR5_10 HR1_10 HR2_10
  have hE : (E != E) = false := by simp
  have hF : (F != F) = false := by simp
  have B3 : w11.heap[g3]? = some (.cells #[.int .i64 K1, .int .i64 C1, .int .u32 U1, .slice a3 n3 c3] 26) := HH11.out.at 4 _ _ rfl
  have B4 : w11.heap[g4]? = some (.cells #[.int .i64 K2, .int .i64 C2, .int .u32 U2, .slice a4 n4 c4] 26) := HH11.out.at 3 _ _ rfl
  have B5 : w11.heap[g5]? = some (.cells #[.int .i64 K1, .int .i64 C1, .int .u32 U1, .slice a5 n5 c5] 26) := HH11.out.at 2 _ _ rfl
  have hbk : w.heap.size ≤ w11.heap.size := HB11.out.size
  have ra := bpush (Below.refl w11.heap.size w11) (.cells #[.slice none 0 0, .slice none 0 0] 36)
  have HBk := hid (bpush HB11.out (.cells #[.slice none 0 0, .slice none 0 0] 36))
  have HR3k := hid (HR3_11.out.below ra)
  have HR4k := hid (HR4_11.out.below ra)
  have HR5k := hid (HR5_11.out.below ra)
  have HX3 := hid (kept B3 ra)
  have HX4 := hid (kept B4 ra)
  have HX5 := hid (kept B5 ra)
  have q3 : w11.cell? ⟨g3, 3, none⟩ = some (.slice a3 n3 c3) := cell_of_heap B3 3
  have hlt : g3 < w11.heap.size := heap_lt B3
  clear ra B3 B4 B5
  go_wp2_with fail
  clear q3
  refine (take_late w11.heap.size _ _ (.slice a3 n3 c3) [] Y1 w.heap.size _ (Late.new w11 w.heap.size hbk) HR3k.out D1.out.1 (by have := D1.out.2; omega) (by simp) (fun b hb => ⟨by have := HI3.out b hb; omega, by have := HI3.out b hb; omega, by simp⟩)).mono ?_
  rintro e wb ⟨rfl, Lb, Vb, lb, kb, bb⟩
  have HLb := hid lb
  have HBb := hid (HBk.out.trans bb)
  have HR4b := hid (HR4k.out.low kb (fun b hb => by have := HI4.out b hb; omega))
  have HR5b := hid (HR5k.out.low kb (fun b hb => by have := HI5.out b hb; omega))
  have HX4b := hid ((kb g4 (by omega)).trans HX4.out)
  have HX5b := hid ((kb g5 (by omega)).trans HX5.out)
  clear lb bb kb HR3k HR4k HR5k HBk HX3 HX4 HX5
  generalize w11.heap.size = gk at *
  have q4 : wb.cell? ⟨g4, 3, none⟩ = some (.slice a4 n4 c4) := cell_of_heap HX4b.out 3
  go_wp2_with fail
  clear q4
  refine (take_late gk Lb Vb (.slice a4 n4 c4) _ Y2 w.heap.size wb HLb.out HR4b.out D2.out.1 (by have := D2.out.2; omega) (by simp) (fun b hb => ⟨by have := HI4.out b hb; omega, by have := HI4.out b hb; omega, fun p hp e => by
    simp at hp
    subst hp
    have h1 := HI4.out b hb
    have h2 := HI3.out b e
    omega⟩)).mono ?_
  rintro e wd ⟨rfl, Ld, Vd, ld, kd, bd⟩
  have HLd := hid ld
  have HBd := hid (HBb.out.trans bd)
  have HR5d := hid (HR5b.out.low kd (fun b hb => by have := HI5.out b hb; omega))
  have HX5d := hid ((kd g5 (by omega)).trans HX5b.out)
  clear ld bd kd HR4b HR5b HBb HLb HX4b HX5b
  have q5 : wd.cell? ⟨g5, 3, none⟩ = some (.slice a5 n5 c5) := cell_of_heap HX5d.out 3
  go_wp2_with fail
  clear q5
  refine (take_late gk Ld Vd (.slice a5 n5 c5) _ Y1 w.heap.size wd HLd.out HR5d.out D1.out.1 (by have := D1.out.2; omega) (by simp) (fun b hb => ⟨by have := HI5.out b hb; omega, by have := HI5.out b hb; omega, fun p hp e => by
    have h1 := HI5.out b hb
    simp at hp
    rcases hp with hp | hp
    · subst hp
      have h2 := HI3.out b e
      omega
    · subst hp
      have h2 := HI4.out b e
      omega⟩)).mono ?_
  rintro e we ⟨rfl, Le, Ve, le, ke, be⟩
  have HLe := hid le
  have HBe := hid (HBd.out.trans be)
  clear le be ke HR5d HBd HLd
  go_wp2_with fail
  refine (owned_late gk Le Ve _ w.heap.size we HLe.out).mono ?_
  rintro e wf ⟨rfl, bf, _⟩
  have HBf := hid (HBe.out.trans bf)
  clear bf HBe HLe
  go_wp2
  go_ret
  exact ⟨rfl, HBf.out⟩
end Go.Proofs.Ythmfappindbjnaa
