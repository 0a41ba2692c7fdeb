/-
  The walk of the statement TftpDecodes. Written by mktgde.py.
-/
import Derived.Test.YtdcppiknomoigaaDoorTgDeM
namespace Go.Proofs.YtdcppiknomoigaaDoor
open Go.RowKit
set_option linter.all false

set_option maxRecDepth 20000 in
set_option maxHeartbeats 16000000 in
theorem tftpDecodes_walk (pt qt : Part) (w : World) (hE : Env w) (hx : pt.ok w) (hxl : pt.zs.length ≤ 140737488351232) (hy : qt.ok w) (hyl : qt.zs.length ≤ 140737488351232) :
    Calls Tryd.prog 5 #[pt.val, qt.val] w fun e w' => e = .returned (.bool true) ∧ Below w.heap.size w w' := by
  have LV : Hid (∀ w', Below w.heap.size w w' → Calls Tryd.prog 8 #[] w' fun e w'' => e = .returned (.bool true) ∧ Hid (Below w'.heap.size w' w'')) := fun w' hb => live_any w' (hE.below hb)
  have L1 : Hid (∀ w', Below w.heap.size w w' → _) := fun w' hb => lent_any pt w' (Part.ok_below hx hb) (by omega)
  have D1 : Hid (∀ (gd : Nat) (w' : World), Below w.heap.size w w' → w'.heap[gd]? = some (.cells (L2 pt.zs) 5 (0, 0)) → _) := fun gd w' hb h1 => decode_any ⟨some ⟨gd, 0, none⟩, pt.zs.length + 2, pt.zs⟩ w' (hE.below hb) (lent_part (pt := pt) hx.1 h1) (by simp only; omega)
  have D2 : Hid (∀ w', Below w.heap.size w w' → _) := fun w' hb => decode_any qt w' (hE.below hb) (Part.ok_below hy hb) (by omega)
  have R1 : Hid (∀ w', Below w.heap.size w w' → _) := fun w' hb => refDecode_any pt w' (Part.ok_below hx hb) (by omega)
  have R2 : Hid (∀ w', Below w.heap.size w w' → _) := fun w' hb => refDecode_any qt w' (Part.ok_below hy hb) (by omega)
  have S1 : Hid (∀ (gd : Nat) (w' : World), Below w.heap.size w w' → w'.heap[gd]? = some (.cells (L2 pt.zs) 5 (0, 0)) → _) := fun gd w' hb h1 => asLent_any gd pt w' (Part.ok_below hx hb) (by omega) h1
  have PX := hid (decQ_props pt.zs hx.1)
  have PY := hid (decQ_props qt.zs hy.1)
  clear hE hx hy
  obtain ⟨xa, xc, xs⟩ := pt
  obtain ⟨ya, yc, ys⟩ := qt
  simp only [Part.val] at *
  generalize decQ xs = xq at *
  generalize decQ ys = yq at *
  generalize decE xs = E at *
  generalize decE ys = F at *
  have SX : Hid (∀ w' ca cc da dc ca' cc' da' dc', TpR xq ca da dc w' → TpR xq ca' da' dc' w' → _) := fun w' ca cc da dc ca' cc' da' dc' h1 h2 => same_yes xq ca ca' cc cc' da da' dc dc' w' h1 h2 (by have := PX.out.1; omega)
  have SY : Hid (∀ w' ca cc da dc ca' cc' da' dc', TpR yq ca da dc w' → TpR yq ca' da' dc' w' → _) := fun w' ca cc da dc ca' cc' da' dc' h1 h2 => same_yes yq ca ca' cc cc' da da' dc dc' w' h1 h2 (by have := PY.out.1; omega)
  generalize L2 xs = LD at *
  generalize xs.length = xl at *
  generalize ys.length = yl at *
  obtain ⟨xop, xfl, xmd, xch, xbk, xdl, xcd, xtx⟩ := xq
  obtain ⟨yop, yfl, ymd, ych, ybk, ydl, ycd, ytx⟩ := yq
  simp only [tpC] at *
  have HXN : Hid (∃ n, n = xch.length) := ⟨_, rfl⟩
  obtain ⟨xn, hxn⟩ := HXN.out
  obtain ⟨xm, hxm⟩ : ∃ n, n = xdl.length := ⟨_, rfl⟩
  obtain ⟨yn, hyn⟩ : ∃ n, n = ych.length := ⟨_, rfl⟩
  obtain ⟨ym, hym⟩ : ∃ n, n = ydl.length := ⟨_, rfl⟩
  rw [← hxn, ← hxm] at D1 R1 SX
  rw [← hyn, ← hym] at D2 R2 SY
  have HNX := hid hxn
  have HMX := hid hxm
  have HNY := hid hyn
  have HMY := hid hym
  clear hxn hxm hyn hym HXN
  go_enter Tryd.func5, Tryd.ntmps5
  go_wp2_with fail
  refine (LV.out _ (Below.refl _ _)).mono ?_
  rintro e w1 ⟨rfl, hb1⟩
  have HB1 := hid hb1.out
  have z01 : w.heap.size ≤ w1.heap.size := hb1.out.size
  clear hb1 LV
  go_wp2_with fail
  refine (L1.out _ HB1.out).mono ?_
  rintro e w2 ⟨rfl, hv0⟩
  have hv := hid hv0
  clear hv0
  have HH2 : Hid (Holds w2 [(w1.heap.size, .cells LD 5 (0, 0))]) := by rw [hv.out]; exact (Holds.nil _).cons (heap_new w1 _)
  have HB2 : Hid (Below w.heap.size w w2) := by rw [hv.out]; exact bpush HB1.out _
  have z12 : w1.heap.size < w2.heap.size := heap_lt (HH2.out.at 0 _ _ rfl)
  clear hv HB1
  generalize w1.heap.size = gd at *
  clear w1
  have CD := hid (D1.out gd _ HB2.out (HH2.out.at 0 _ _ rfl))
  go_upto_region 6 with (first
    | (go_at_call 17; refine CD.out.mono ?_; go_loud (rintro e v ⟨ca1, cc1, da1, dc1, rfl, HO⟩))
    | (refine wpList_store_row rfl 26 _ _ rfl v.heap.size #[.int .i64 xop, .string xfl, .string xmd, .slice ca1 xn cc1, .int .i64 xbk, .slice da1 xm dc1, .int .i64 xcd, .string xtx] rfl rfl 26 _ (heap_new v _) (by kernel_rfl) rfl (by first | kernel_rfl | simp [Value.oneCell']) ?_)
    | fail)
  have hsr : ((v.alloc (.cells #[.int .i64 0, .string ⟨#[]⟩, .string ⟨#[]⟩, .slice none 0 0, .int .i64 0, .slice none 0 0, .int .i64 0, .string ⟨#[]⟩] 26)).setRow v.heap.size #[.int .i64 xop, .string xfl, .string xmd, .slice ca1 xn cc1, .int .i64 xbk, .slice da1 xm dc1, .int .i64 xcd, .string xtx]).heap[v.heap.size]? = some (.cells #[.int .i64 xop, .string xfl, .string xmd, .slice ca1 xn cc1, .int .i64 xbk, .slice da1 xm dc1, .int .i64 xcd, .string xtx] 26 (0, 0)) := setRow_heap _ _ _ _ _ _ (heap_new v _)
  have hbb : Below v.heap.size v ((v.alloc (.cells #[.int .i64 0, .string ⟨#[]⟩, .string ⟨#[]⟩, .slice none 0 0, .int .i64 0, .slice none 0 0, .int .i64 0, .string ⟨#[]⟩] 26)).setRow v.heap.size #[.int .i64 xop, .string xfl, .string xmd, .slice ca1 xn cc1, .int .i64 xbk, .slice da1 xm dc1, .int .i64 xcd, .string xtx]) := bbut (bpush (Below.refl _ _) _) (But.setRow _ _ _) (Nat.le_refl _)
  have hbo := HO.out.below
  have HH3 := hid (((HH2.out.below hbo).below hbb).cons hsr)
  have HB3 := hid (bstep (bstep HB2.out hbo) hbb)
  have HT1_3 := hid (HO.out.k.below hbb)
  have z2v1 : w2.heap.size ≤ v.heap.size := hbo.size
  have zv3 : v.heap.size < ((v.alloc (.cells #[.int .i64 0, .string ⟨#[]⟩, .string ⟨#[]⟩, .slice none 0 0, .int .i64 0, .slice none 0 0, .int .i64 0, .string ⟨#[]⟩] 26)).setRow v.heap.size #[.int .i64 xop, .string xfl, .string xmd, .slice ca1 xn cc1, .int .i64 xbk, .slice da1 xm dc1, .int .i64 xcd, .string xtx]).heap.size := heap_lt hsr
  clear CD HO hsr hbb hbo HH2 HB2 
  generalize (v.alloc (.cells #[.int .i64 0, .string ⟨#[]⟩, .string ⟨#[]⟩, .slice none 0 0, .int .i64 0, .slice none 0 0, .int .i64 0, .string ⟨#[]⟩] 26)).setRow v.heap.size #[.int .i64 xop, .string xfl, .string xmd, .slice ca1 xn cc1, .int .i64 xbk, .slice da1 xm dc1, .int .i64 xcd, .string xtx] = w3 at *
  generalize v.heap.size = g1 at *
  clear v
  have CD := hid (D2.out _ HB3.out)
  go_upto_region 7 with (first
    | (go_at_call 17; refine CD.out.mono ?_; go_loud (rintro e v ⟨ca2, cc2, da2, dc2, rfl, HO⟩))
    | (refine wpList_store_row rfl 26 _ _ rfl v.heap.size #[.int .i64 yop, .string yfl, .string ymd, .slice ca2 yn cc2, .int .i64 ybk, .slice da2 ym dc2, .int .i64 ycd, .string ytx] rfl rfl 26 _ (heap_new v _) (by kernel_rfl) rfl (by first | kernel_rfl | simp [Value.oneCell']) ?_)
    | fail)
  have hsr : ((v.alloc (.cells #[.int .i64 0, .string ⟨#[]⟩, .string ⟨#[]⟩, .slice none 0 0, .int .i64 0, .slice none 0 0, .int .i64 0, .string ⟨#[]⟩] 26)).setRow v.heap.size #[.int .i64 yop, .string yfl, .string ymd, .slice ca2 yn cc2, .int .i64 ybk, .slice da2 ym dc2, .int .i64 ycd, .string ytx]).heap[v.heap.size]? = some (.cells #[.int .i64 yop, .string yfl, .string ymd, .slice ca2 yn cc2, .int .i64 ybk, .slice da2 ym dc2, .int .i64 ycd, .string ytx] 26 (0, 0)) := setRow_heap _ _ _ _ _ _ (heap_new v _)
  have hbb : Below v.heap.size v ((v.alloc (.cells #[.int .i64 0, .string ⟨#[]⟩, .string ⟨#[]⟩, .slice none 0 0, .int .i64 0, .slice none 0 0, .int .i64 0, .string ⟨#[]⟩] 26)).setRow v.heap.size #[.int .i64 yop, .string yfl, .string ymd, .slice ca2 yn cc2, .int .i64 ybk, .slice da2 ym dc2, .int .i64 ycd, .string ytx]) := bbut (bpush (Below.refl _ _) _) (But.setRow _ _ _) (Nat.le_refl _)
  have hbo := HO.out.below
  have HH4 := hid (((HH3.out.below hbo).below hbb).cons hsr)
  have HB4 := hid (bstep (bstep HB3.out hbo) hbb)
  have HT1_4 := hid ((HT1_3.out.below hbo).below hbb)
  have HT2_4 := hid (HO.out.k.below hbb)
  have z3v2 : w3.heap.size ≤ v.heap.size := hbo.size
  have zv4 : v.heap.size < ((v.alloc (.cells #[.int .i64 0, .string ⟨#[]⟩, .string ⟨#[]⟩, .slice none 0 0, .int .i64 0, .slice none 0 0, .int .i64 0, .string ⟨#[]⟩] 26)).setRow v.heap.size #[.int .i64 yop, .string yfl, .string ymd, .slice ca2 yn cc2, .int .i64 ybk, .slice da2 ym dc2, .int .i64 ycd, .string ytx]).heap.size := heap_lt hsr
  clear CD HO hsr hbb hbo HH3 HB3 HT1_3
  generalize (v.alloc (.cells #[.int .i64 0, .string ⟨#[]⟩, .string ⟨#[]⟩, .slice none 0 0, .int .i64 0, .slice none 0 0, .int .i64 0, .string ⟨#[]⟩] 26)).setRow v.heap.size #[.int .i64 yop, .string yfl, .string ymd, .slice ca2 yn cc2, .int .i64 ybk, .slice da2 ym dc2, .int .i64 ycd, .string ytx] = w4 at *
  generalize v.heap.size = g2 at *
  clear v
  have CD := hid (D1.out gd _ HB4.out (HH4.out.at 2 _ _ rfl))
  go_upto_region 8 with (first
    | (go_at_call 17; refine CD.out.mono ?_; go_loud (rintro e v ⟨ca3, cc3, da3, dc3, rfl, HO⟩))
    | (refine wpList_store_row rfl 26 _ _ rfl v.heap.size #[.int .i64 xop, .string xfl, .string xmd, .slice ca3 xn cc3, .int .i64 xbk, .slice da3 xm dc3, .int .i64 xcd, .string xtx] rfl rfl 26 _ (heap_new v _) (by kernel_rfl) rfl (by first | kernel_rfl | simp [Value.oneCell']) ?_)
    | fail)
  have hsr : ((v.alloc (.cells #[.int .i64 0, .string ⟨#[]⟩, .string ⟨#[]⟩, .slice none 0 0, .int .i64 0, .slice none 0 0, .int .i64 0, .string ⟨#[]⟩] 26)).setRow v.heap.size #[.int .i64 xop, .string xfl, .string xmd, .slice ca3 xn cc3, .int .i64 xbk, .slice da3 xm dc3, .int .i64 xcd, .string xtx]).heap[v.heap.size]? = some (.cells #[.int .i64 xop, .string xfl, .string xmd, .slice ca3 xn cc3, .int .i64 xbk, .slice da3 xm dc3, .int .i64 xcd, .string xtx] 26 (0, 0)) := setRow_heap _ _ _ _ _ _ (heap_new v _)
  have hbb : Below v.heap.size v ((v.alloc (.cells #[.int .i64 0, .string ⟨#[]⟩, .string ⟨#[]⟩, .slice none 0 0, .int .i64 0, .slice none 0 0, .int .i64 0, .string ⟨#[]⟩] 26)).setRow v.heap.size #[.int .i64 xop, .string xfl, .string xmd, .slice ca3 xn cc3, .int .i64 xbk, .slice da3 xm dc3, .int .i64 xcd, .string xtx]) := bbut (bpush (Below.refl _ _) _) (But.setRow _ _ _) (Nat.le_refl _)
  have hbo := HO.out.below
  have HH5 := hid (((HH4.out.below hbo).below hbb).cons hsr)
  have HB5 := hid (bstep (bstep HB4.out hbo) hbb)
  have HT1_5 := hid ((HT1_4.out.below hbo).below hbb)
  have HT2_5 := hid ((HT2_4.out.below hbo).below hbb)
  have HT3_5 := hid (HO.out.k.below hbb)
  have z4v3 : w4.heap.size ≤ v.heap.size := hbo.size
  have zv5 : v.heap.size < ((v.alloc (.cells #[.int .i64 0, .string ⟨#[]⟩, .string ⟨#[]⟩, .slice none 0 0, .int .i64 0, .slice none 0 0, .int .i64 0, .string ⟨#[]⟩] 26)).setRow v.heap.size #[.int .i64 xop, .string xfl, .string xmd, .slice ca3 xn cc3, .int .i64 xbk, .slice da3 xm dc3, .int .i64 xcd, .string xtx]).heap.size := heap_lt hsr
  clear CD HO hsr hbb hbo HH4 HB4 HT1_4 HT2_4
  generalize (v.alloc (.cells #[.int .i64 0, .string ⟨#[]⟩, .string ⟨#[]⟩, .slice none 0 0, .int .i64 0, .slice none 0 0, .int .i64 0, .string ⟨#[]⟩] 26)).setRow v.heap.size #[.int .i64 xop, .string xfl, .string xmd, .slice ca3 xn cc3, .int .i64 xbk, .slice da3 xm dc3, .int .i64 xcd, .string xtx] = w5 at *
  generalize v.heap.size = g3 at *
  clear v
  go_wp2_with fail
  refine (S1.out gd _ HB5.out (HH5.out.at 3 _ _ rfl)).mono ?_
  rintro e w6 ⟨rfl, bt⟩
  have HH6 := hid ((((Holds.nil _).cons (keptBut (HH5.out.at 2 _ _ rfl) bt (by omega))).cons (keptBut (HH5.out.at 1 _ _ rfl) bt (by omega))).cons (keptBut (HH5.out.at 0 _ _ rfl) bt (by omega)))
  have HB6 := hid (bbut HB5.out bt (by omega))
  have HT1_6 := hid (HT1_5.out.but bt (Or.inl (by omega)))
  have HT2_6 := hid (HT2_5.out.but bt (Or.inl (by omega)))
  have HT3_6 := hid (HT3_5.out.but bt (Or.inl (by omega)))
  have z56 : w5.heap.size ≤ w6.heap.size := bt.size
  clear bt HH5 HB5 HT1_5 HT2_5 HT3_5
  have CD := hid (R1.out _ HB6.out)
  go_upto_region 10 with (first
    | (go_at_call 18; refine CD.out.mono ?_; go_loud (rintro e v ⟨ca4, cc4, da4, dc4, rfl, HO⟩))
    | (refine wpList_store_row rfl 26 _ _ rfl v.heap.size #[.int .i64 xop, .string xfl, .string xmd, .slice ca4 xn cc4, .int .i64 xbk, .slice da4 xm dc4, .int .i64 xcd, .string xtx] rfl rfl 26 _ (heap_new v _) (by kernel_rfl) rfl (by first | kernel_rfl | simp [Value.oneCell']) ?_)
    | fail)
  have hsr : ((v.alloc (.cells #[.int .i64 0, .string ⟨#[]⟩, .string ⟨#[]⟩, .slice none 0 0, .int .i64 0, .slice none 0 0, .int .i64 0, .string ⟨#[]⟩] 26)).setRow v.heap.size #[.int .i64 xop, .string xfl, .string xmd, .slice ca4 xn cc4, .int .i64 xbk, .slice da4 xm dc4, .int .i64 xcd, .string xtx]).heap[v.heap.size]? = some (.cells #[.int .i64 xop, .string xfl, .string xmd, .slice ca4 xn cc4, .int .i64 xbk, .slice da4 xm dc4, .int .i64 xcd, .string xtx] 26 (0, 0)) := setRow_heap _ _ _ _ _ _ (heap_new v _)
  have hbb : Below v.heap.size v ((v.alloc (.cells #[.int .i64 0, .string ⟨#[]⟩, .string ⟨#[]⟩, .slice none 0 0, .int .i64 0, .slice none 0 0, .int .i64 0, .string ⟨#[]⟩] 26)).setRow v.heap.size #[.int .i64 xop, .string xfl, .string xmd, .slice ca4 xn cc4, .int .i64 xbk, .slice da4 xm dc4, .int .i64 xcd, .string xtx]) := bbut (bpush (Below.refl _ _) _) (But.setRow _ _ _) (Nat.le_refl _)
  have hbo := HO.out.below
  have HH7 := hid (((HH6.out.below hbo).below hbb).cons hsr)
  have HB7 := hid (bstep (bstep HB6.out hbo) hbb)
  have HT1_7 := hid ((HT1_6.out.below hbo).below hbb)
  have HT2_7 := hid ((HT2_6.out.below hbo).below hbb)
  have HT3_7 := hid ((HT3_6.out.below hbo).below hbb)
  have HT4_7 := hid (HO.out.k.below hbb)
  have z6v4 : w6.heap.size ≤ v.heap.size := hbo.size
  have zv7 : v.heap.size < ((v.alloc (.cells #[.int .i64 0, .string ⟨#[]⟩, .string ⟨#[]⟩, .slice none 0 0, .int .i64 0, .slice none 0 0, .int .i64 0, .string ⟨#[]⟩] 26)).setRow v.heap.size #[.int .i64 xop, .string xfl, .string xmd, .slice ca4 xn cc4, .int .i64 xbk, .slice da4 xm dc4, .int .i64 xcd, .string xtx]).heap.size := heap_lt hsr
  clear CD HO hsr hbb hbo HH6 HB6 HT1_6 HT2_6 HT3_6
  generalize (v.alloc (.cells #[.int .i64 0, .string ⟨#[]⟩, .string ⟨#[]⟩, .slice none 0 0, .int .i64 0, .slice none 0 0, .int .i64 0, .string ⟨#[]⟩] 26)).setRow v.heap.size #[.int .i64 xop, .string xfl, .string xmd, .slice ca4 xn cc4, .int .i64 xbk, .slice da4 xm dc4, .int .i64 xcd, .string xtx] = w7 at *
  generalize v.heap.size = g4 at *
  clear v
  have CD := hid (R2.out _ HB7.out)
  go_upto_region 11 with (first
    | (go_at_call 18; refine CD.out.mono ?_; go_loud (rintro e v ⟨ca5, cc5, da5, dc5, rfl, HO⟩))
    | (refine wpList_store_row rfl 26 _ _ rfl v.heap.size #[.int .i64 yop, .string yfl, .string ymd, .slice ca5 yn cc5, .int .i64 ybk, .slice da5 ym dc5, .int .i64 ycd, .string ytx] rfl rfl 26 _ (heap_new v _) (by kernel_rfl) rfl (by first | kernel_rfl | simp [Value.oneCell']) ?_)
    | fail)
  have hsr : ((v.alloc (.cells #[.int .i64 0, .string ⟨#[]⟩, .string ⟨#[]⟩, .slice none 0 0, .int .i64 0, .slice none 0 0, .int .i64 0, .string ⟨#[]⟩] 26)).setRow v.heap.size #[.int .i64 yop, .string yfl, .string ymd, .slice ca5 yn cc5, .int .i64 ybk, .slice da5 ym dc5, .int .i64 ycd, .string ytx]).heap[v.heap.size]? = some (.cells #[.int .i64 yop, .string yfl, .string ymd, .slice ca5 yn cc5, .int .i64 ybk, .slice da5 ym dc5, .int .i64 ycd, .string ytx] 26 (0, 0)) := setRow_heap _ _ _ _ _ _ (heap_new v _)
  have hbb : Below v.heap.size v ((v.alloc (.cells #[.int .i64 0, .string ⟨#[]⟩, .string ⟨#[]⟩, .slice none 0 0, .int .i64 0, .slice none 0 0, .int .i64 0, .string ⟨#[]⟩] 26)).setRow v.heap.size #[.int .i64 yop, .string yfl, .string ymd, .slice ca5 yn cc5, .int .i64 ybk, .slice da5 ym dc5, .int .i64 ycd, .string ytx]) := bbut (bpush (Below.refl _ _) _) (But.setRow _ _ _) (Nat.le_refl _)
  have hbo := HO.out.below
  have HH8 := hid (((HH7.out.below hbo).below hbb).cons hsr)
  have HB8 := hid (bstep (bstep HB7.out hbo) hbb)
  have HT1_8 := hid ((HT1_7.out.below hbo).below hbb)
  have HT2_8 := hid ((HT2_7.out.below hbo).below hbb)
  have HT3_8 := hid ((HT3_7.out.below hbo).below hbb)
  have HT4_8 := hid ((HT4_7.out.below hbo).below hbb)
  have HT5_8 := hid (HO.out.k.below hbb)
  have z7v5 : w7.heap.size ≤ v.heap.size := hbo.size
  have zv8 : v.heap.size < ((v.alloc (.cells #[.int .i64 0, .string ⟨#[]⟩, .string ⟨#[]⟩, .slice none 0 0, .int .i64 0, .slice none 0 0, .int .i64 0, .string ⟨#[]⟩] 26)).setRow v.heap.size #[.int .i64 yop, .string yfl, .string ymd, .slice ca5 yn cc5, .int .i64 ybk, .slice da5 ym dc5, .int .i64 ycd, .string ytx]).heap.size := heap_lt hsr
  clear CD HO hsr hbb hbo HH7 HB7 HT1_7 HT2_7 HT3_7 HT4_7
  generalize (v.alloc (.cells #[.int .i64 0, .string ⟨#[]⟩, .string ⟨#[]⟩, .slice none 0 0, .int .i64 0, .slice none 0 0, .int .i64 0, .string ⟨#[]⟩] 26)).setRow v.heap.size #[.int .i64 yop, .string yfl, .string ymd, .slice ca5 yn cc5, .int .i64 ybk, .slice da5 ym dc5, .int .i64 ycd, .string ytx] = w8 at *
  generalize v.heap.size = g5 at *
  clear v
  have cca : ∀ q, w8.cell? ⟨g1, q, none⟩ = (#[.int .i64 xop, .string xfl, .string xmd, .slice ca1 xn cc1, .int .i64 xbk, .slice da1 xm dc1, .int .i64 xcd, .string xtx] : Array Value)[q]? := fun q => cell_of_heap (HH8.out.at 4 _ _ rfl) q
  have ccb : ∀ q, w8.cell? ⟨g4, q, none⟩ = (#[.int .i64 xop, .string xfl, .string xmd, .slice ca4 xn cc4, .int .i64 xbk, .slice da4 xm dc4, .int .i64 xcd, .string xtx] : Array Value)[q]? := fun q => cell_of_heap (HH8.out.at 1 _ _ rfl) q
  go_wp2_with fail
  clear cca ccb
  refine (SX.out _ ca1 cc1 da1 dc1 ca4 cc4 da4 dc4 (HT1_8.out.r PX.out.2.2) (HT4_8.out.r PX.out.2.2)).mono ?_
  rintro e w9 ⟨rfl, hb⟩
  have HH9 := hid (HH8.out.below hb.out)
  have HB9 := hid (bstep HB8.out hb.out)
  have HT1_9 := hid (HT1_8.out.below hb.out)
  have HT2_9 := hid (HT2_8.out.below hb.out)
  have HT3_9 := hid (HT3_8.out.below hb.out)
  have HT4_9 := hid (HT4_8.out.below hb.out)
  have HT5_9 := hid (HT5_8.out.below hb.out)
  have z89 : w8.heap.size ≤ w9.heap.size := hb.out.size
  clear hb HH8 HB8 HT1_8 HT2_8 HT3_8 HT4_8 HT5_8
  have cca : ∀ q, w9.cell? ⟨g2, q, none⟩ = (#[.int .i64 yop, .string yfl, .string ymd, .slice ca2 yn cc2, .int .i64 ybk, .slice da2 ym dc2, .int .i64 ycd, .string ytx] : Array Value)[q]? := fun q => cell_of_heap (HH9.out.at 3 _ _ rfl) q
  have ccb : ∀ q, w9.cell? ⟨g5, q, none⟩ = (#[.int .i64 yop, .string yfl, .string ymd, .slice ca5 yn cc5, .int .i64 ybk, .slice da5 ym dc5, .int .i64 ycd, .string ytx] : Array Value)[q]? := fun q => cell_of_heap (HH9.out.at 0 _ _ rfl) q
  go_wp2_with fail
  clear cca ccb
  refine (SY.out _ ca2 cc2 da2 dc2 ca5 cc5 da5 dc5 (HT2_9.out.r PY.out.2.2) (HT5_9.out.r PY.out.2.2)).mono ?_
  rintro e w10 ⟨rfl, hb⟩
  have HH10 := hid (HH9.out.below hb.out)
  have HB10 := hid (bstep HB9.out hb.out)
  have HT1_10 := hid (HT1_9.out.below hb.out)
  have HT2_10 := hid (HT2_9.out.below hb.out)
  have HT3_10 := hid (HT3_9.out.below hb.out)
  have HT4_10 := hid (HT4_9.out.below hb.out)
  have HT5_10 := hid (HT5_9.out.below hb.out)
  have z910 : w9.heap.size ≤ w10.heap.size := hb.out.size
  clear hb HH9 HB9 HT1_9 HT2_9 HT3_9 HT4_9 HT5_9
  have cca : ∀ q, w10.cell? ⟨g3, q, none⟩ = (#[.int .i64 xop, .string xfl, .string xmd, .slice ca3 xn cc3, .int .i64 xbk, .slice da3 xm dc3, .int .i64 xcd, .string xtx] : Array Value)[q]? := fun q => cell_of_heap (HH10.out.at 2 _ _ rfl) q
  have ccb : ∀ q, w10.cell? ⟨g4, q, none⟩ = (#[.int .i64 xop, .string xfl, .string xmd, .slice ca4 xn cc4, .int .i64 xbk, .slice da4 xm dc4, .int .i64 xcd, .string xtx] : Array Value)[q]? := fun q => cell_of_heap (HH10.out.at 1 _ _ rfl) q
  go_wp2_with fail
  clear cca ccb
  refine (SX.out _ ca3 cc3 da3 dc3 ca4 cc4 da4 dc4 (HT3_10.out.r PX.out.2.2) (HT4_10.out.r PX.out.2.2)).mono ?_
  rintro e w11 ⟨rfl, hb⟩
  have HH11 := hid (HH10.out.below hb.out)
  have HB11 := hid (bstep HB10.out hb.out)
  have HT1_11 := hid (HT1_10.out.below hb.out)
  have HT2_11 := hid (HT2_10.out.below hb.out)
  have HT3_11 := hid (HT3_10.out.below hb.out)
  have HT4_11 := hid (HT4_10.out.below hb.out)
  have HT5_11 := hid (HT5_10.out.below hb.out)
  have z1011 : w10.heap.size ≤ w11.heap.size := hb.out.size
  clear hb HH10 HB10 HT1_10 HT2_10 HT3_10 HT4_10 HT5_10
  have hE : (E != E) = false := by simp
  have hF : (F != F) = false := by simp
  go_upto_region 17 with fail
  have hbk : w.heap.size ≤ w11.heap.size := HB11.out.size
  have ra := bpush (Below.refl w11.heap.size w11) (.cells #[.slice none 0 0, .slice none 0 0] 38)
  have HBk := hid (bpush HB11.out (.cells #[.slice none 0 0, .slice none 0 0] 38))
  have HX1 := hid ((HH11.out.below ra).at 4 _ _ rfl)
  have HX2 := hid ((HH11.out.below ra).at 3 _ _ rfl)
  have HX3 := hid ((HH11.out.below ra).at 2 _ _ rfl)
  have HT1a := hid (HT1_11.out.below ra)
  have HT2a := hid (HT2_11.out.below ra)
  have HT3a := hid (HT3_11.out.below ra)
  have HLa := hid (Late.new w11 w.heap.size hbk)
  have lt1 : g1 < w11.heap.size := heap_lt (HH11.out.at 4 _ _ rfl)
  have lt2 : g2 < w11.heap.size := heap_lt (HH11.out.at 3 _ _ rfl)
  have lt3 : g3 < w11.heap.size := heap_lt (HH11.out.at 2 _ _ rfl)
  clear ra hE hF HH11 HB11 HT1_11 HT2_11 HT3_11 HT4_11 HT5_11
  have cc1 : (w11.alloc (.cells #[.slice none 0 0, .slice none 0 0] 38)).cell? ⟨g1, 5, none⟩ = some (.slice da1 xm dc1) := cell_of_heap HX1.out 5
  generalize w11.alloc (.cells #[.slice none 0 0, .slice none 0 0] 38) = wA at *
  generalize w11.heap.size = gk at *
  go_wp2_with fail
  clear cc1
  refine (take_late gk _ _ (.slice da1 xm dc1) [] xdl w.heap.size wA HLa.out (HMX.out ▸ HT1a.out.kda) PX.out.2.2 (by have := PX.out.2.1; omega) (by simp) (fun b hb => ⟨by have := HT1a.out.kdi b (HMX.out ▸ hb); omega, by have := HT1a.out.kdi b (HMX.out ▸ hb); omega, by simp⟩)).mono ?_
  rintro e wB ⟨rfl, Lb, Vb, lb, kb, bb⟩
  have HLb := hid lb
  have HBb := hid (HBk.out.trans bb)
  have HX1b := hid ((kb g1 lt1).trans HX1.out)
  have HX2b := hid ((kb g2 lt2).trans HX2.out)
  have HX3b := hid ((kb g3 lt3).trans HX3.out)
  have HT1b := hid (HT1a.out.low kb (by omega))
  have HT2b := hid (HT2a.out.low kb (by omega))
  have HT3b := hid (HT3a.out.low kb (by omega))
  clear lb bb kb HLa HBk HX1 HX2 HX3 HT1a HT2a HT3a
  have cc1 : wB.cell? ⟨g2, 5, none⟩ = some (.slice da2 ym dc2) := cell_of_heap HX2b.out 5
  go_wp2_with fail
  clear cc1
  refine (take_late gk Lb Vb (.slice da2 ym dc2) _ ydl w.heap.size wB HLb.out (HMY.out ▸ HT2b.out.kda) PY.out.2.2 (by have := PY.out.2.1; omega) (by simp) (fun b hb => ⟨by have := HT2b.out.kdi b (HMY.out ▸ hb); omega, by have := HT2b.out.kdi b (HMY.out ▸ hb); omega, fun p hp e => by
    simp at hp
    subst hp
    have h1 := HT2b.out.kdi b (HMY.out ▸ hb)
    have h2 := HT1b.out.kdi b (HMX.out ▸ e)
    omega⟩)).mono ?_
  rintro e wC ⟨rfl, Lc, Vc, lb, kb, bb⟩
  have HLc := hid lb
  have HBc := hid (HBb.out.trans bb)
  have HX1c := hid ((kb g1 lt1).trans HX1b.out)
  have HX2c := hid ((kb g2 lt2).trans HX2b.out)
  have HX3c := hid ((kb g3 lt3).trans HX3b.out)
  have HT1c := hid (HT1b.out.low kb (by omega))
  have HT2c := hid (HT2b.out.low kb (by omega))
  have HT3c := hid (HT3b.out.low kb (by omega))
  clear lb bb kb HLb HBb HX1b HX2b HX3b HT1b HT2b HT3b
  have cc1 : wC.cell? ⟨g3, 5, none⟩ = some (.slice da3 xm dc3) := cell_of_heap HX3c.out 5
  go_wp2_with fail
  clear cc1
  refine (take_late gk Lc Vc (.slice da3 xm dc3) _ xdl w.heap.size wC HLc.out (HMX.out ▸ HT3c.out.kda) PX.out.2.2 (by have := PX.out.2.1; omega) (by simp) (fun b hb => ⟨by have := HT3c.out.kdi b (HMX.out ▸ hb); omega, by have := HT3c.out.kdi b (HMX.out ▸ hb); omega, fun p hp e => by
    have h1 := HT3c.out.kdi b (HMX.out ▸ hb)
    simp at hp
    rcases hp with hp | hp
    · subst hp
      have h2 := HT1c.out.kdi b (HMX.out ▸ e)
      omega
    · subst hp
      have h2 := HT2c.out.kdi b (HMY.out ▸ e)
      omega⟩)).mono ?_
  rintro e wD ⟨rfl, Ld, Vd, lb, kb, bb⟩
  have HLd := hid lb
  have HBd := hid (HBc.out.trans bb)
  have HX1d := hid ((kb g1 lt1).trans HX1c.out)
  have HX2d := hid ((kb g2 lt2).trans HX2c.out)
  have HX3d := hid ((kb g3 lt3).trans HX3c.out)
  have HT1d := hid (HT1c.out.low kb (by omega))
  have HT2d := hid (HT2c.out.low kb (by omega))
  have HT3d := hid (HT3c.out.low kb (by omega))
  clear lb bb kb HLc HBc HX1c HX2c HX3c HT1c HT2c HT3c
  go_wp2_with fail
  refine (owned_late gk Ld Vd _ w.heap.size wD HLd.out).mono ?_
  rintro e wF ⟨rfl, bf, kf⟩
  have HBf := hid (HBd.out.trans bf)
  -- blocks of choices, and boxes, stay
  have HKC : Hid (∀ b, b < gk → (∀ cur f, wD.heap[b]? ≠ some (.cells cur 5 f)) → wF.heap[b]? = wD.heap[b]?) := fun b hb hn => kf b hb fun p hp e => by
    simp at hp
    rcases hp with hp | hp | hp
    · subst hp
      obtain ⟨cur, f, h1⟩ := rowU_obj HT1d.out.kda (HMX.out ▸ e)
      exact hn cur f h1
    · subst hp
      obtain ⟨cur, f, h1⟩ := rowU_obj HT2d.out.kda (HMY.out ▸ e)
      exact hn cur f h1
    · subst hp
      obtain ⟨cur, f, h1⟩ := rowU_obj HT3d.out.kda (HMX.out ▸ e)
      exact hn cur f h1
  have hbox : ∀ (g : Nat) (cs : Array Value), g < gk → wD.heap[g]? = some (.cells cs 26 (0, 0)) → wF.heap[g]? = some (.cells cs 26 (0, 0)) := fun g cs hg h1 => (HKC.out g hg (fun cur f e => by
    rw [h1] at e
    simp only [Option.some.injEq, Obj.cells.injEq] at e
    exact absurd e.2.1 (by decide))).trans h1
  have HX1f := hid (hbox g1 _ lt1 HX1d.out)
  have HX2f := hid (hbox g2 _ lt2 HX2d.out)
  have HX3f := hid (hbox g3 _ lt3 HX3d.out)
  have hrow : ∀ (v : Value) (l : List Ch), RowC wD v l → (∀ b, v.ownBlock = some b → b < gk) → RowC wF v l := fun v l h1 h2 => RowS.keep h1 fun b hb => HKC.out b (h2 b hb) fun cur f e => by
    obtain ⟨cur2, h3⟩ := RowS.obj h1 hb
    rw [e] at h3
    simp only [Option.some.injEq, Obj.cells.injEq] at h3
    exact absurd h3.2.1 (by decide)
  have hR1 := hrow _ _ HT1d.out.kch (fun b hb => by have := HT1d.out.kci b hb; omega)
  have hR2 := hrow _ _ HT2d.out.kch (fun b hb => by have := HT2d.out.kci b hb; omega)
  have hR3 := hrow _ _ HT3d.out.kch (fun b hb => by have := HT3d.out.kci b hb; omega)
  have hi1 := HT1d.out.kci
  have hi2 := HT2d.out.kci
  have hi3 := HT3d.out.kci
  simp only at hR1 hR2 hR3 hi1 hi2 hi3
  have hbkF : w.heap.size ≤ wF.heap.size := HBf.out.size
  have raF := bpush (Below.refl wF.heap.size wF) (.cells #[.slice ca1 xn cc1, .slice ca2 yn cc2, .slice ca3 xn cc3] 23)
  have HBG := hid (bpush HBf.out (.cells #[.slice ca1 xn cc1, .slice ca2 yn cc2, .slice ca3 xn cc3] 23))
  have hl3x : xch.length ≤ 3 := PX.out.1
  have hl3y : ych.length ≤ 3 := PY.out.1
  rw [← HNX.out] at hR1 hR3 hi1 hi3
  rw [← HNY.out] at hR2 hi2
  have HLB : Hid (ListB (wF.alloc (.cells #[.slice ca1 xn cc1, .slice ca2 yn cc2, .slice ca3 xn cc3] 23)) wF.heap.size [.slice ca1 xn cc1, .slice ca2 yn cc2, .slice ca3 xn cc3]) := heap_new wF _
  have HRO : Hid (Rows w.heap.size (wF.alloc (.cells #[.slice ca1 xn cc1, .slice ca2 yn cc2, .slice ca3 xn cc3] 23)) [.slice ca1 xn cc1, .slice ca2 yn cc2, .slice ca3 xn cc3]) := by
    refine ⟨fun j hj => ?_, fun i j hi hj hne b h1 h2 => ?_, fun j hj b hb => ?_⟩
    · simp only [List.length_cons, List.length_nil] at hj
      have : j = 0 ∨ j = 1 ∨ j = 2 := by omega
      rcases this with rfl | rfl | rfl
      · exact ⟨xch, RowS.below hR1 raF, by omega⟩
      · exact ⟨ych, RowS.below hR2 raF, by omega⟩
      · exact ⟨xch, RowS.below hR3 raF, by omega⟩
    · simp only [List.length_cons, List.length_nil] at hi hj
      have e1 : i = 0 ∨ i = 1 ∨ i = 2 := by omega
      have e2 : j = 0 ∨ j = 1 ∨ j = 2 := by omega
      rcases e1 with rfl | rfl | rfl <;> rcases e2 with rfl | rfl | rfl
      · exact hne rfl
      · have := hi1 b h1; have := hi2 b h2; omega
      · have := hi1 b h1; have := hi3 b h2; omega
      · have := hi2 b h1; have := hi1 b h2; omega
      · exact hne rfl
      · have := hi2 b h1; have := hi3 b h2; omega
      · have := hi3 b h1; have := hi1 b h2; omega
      · have := hi3 b h1; have := hi2 b h2; omega
      · exact hne rfl
    · simp only [List.length_cons, List.length_nil] at hj
      have : j = 0 ∨ j = 1 ∨ j = 2 := by omega
      rcases this with rfl | rfl | rfl
      · have := hi1 b hb; omega
      · have := hi2 b hb; omega
      · have := hi3 b hb; omega
  have CO := hid (cowned_any w.heap.size wF.heap.size 3 [.slice ca1 xn cc1, .slice ca2 yn cc2, .slice ca3 xn cc3] _ HRO.out HLB.out rfl (by omega) (by have := raF.size; omega))
  have d1 : wF.cell? ⟨g1, 3, none⟩ = some (.slice ca1 xn cc1) := cell_of_heap HX1f.out 3
  have d2 : wF.cell? ⟨g2, 3, none⟩ = some (.slice ca2 yn cc2) := cell_of_heap HX2f.out 3
  have d3 : wF.cell? ⟨g3, 3, none⟩ = some (.slice ca3 xn cc3) := cell_of_heap HX3f.out 3
  clear hbox hrow hR1 hR2 hR3 hi1 hi2 hi3 raF hl3x hl3y bf kf HKC HBd HLd HT1d HT2d HT3d HX1d HX2d HX3d HX1f HX2f HX3f HLB HRO PX PY
  go_wp2_with (first
    | (go_at_call 20; refine CO.out.mono ?_; rintro e wH ⟨rfl, hbH⟩)
    | fail)
  go_ret
  exact ⟨rfl, HBG.out.trans hbH.out⟩
end Go.Proofs.YtdcppiknomoigaaDoor
