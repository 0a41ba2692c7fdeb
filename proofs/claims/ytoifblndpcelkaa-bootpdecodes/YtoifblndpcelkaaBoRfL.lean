/-
  The document's Answer and Type. Written by mkborfl.py.
-/
import Derived.Test.YtoifblndpcelkaaBoRfK
import Derived.Test.YtoifblndpcelkaaOFrJ
namespace Go.Proofs.Ytoifblndpcelkaa
open Go.RowKit
set_option linter.all false

theorem MadeO.later {w w' W : World} {g : Nat} {zs : List Int} (h : MadeO w w' g zs) (hb : Below w'.heap.size w' W) : MadeO w W g zs := ⟨h.1, kept h.2.1 hb, bstep h.2.2 hb⟩
set_option maxRecDepth 20000 in
set_option maxHeartbeats 4000000 in
theorem refAns_yes (kind : Int) (hk : -9223372036854775808 ≤ kind ∧ kind ≤ 9223372036854775807) (h5' : kind = 5) (top thops txid tsecs : Int) (tall : Bool) (tci tyi tsi tgi t0 t1 t2 t3 t4 t5 : Int) (tsn tfl : ByteArray) (ta : Option Addr) (tn tc : Nat) (yi sv : Int) (hs : 0 ≤ sv ∧ sv ≤ 4294967295) (a : Option Addr) (c : Nat) (os : List OP) (w : World) (h : OV w a os) (hf : os.length ≤ 4294967296) :
    Calls Try.prog 29 #[.int .i64 kind, .agg #[.int .i64 top, .int .i64 thops, .int .u32 txid, .int .i64 tsecs, .bool tall, .int .u32 tci, .int .u32 tyi, .int .u32 tsi, .int .u32 tgi, .int .u8 t0, .int .u8 t1, .int .u8 t2, .int .u8 t3, .int .u8 t4, .int .u8 t5, .string tsn, .string tfl, .slice ta tn tc], .int .u32 yi, .int .u32 sv, .slice a os.length c] w fun e w' => ∃ a' n' c', e = .returned (.agg #[.int .i64 2, .int .i64 0, .int .u32 txid, .int .i64 0, .bool tall, .int .u32 tci, .int .u32 yi, .int .u32 0, .int .u32 0, .int .u8 t0, .int .u8 t1, .int .u8 t2, .int .u8 t3, .int .u8 t4, .int .u8 t5, .string noText, .string noText, .slice a' n' c']) ∧ Hid (OptI w w' (.slice a' n' c') ((53, op1 kind) :: (54, ip4 sv) :: absO os) ∧ Below w.heap.size w w') := by
  obtain ⟨w0, hw0⟩ : ∃ W, W = w.alloc (.cells #[.int .i64 top, .int .i64 thops, .int .u32 txid, .int .i64 tsecs, .bool tall, .int .u32 tci, .int .u32 tyi, .int .u32 tsi, .int .u32 tgi, .int .u8 t0, .int .u8 t1, .int .u8 t2, .int .u8 t3, .int .u8 t4, .int .u8 t5, .string tsn, .string tfl, .slice ta tn tc] 28) := ⟨_, rfl⟩
  obtain ⟨w1, hw1⟩ : ∃ W, W = w0.alloc (.cells zeroC 28) := ⟨_, rfl⟩
  have HB1 : Hid (Below w.heap.size w w1) := by rw [hw1, hw0]; exact bpush (bpush (Below.refl _ _) _) _
  have HM0 : Hid (w0.heap[w.heap.size]? = some (.cells #[.int .i64 top, .int .i64 thops, .int .u32 txid, .int .i64 tsecs, .bool tall, .int .u32 tci, .int .u32 tyi, .int .u32 tsi, .int .u32 tgi, .int .u8 t0, .int .u8 t1, .int .u8 t2, .int .u8 t3, .int .u8 t4, .int .u8 t5, .string tsn, .string tfl, .slice ta tn tc] 28 (0, 0))) := by rw [hw0]; exact heap_new _ _
  have HM1 : Hid (w1.heap[w.heap.size]? = some (.cells #[.int .i64 top, .int .i64 thops, .int .u32 txid, .int .i64 tsecs, .bool tall, .int .u32 tci, .int .u32 tyi, .int .u32 tsi, .int .u32 tgi, .int .u8 t0, .int .u8 t1, .int .u8 t2, .int .u8 t3, .int .u8 t4, .int .u8 t5, .string tsn, .string tfl, .slice ta tn tc] 28 (0, 0))) := by rw [hw1]; exact (heap_old _ _ (heap_lt HM0.out)).trans HM0.out
  have hz0 : w0.heap.size = w.heap.size + 1 := by rw [hw0]; simp
  have HZ0 := hid hz0
  have HR1 : Hid (w1.heap[w0.heap.size]? = some (.cells zeroC 28 (0, 0))) := by rw [hw1]; exact heap_new _ _
  have cm := fun q => cell_of_heap HM1.out q
  clear hz0
  have HBY := hid (fun W => refByte_any 53 kind W hk.1 hk.2)
  have HNB := hid (fun W => refNumbered_any 54 sv W hs.1 hs.2)
  have HCP := hid (fun (W : World) (hb : Below w.heap.size w W) => copied_any a c os W (h.below hb))
  have HFW := hid hf
  obtain ⟨n, hn⟩ : ∃ n, n = os.length := ⟨_, rfl⟩
  rw [← hn] at HCP ⊢
  have HN := hid hn
  clear h hf hn hk hs
  have h5 : (kind == 5) = true := by simpa using h5'
  clear h5'
  go_enter Try.func29, Try.ntmps29
  go_upto_region 1 with (first
    | (refine wpList_alloc_to rfl 28 rfl zeroC (by kernel_rfl) ?_)
    | fail)
  rw [← hw0, ← hw1]
  clear hw0 hw1
  go_upto_region 2 with (first
    | (refine wpList_build_to rfl 28 _ rfl #[.int .i64 2, .int .i64 0, .int .u32 txid, .int .i64 0, .bool tall, .int .u32 0, .int .u32 yi, .int .u32 0, .int .u32 0, .int .u8 t0, .int .u8 t1, .int .u8 t2, .int .u8 t3, .int .u8 t4, .int .u8 t5, .string noText, .string noText, .slice none 0 0] (by rfl) ?_)
    | (refine wpList_alloc_to rfl 28 rfl zeroC (by kernel_rfl) ?_)
    | (refine wpList_store_row rfl 28 _ _ rfl w1.heap.size #[.int .i64 2, .int .i64 0, .int .u32 txid, .int .i64 0, .bool tall, .int .u32 0, .int .u32 yi, .int .u32 0, .int .u32 0, .int .u8 t0, .int .u8 t1, .int .u8 t2, .int .u8 t3, .int .u8 t4, .int .u8 t5, .string noText, .string noText, .slice none 0 0] rfl rfl 28 _ (heap_new w1 _) sizeBp rfl (by simp [Value.oneCell']) ?_)
    | fail)
  have hl2 := box_laid w1 #[.int .i64 2, .int .i64 0, .int .u32 txid, .int .i64 0, .bool tall, .int .u32 0, .int .u32 yi, .int .u32 0, .int .u32 0, .int .u8 t0, .int .u8 t1, .int .u8 t2, .int .u8 t3, .int .u8 t4, .int .u8 t5, .string noText, .string noText, .slice none 0 0]
  have HS2 : Hid (RfS w w0.heap.size w1.heap.size #[.int .i64 2, .int .i64 0, .int .u32 txid, .int .i64 0, .bool tall, .int .u32 0, .int .u32 yi, .int .u32 0, .int .u32 0, .int .u8 t0, .int .u8 t1, .int .u8 t2, .int .u8 t3, .int .u8 t4, .int .u8 t5, .string noText, .string noText, .slice none 0 0] (.slice none 0 0) [] ((w1.alloc (.cells zeroC 28)).setRow w1.heap.size #[.int .i64 2, .int .i64 0, .int .u32 txid, .int .i64 0, .bool tall, .int .u32 0, .int .u32 yi, .int .u32 0, .int .u32 0, .int .u8 t0, .int .u8 t1, .int .u8 t2, .int .u8 t3, .int .u8 t4, .int .u8 t5, .string noText, .string noText, .slice none 0 0])) := by
    have hl := heap_lt HR1.out
    have hz := HZ0.out
    exact ⟨kept HR1.out hl2.2, hl2.1, by omega, ⟨by omega, by omega⟩, OwnO.nil _ _, bstep HB1.out hl2.2⟩
  have HM2 := hid (kept HM1.out hl2.2)
  clear hl2 cm HM0 HM1 HR1 HB1 HZ0
  generalize (w1.alloc (.cells zeroC 28)).setRow w1.heap.size #[.int .i64 2, .int .i64 0, .int .u32 txid, .int .i64 0, .bool tall, .int .u32 0, .int .u32 yi, .int .u32 0, .int .u32 0, .int .u8 t0, .int .u8 t1, .int .u8 t2, .int .u8 t3, .int .u8 t4, .int .u8 t5, .string noText, .string noText, .slice none 0 0] = W2 at *
  generalize w1.heap.size = gx at *
  generalize w0.heap.size = gr at *
  have q5 := (cell_of_heap HM2.out 5).trans (rfl : (#[.int .i64 top, .int .i64 thops, .int .u32 txid, .int .i64 tsecs, .bool tall, .int .u32 tci, .int .u32 tyi, .int .u32 tsi, .int .u32 tgi, .int .u8 t0, .int .u8 t1, .int .u8 t2, .int .u8 t3, .int .u8 t4, .int .u8 t5, .string tsn, .string tfl, .slice ta tn tc] : Array Value)[5]? = some (.int .u32 tci))
  have p5 := (cell_of_heap HS2.out.box 5).trans (rfl : (#[.int .i64 2, .int .i64 0, .int .u32 txid, .int .i64 0, .bool tall, .int .u32 0, .int .u32 yi, .int .u32 0, .int .u32 0, .int .u8 t0, .int .u8 t1, .int .u8 t2, .int .u8 t3, .int .u8 t4, .int .u8 t5, .string noText, .string noText, .slice none 0 0] : Array Value)[5]? = some (.int .u32 0))
  have f5 := frozen_of_heap HS2.out.box 5
  have HS2b : Hid (RfS w gr gx #[.int .i64 2, .int .i64 0, .int .u32 txid, .int .i64 0, .bool tall, .int .u32 tci, .int .u32 yi, .int .u32 0, .int .u32 0, .int .u8 t0, .int .u8 t1, .int .u8 t2, .int .u8 t3, .int .u8 t4, .int .u8 t5, .string noText, .string noText, .slice none 0 0] (.slice none 0 0) [] (W2.setCell ⟨gx, 5, none⟩ (.int .u32 tci))) := HS2.out.set (But.setCell _ _ _ _) ((heap_setCell HS2.out.box).trans rfl)
  go_upto_region 4 with (fail)
  clear q5 p5 f5 HM2 HS2
  generalize W2.setCell ⟨gx, 5, none⟩ (.int .u32 tci) = W2b at *
  go_upto_region 5 with (first
    | (go_at_call 58; refine (HBY.out _).mono ?_; rintro e w3 ⟨g, rfl, HMD⟩)
    | fail)
  have HMD3 := hid (HMD.out.later (bpush (Below.refl _ w3) (.cells #[.int .i64 53, .slice (some ⟨g, 0, none⟩) 1 1] 67)))
  have HX3 := hid (heap_new w3 (.cells #[.int .i64 53, .slice (some ⟨g, 0, none⟩) 1 1] 67))
  clear HMD
  generalize w3.alloc (.cells #[.int .i64 53, .slice (some ⟨g, 0, none⟩) 1 1] 67) = W3 at *
  generalize w3.heap.size = g12 at *
  go_upto_region 6 with (first
    | (go_at_call 60; refine (HNB.out _).mono ?_; rintro e w4 ⟨g2, rfl, HME⟩)
    | fail)
  have HME4 := hid (HME.out.later (bpush (Below.refl _ w4) (.cells #[.int .i64 54, .slice (some ⟨g2, 0, none⟩) 4 4] 67)))
  have HX4 := hid (heap_new w4 (.cells #[.int .i64 54, .slice (some ⟨g2, 0, none⟩) 4 4] 67))
  have HX3b := hid (kept HX3.out HME4.out.2.2)
  clear HME HX3
  generalize w4.alloc (.cells #[.int .i64 54, .slice (some ⟨g2, 0, none⟩) 4 4] 67) = W4 at *
  generalize w4.heap.size = g13 at *
  have HS4 := hid (HS2b.out.keep (bstep HMD3.out.2.2 HME4.out.2.2))
  have hO := ownO_two HMD3.out HME4.out (c1 := 53) (c2 := 54) (op1_bd kind) (ip4_bd sv) (by simp [op1]) (by simp [ip4])
  rw [show (op1 kind).length = 1 from rfl, show (ip4 sv).length = 4 from rfl] at hO
  have hb5 := bpush (Below.refl _ W4) (.cells #[.int .i64 53, .slice (some ⟨g, 0, none⟩) 1 1, .int .i64 54, .slice (some ⟨g2, 0, none⟩) 4 4] 67)
  have HS5 := hid (HS4.out.keep hb5)
  obtain ⟨a6, n6, c6, w6, r6, O6, B6, K6⟩ := HS5.out.own.join (hO.le HS2b.out.below.size) HS5.out.below.size (by simp) (by simp)
  rw [List.nil_append] at O6
  have HS6 : Hid (RfS w gr gx #[.int .i64 2, .int .i64 0, .int .u32 txid, .int .i64 0, .bool tall, .int .u32 tci, .int .u32 yi, .int .u32 0, .int .u32 0, .int .u8 t0, .int .u8 t1, .int .u8 t2, .int .u8 t3, .int .u8 t4, .int .u8 t5, .string noText, .string noText, .slice none 0 0] (.slice a6 n6 c6) [((53, op1 kind), .slice (some ⟨g, 0, none⟩) 1 1), ((54, ip4 sv), .slice (some ⟨g2, 0, none⟩) 4 4)] w6) := HS5.out.turn O6 K6 B6
  have HR6 := hid r6
  have x17 := (cell_of_heap HS4.out.box 17).trans (rfl : (#[.int .i64 2, .int .i64 0, .int .u32 txid, .int .i64 0, .bool tall, .int .u32 tci, .int .u32 yi, .int .u32 0, .int .u32 0, .int .u8 t0, .int .u8 t1, .int .u8 t2, .int .u8 t3, .int .u8 t4, .int .u8 t5, .string noText, .string noText, .slice none 0 0] : Array Value)[17]? = some (.slice none 0 0))
  have y17 := (cell_of_heap HS6.out.box 17).trans (rfl : (#[.int .i64 2, .int .i64 0, .int .u32 txid, .int .i64 0, .bool tall, .int .u32 tci, .int .u32 yi, .int .u32 0, .int .u32 0, .int .u8 t0, .int .u8 t1, .int .u8 t2, .int .u8 t3, .int .u8 t4, .int .u8 t5, .string noText, .string noText, .slice none 0 0] : Array Value)[17]? = some (.slice none 0 0))
  have f17 := frozen_of_heap HS6.out.box 17
  have cb := fun q => cell_of_heap HX3b.out q
  have cd := fun q => cell_of_heap HX4.out q
  have l1 : g12 < W4.heap.size := heap_lt HX3b.out
  have l2 : g13 < W4.heap.size := heap_lt HX4.out
  have l3 : gx < W4.heap.size := heap_lt HS4.out.box
  have HS7 : Hid (RfS w gr gx #[.int .i64 2, .int .i64 0, .int .u32 txid, .int .i64 0, .bool tall, .int .u32 tci, .int .u32 yi, .int .u32 0, .int .u32 0, .int .u8 t0, .int .u8 t1, .int .u8 t2, .int .u8 t3, .int .u8 t4, .int .u8 t5, .string noText, .string noText, .slice a6 n6 c6] (.slice a6 n6 c6) [((53, op1 kind), .slice (some ⟨g, 0, none⟩) 1 1), ((54, ip4 sv), .slice (some ⟨g2, 0, none⟩) 4 4)] (w6.setCell ⟨gx, 17, none⟩ (.slice a6 n6 c6))) := HS6.out.set (But.setCell _ _ _ _) ((heap_setCell HS6.out.box).trans rfl)
  have HGL : Hid (g < w6.heap.size ∧ g2 < w6.heap.size) := ⟨(O6.data ((53, op1 kind), .slice (some ⟨g, 0, none⟩) 1 1) (by simp)).lt (b := g) rfl, (O6.data ((54, ip4 sv), .slice (some ⟨g2, 0, none⟩) 4 4) (by simp)).lt (b := g2) rfl⟩
  clear r6 O6 B6 K6 hO hb5 HS5 HS6 HMD3 HME4 HBY HNB
  go_upto_region 7 with (first
    | (at_builtin; refine wpList_append_run _ rfl _ _ _ _ rfl _ _ rfl rfl HR6.out ?_; clear HR6)
    | fail)
  clear x17 y17 f17 cb cd l1 l2 l3 HS4 HX3b HX4
  have HGL2 : Hid (g < (w6.setCell ⟨gx, 17, none⟩ (.slice a6 n6 c6)).heap.size ∧ g2 < (w6.setCell ⟨gx, 17, none⟩ (.slice a6 n6 c6)).heap.size) := hid (by have := HGL.out; simpa [World.setCell] using this)
  generalize w6.setCell ⟨gx, 17, none⟩ (.slice a6 n6 c6) = W6 at *
  go_upto_region 8 with (first
    | (go_at_call 59; refine (HCP.out _ HS7.out.below).mono ?_; rintro e w7 ⟨a7, n7, c7, rfl, HC7⟩)
    | fail)
  obtain ⟨E7, O7, e7, B7⟩ := HC7.out
  have HS7b := hid (HS7.out.keep B7)
  have hlen7 : E7.length = n := by
    have := congrArg List.length e7
    rw [List.length_map, absO_len, ← HN.out] at this
    exact this
  obtain ⟨a8, n8, c8, w8, r8, O8, B8, K8⟩ := HS7b.out.own.join (O7.le HS7.out.below.size) HS7b.out.below.size (fun p hp q hq k hk e => by
    have h1 := O7.dlow q hq k e
    have h2 := HGL2.out
    simp only [List.mem_cons, List.not_mem_nil, or_false] at hp
    rcases hp with rfl | rfl
    · simp [Value.ownBlock] at hk
      omega
    · simp [Value.ownBlock] at hk
      omega) (by have := HFW.out; have := HN.out; simp; omega)
  have HS8 : Hid (RfS w gr gx #[.int .i64 2, .int .i64 0, .int .u32 txid, .int .i64 0, .bool tall, .int .u32 tci, .int .u32 yi, .int .u32 0, .int .u32 0, .int .u8 t0, .int .u8 t1, .int .u8 t2, .int .u8 t3, .int .u8 t4, .int .u8 t5, .string noText, .string noText, .slice a6 n6 c6] (.slice a8 n8 c8) ([((53, op1 kind), .slice (some ⟨g, 0, none⟩) 1 1), ((54, ip4 sv), .slice (some ⟨g2, 0, none⟩) 4 4)] ++ E7) w8) := HS7b.out.turn O8 K8 B8
  have HR8 := hid r8
  have x17 := (cell_of_heap HS7b.out.box 17).trans (rfl : (#[.int .i64 2, .int .i64 0, .int .u32 txid, .int .i64 0, .bool tall, .int .u32 tci, .int .u32 yi, .int .u32 0, .int .u32 0, .int .u8 t0, .int .u8 t1, .int .u8 t2, .int .u8 t3, .int .u8 t4, .int .u8 t5, .string noText, .string noText, .slice a6 n6 c6] : Array Value)[17]? = some (.slice a6 n6 c6))
  have y17 := (cell_of_heap HS8.out.box 17).trans (rfl : (#[.int .i64 2, .int .i64 0, .int .u32 txid, .int .i64 0, .bool tall, .int .u32 tci, .int .u32 yi, .int .u32 0, .int .u32 0, .int .u8 t0, .int .u8 t1, .int .u8 t2, .int .u8 t3, .int .u8 t4, .int .u8 t5, .string noText, .string noText, .slice a6 n6 c6] : Array Value)[17]? = some (.slice a6 n6 c6))
  have f17 := frozen_of_heap HS8.out.box 17
  have HS9 : Hid (RfS w gr gx #[.int .i64 2, .int .i64 0, .int .u32 txid, .int .i64 0, .bool tall, .int .u32 tci, .int .u32 yi, .int .u32 0, .int .u32 0, .int .u8 t0, .int .u8 t1, .int .u8 t2, .int .u8 t3, .int .u8 t4, .int .u8 t5, .string noText, .string noText, .slice a8 n8 c8] (.slice a8 n8 c8) ([((53, op1 kind), .slice (some ⟨g, 0, none⟩) 1 1), ((54, ip4 sv), .slice (some ⟨g2, 0, none⟩) 4 4)] ++ E7) (w8.setCell ⟨gx, 17, none⟩ (.slice a8 n8 c8))) := HS8.out.set (But.setCell _ _ _ _) ((heap_setCell HS8.out.box).trans rfl)
  have HE7 : Hid (codes ([((53, op1 kind), Value.slice (some ⟨g, 0, none⟩) 1 1), ((54, ip4 sv), Value.slice (some ⟨g2, 0, none⟩) 4 4)] ++ E7) = (53, op1 kind) :: (54, ip4 sv) :: absO os) := hid (by rw [← e7]; rfl)
  clear r8 O8 B8 K8 O7 e7 B7 HC7 HS7 HS8 hlen7
  go_upto_region 9 with (first
    | (at_builtin; refine wpList_append_run _ rfl _ _ _ _ rfl _ _ rfl rfl HR8.out ?_; clear HR8)
    | fail)
  clear x17 y17 f17 HS7b
  generalize w8.setCell ⟨gx, 17, none⟩ (.slice a8 n8 c8) = W9 at *
  go_wp2_with (first
    | (refine wpList_load_row rfl 28 _ rfl gx rfl 28 #[.int .i64 2, .int .i64 0, .int .u32 txid, .int .i64 0, .bool tall, .int .u32 tci, .int .u32 yi, .int .u32 0, .int .u32 0, .int .u8 t0, .int .u8 t1, .int .u8 t2, .int .u8 t3, .int .u8 t4, .int .u8 t5, .string noText, .string noText, .slice a8 n8 c8] (0, 0) _ (by exact HS9.out.box) Try.underlying28 rfl sizeBp ?_)
    | (refine wpList_store_row rfl 28 _ _ rfl gr #[.int .i64 2, .int .i64 0, .int .u32 txid, .int .i64 0, .bool tall, .int .u32 tci, .int .u32 yi, .int .u32 0, .int .u32 0, .int .u8 t0, .int .u8 t1, .int .u8 t2, .int .u8 t3, .int .u8 t4, .int .u8 t5, .string noText, .string noText, .slice a8 n8 c8] rfl rfl 28 _ HS9.out.res sizeBp rfl (by simp [Value.oneCell']) ?_)
    | fail)
  refine bodyPost_ret (v := .agg #[.int .i64 2, .int .i64 0, .int .u32 txid, .int .i64 0, .bool tall, .int .u32 tci, .int .u32 yi, .int .u32 0, .int .u32 0, .int .u8 t0, .int .u8 t1, .int .u8 t2, .int .u8 t3, .int .u8 t4, .int .u8 t5, .string noText, .string noText, .slice a8 n8 c8]) ?_ (by rfl) ⟨a8, n8, c8, rfl, ⟨_, (HS9.out.done _).1, HE7.out⟩, (HS9.out.done _).2⟩
  exact results_row1 Try.results29 _ _ gr 28 _ (0, 0) _ rfl (setRow_heap _ _ _ _ _ _ HS9.out.res) Try.underlying28 rfl sizeBp
set_option maxRecDepth 20000 in
set_option maxHeartbeats 4000000 in
theorem refAns_no (kind : Int) (hk : -9223372036854775808 ≤ kind ∧ kind ≤ 9223372036854775807) (h5' : ¬ kind = 5) (top thops txid tsecs : Int) (tall : Bool) (tci tyi tsi tgi t0 t1 t2 t3 t4 t5 : Int) (tsn tfl : ByteArray) (ta : Option Addr) (tn tc : Nat) (yi sv : Int) (hs : 0 ≤ sv ∧ sv ≤ 4294967295) (a : Option Addr) (c : Nat) (os : List OP) (w : World) (h : OV w a os) (hf : os.length ≤ 4294967296) :
    Calls Try.prog 29 #[.int .i64 kind, .agg #[.int .i64 top, .int .i64 thops, .int .u32 txid, .int .i64 tsecs, .bool tall, .int .u32 tci, .int .u32 tyi, .int .u32 tsi, .int .u32 tgi, .int .u8 t0, .int .u8 t1, .int .u8 t2, .int .u8 t3, .int .u8 t4, .int .u8 t5, .string tsn, .string tfl, .slice ta tn tc], .int .u32 yi, .int .u32 sv, .slice a os.length c] w fun e w' => ∃ a' n' c', e = .returned (.agg #[.int .i64 2, .int .i64 0, .int .u32 txid, .int .i64 0, .bool tall, .int .u32 0, .int .u32 yi, .int .u32 0, .int .u32 0, .int .u8 t0, .int .u8 t1, .int .u8 t2, .int .u8 t3, .int .u8 t4, .int .u8 t5, .string noText, .string noText, .slice a' n' c']) ∧ Hid (OptI w w' (.slice a' n' c') ((53, op1 kind) :: (54, ip4 sv) :: absO os) ∧ Below w.heap.size w w') := by
  obtain ⟨w0, hw0⟩ : ∃ W, W = w.alloc (.cells #[.int .i64 top, .int .i64 thops, .int .u32 txid, .int .i64 tsecs, .bool tall, .int .u32 tci, .int .u32 tyi, .int .u32 tsi, .int .u32 tgi, .int .u8 t0, .int .u8 t1, .int .u8 t2, .int .u8 t3, .int .u8 t4, .int .u8 t5, .string tsn, .string tfl, .slice ta tn tc] 28) := ⟨_, rfl⟩
  obtain ⟨w1, hw1⟩ : ∃ W, W = w0.alloc (.cells zeroC 28) := ⟨_, rfl⟩
  have HB1 : Hid (Below w.heap.size w w1) := by rw [hw1, hw0]; exact bpush (bpush (Below.refl _ _) _) _
  have HM0 : Hid (w0.heap[w.heap.size]? = some (.cells #[.int .i64 top, .int .i64 thops, .int .u32 txid, .int .i64 tsecs, .bool tall, .int .u32 tci, .int .u32 tyi, .int .u32 tsi, .int .u32 tgi, .int .u8 t0, .int .u8 t1, .int .u8 t2, .int .u8 t3, .int .u8 t4, .int .u8 t5, .string tsn, .string tfl, .slice ta tn tc] 28 (0, 0))) := by rw [hw0]; exact heap_new _ _
  have HM1 : Hid (w1.heap[w.heap.size]? = some (.cells #[.int .i64 top, .int .i64 thops, .int .u32 txid, .int .i64 tsecs, .bool tall, .int .u32 tci, .int .u32 tyi, .int .u32 tsi, .int .u32 tgi, .int .u8 t0, .int .u8 t1, .int .u8 t2, .int .u8 t3, .int .u8 t4, .int .u8 t5, .string tsn, .string tfl, .slice ta tn tc] 28 (0, 0))) := by rw [hw1]; exact (heap_old _ _ (heap_lt HM0.out)).trans HM0.out
  have hz0 : w0.heap.size = w.heap.size + 1 := by rw [hw0]; simp
  have HZ0 := hid hz0
  have HR1 : Hid (w1.heap[w0.heap.size]? = some (.cells zeroC 28 (0, 0))) := by rw [hw1]; exact heap_new _ _
  have cm := fun q => cell_of_heap HM1.out q
  clear hz0
  have HBY := hid (fun W => refByte_any 53 kind W hk.1 hk.2)
  have HNB := hid (fun W => refNumbered_any 54 sv W hs.1 hs.2)
  have HCP := hid (fun (W : World) (hb : Below w.heap.size w W) => copied_any a c os W (h.below hb))
  have HFW := hid hf
  obtain ⟨n, hn⟩ : ∃ n, n = os.length := ⟨_, rfl⟩
  rw [← hn] at HCP ⊢
  have HN := hid hn
  clear h hf hn hk hs
  have h5 : (kind == 5) = false := by simpa using h5'
  clear h5'
  go_enter Try.func29, Try.ntmps29
  go_upto_region 1 with (first
    | (refine wpList_alloc_to rfl 28 rfl zeroC (by kernel_rfl) ?_)
    | fail)
  rw [← hw0, ← hw1]
  clear hw0 hw1
  go_upto_region 2 with (first
    | (refine wpList_build_to rfl 28 _ rfl #[.int .i64 2, .int .i64 0, .int .u32 txid, .int .i64 0, .bool tall, .int .u32 0, .int .u32 yi, .int .u32 0, .int .u32 0, .int .u8 t0, .int .u8 t1, .int .u8 t2, .int .u8 t3, .int .u8 t4, .int .u8 t5, .string noText, .string noText, .slice none 0 0] (by rfl) ?_)
    | (refine wpList_alloc_to rfl 28 rfl zeroC (by kernel_rfl) ?_)
    | (refine wpList_store_row rfl 28 _ _ rfl w1.heap.size #[.int .i64 2, .int .i64 0, .int .u32 txid, .int .i64 0, .bool tall, .int .u32 0, .int .u32 yi, .int .u32 0, .int .u32 0, .int .u8 t0, .int .u8 t1, .int .u8 t2, .int .u8 t3, .int .u8 t4, .int .u8 t5, .string noText, .string noText, .slice none 0 0] rfl rfl 28 _ (heap_new w1 _) sizeBp rfl (by simp [Value.oneCell']) ?_)
    | fail)
  have hl2 := box_laid w1 #[.int .i64 2, .int .i64 0, .int .u32 txid, .int .i64 0, .bool tall, .int .u32 0, .int .u32 yi, .int .u32 0, .int .u32 0, .int .u8 t0, .int .u8 t1, .int .u8 t2, .int .u8 t3, .int .u8 t4, .int .u8 t5, .string noText, .string noText, .slice none 0 0]
  have HS2 : Hid (RfS w w0.heap.size w1.heap.size #[.int .i64 2, .int .i64 0, .int .u32 txid, .int .i64 0, .bool tall, .int .u32 0, .int .u32 yi, .int .u32 0, .int .u32 0, .int .u8 t0, .int .u8 t1, .int .u8 t2, .int .u8 t3, .int .u8 t4, .int .u8 t5, .string noText, .string noText, .slice none 0 0] (.slice none 0 0) [] ((w1.alloc (.cells zeroC 28)).setRow w1.heap.size #[.int .i64 2, .int .i64 0, .int .u32 txid, .int .i64 0, .bool tall, .int .u32 0, .int .u32 yi, .int .u32 0, .int .u32 0, .int .u8 t0, .int .u8 t1, .int .u8 t2, .int .u8 t3, .int .u8 t4, .int .u8 t5, .string noText, .string noText, .slice none 0 0])) := by
    have hl := heap_lt HR1.out
    have hz := HZ0.out
    exact ⟨kept HR1.out hl2.2, hl2.1, by omega, ⟨by omega, by omega⟩, OwnO.nil _ _, bstep HB1.out hl2.2⟩
  have HM2 := hid (kept HM1.out hl2.2)
  clear hl2 cm HM0 HM1 HR1 HB1 HZ0
  generalize (w1.alloc (.cells zeroC 28)).setRow w1.heap.size #[.int .i64 2, .int .i64 0, .int .u32 txid, .int .i64 0, .bool tall, .int .u32 0, .int .u32 yi, .int .u32 0, .int .u32 0, .int .u8 t0, .int .u8 t1, .int .u8 t2, .int .u8 t3, .int .u8 t4, .int .u8 t5, .string noText, .string noText, .slice none 0 0] = W2 at *
  generalize w1.heap.size = gx at *
  generalize w0.heap.size = gr at *
  go_upto_region 4 with (fail)
  clear HM2
  go_upto_region 5 with (first
    | (go_at_call 58; refine (HBY.out _).mono ?_; rintro e w3 ⟨g, rfl, HMD⟩)
    | fail)
  have HMD3 := hid (HMD.out.later (bpush (Below.refl _ w3) (.cells #[.int .i64 53, .slice (some ⟨g, 0, none⟩) 1 1] 67)))
  have HX3 := hid (heap_new w3 (.cells #[.int .i64 53, .slice (some ⟨g, 0, none⟩) 1 1] 67))
  clear HMD
  generalize w3.alloc (.cells #[.int .i64 53, .slice (some ⟨g, 0, none⟩) 1 1] 67) = W3 at *
  generalize w3.heap.size = g12 at *
  go_upto_region 6 with (first
    | (go_at_call 60; refine (HNB.out _).mono ?_; rintro e w4 ⟨g2, rfl, HME⟩)
    | fail)
  have HME4 := hid (HME.out.later (bpush (Below.refl _ w4) (.cells #[.int .i64 54, .slice (some ⟨g2, 0, none⟩) 4 4] 67)))
  have HX4 := hid (heap_new w4 (.cells #[.int .i64 54, .slice (some ⟨g2, 0, none⟩) 4 4] 67))
  have HX3b := hid (kept HX3.out HME4.out.2.2)
  clear HME HX3
  generalize w4.alloc (.cells #[.int .i64 54, .slice (some ⟨g2, 0, none⟩) 4 4] 67) = W4 at *
  generalize w4.heap.size = g13 at *
  have HS4 := hid (HS2.out.keep (bstep HMD3.out.2.2 HME4.out.2.2))
  have hO := ownO_two HMD3.out HME4.out (c1 := 53) (c2 := 54) (op1_bd kind) (ip4_bd sv) (by simp [op1]) (by simp [ip4])
  rw [show (op1 kind).length = 1 from rfl, show (ip4 sv).length = 4 from rfl] at hO
  have hb5 := bpush (Below.refl _ W4) (.cells #[.int .i64 53, .slice (some ⟨g, 0, none⟩) 1 1, .int .i64 54, .slice (some ⟨g2, 0, none⟩) 4 4] 67)
  have HS5 := hid (HS4.out.keep hb5)
  obtain ⟨a6, n6, c6, w6, r6, O6, B6, K6⟩ := HS5.out.own.join (hO.le HS2.out.below.size) HS5.out.below.size (by simp) (by simp)
  rw [List.nil_append] at O6
  have HS6 : Hid (RfS w gr gx #[.int .i64 2, .int .i64 0, .int .u32 txid, .int .i64 0, .bool tall, .int .u32 0, .int .u32 yi, .int .u32 0, .int .u32 0, .int .u8 t0, .int .u8 t1, .int .u8 t2, .int .u8 t3, .int .u8 t4, .int .u8 t5, .string noText, .string noText, .slice none 0 0] (.slice a6 n6 c6) [((53, op1 kind), .slice (some ⟨g, 0, none⟩) 1 1), ((54, ip4 sv), .slice (some ⟨g2, 0, none⟩) 4 4)] w6) := HS5.out.turn O6 K6 B6
  have HR6 := hid r6
  have x17 := (cell_of_heap HS4.out.box 17).trans (rfl : (#[.int .i64 2, .int .i64 0, .int .u32 txid, .int .i64 0, .bool tall, .int .u32 0, .int .u32 yi, .int .u32 0, .int .u32 0, .int .u8 t0, .int .u8 t1, .int .u8 t2, .int .u8 t3, .int .u8 t4, .int .u8 t5, .string noText, .string noText, .slice none 0 0] : Array Value)[17]? = some (.slice none 0 0))
  have y17 := (cell_of_heap HS6.out.box 17).trans (rfl : (#[.int .i64 2, .int .i64 0, .int .u32 txid, .int .i64 0, .bool tall, .int .u32 0, .int .u32 yi, .int .u32 0, .int .u32 0, .int .u8 t0, .int .u8 t1, .int .u8 t2, .int .u8 t3, .int .u8 t4, .int .u8 t5, .string noText, .string noText, .slice none 0 0] : Array Value)[17]? = some (.slice none 0 0))
  have f17 := frozen_of_heap HS6.out.box 17
  have cb := fun q => cell_of_heap HX3b.out q
  have cd := fun q => cell_of_heap HX4.out q
  have l1 : g12 < W4.heap.size := heap_lt HX3b.out
  have l2 : g13 < W4.heap.size := heap_lt HX4.out
  have l3 : gx < W4.heap.size := heap_lt HS4.out.box
  have HS7 : Hid (RfS w gr gx #[.int .i64 2, .int .i64 0, .int .u32 txid, .int .i64 0, .bool tall, .int .u32 0, .int .u32 yi, .int .u32 0, .int .u32 0, .int .u8 t0, .int .u8 t1, .int .u8 t2, .int .u8 t3, .int .u8 t4, .int .u8 t5, .string noText, .string noText, .slice a6 n6 c6] (.slice a6 n6 c6) [((53, op1 kind), .slice (some ⟨g, 0, none⟩) 1 1), ((54, ip4 sv), .slice (some ⟨g2, 0, none⟩) 4 4)] (w6.setCell ⟨gx, 17, none⟩ (.slice a6 n6 c6))) := HS6.out.set (But.setCell _ _ _ _) ((heap_setCell HS6.out.box).trans rfl)
  have HGL : Hid (g < w6.heap.size ∧ g2 < w6.heap.size) := ⟨(O6.data ((53, op1 kind), .slice (some ⟨g, 0, none⟩) 1 1) (by simp)).lt (b := g) rfl, (O6.data ((54, ip4 sv), .slice (some ⟨g2, 0, none⟩) 4 4) (by simp)).lt (b := g2) rfl⟩
  clear r6 O6 B6 K6 hO hb5 HS5 HS6 HMD3 HME4 HBY HNB
  go_upto_region 7 with (first
    | (at_builtin; refine wpList_append_run _ rfl _ _ _ _ rfl _ _ rfl rfl HR6.out ?_; clear HR6)
    | fail)
  clear x17 y17 f17 cb cd l1 l2 l3 HS4 HX3b HX4
  have HGL2 : Hid (g < (w6.setCell ⟨gx, 17, none⟩ (.slice a6 n6 c6)).heap.size ∧ g2 < (w6.setCell ⟨gx, 17, none⟩ (.slice a6 n6 c6)).heap.size) := hid (by have := HGL.out; simpa [World.setCell] using this)
  generalize w6.setCell ⟨gx, 17, none⟩ (.slice a6 n6 c6) = W6 at *
  go_upto_region 8 with (first
    | (go_at_call 59; refine (HCP.out _ HS7.out.below).mono ?_; rintro e w7 ⟨a7, n7, c7, rfl, HC7⟩)
    | fail)
  obtain ⟨E7, O7, e7, B7⟩ := HC7.out
  have HS7b := hid (HS7.out.keep B7)
  have hlen7 : E7.length = n := by
    have := congrArg List.length e7
    rw [List.length_map, absO_len, ← HN.out] at this
    exact this
  obtain ⟨a8, n8, c8, w8, r8, O8, B8, K8⟩ := HS7b.out.own.join (O7.le HS7.out.below.size) HS7b.out.below.size (fun p hp q hq k hk e => by
    have h1 := O7.dlow q hq k e
    have h2 := HGL2.out
    simp only [List.mem_cons, List.not_mem_nil, or_false] at hp
    rcases hp with rfl | rfl
    · simp [Value.ownBlock] at hk
      omega
    · simp [Value.ownBlock] at hk
      omega) (by have := HFW.out; have := HN.out; simp; omega)
  have HS8 : Hid (RfS w gr gx #[.int .i64 2, .int .i64 0, .int .u32 txid, .int .i64 0, .bool tall, .int .u32 0, .int .u32 yi, .int .u32 0, .int .u32 0, .int .u8 t0, .int .u8 t1, .int .u8 t2, .int .u8 t3, .int .u8 t4, .int .u8 t5, .string noText, .string noText, .slice a6 n6 c6] (.slice a8 n8 c8) ([((53, op1 kind), .slice (some ⟨g, 0, none⟩) 1 1), ((54, ip4 sv), .slice (some ⟨g2, 0, none⟩) 4 4)] ++ E7) w8) := HS7b.out.turn O8 K8 B8
  have HR8 := hid r8
  have x17 := (cell_of_heap HS7b.out.box 17).trans (rfl : (#[.int .i64 2, .int .i64 0, .int .u32 txid, .int .i64 0, .bool tall, .int .u32 0, .int .u32 yi, .int .u32 0, .int .u32 0, .int .u8 t0, .int .u8 t1, .int .u8 t2, .int .u8 t3, .int .u8 t4, .int .u8 t5, .string noText, .string noText, .slice a6 n6 c6] : Array Value)[17]? = some (.slice a6 n6 c6))
  have y17 := (cell_of_heap HS8.out.box 17).trans (rfl : (#[.int .i64 2, .int .i64 0, .int .u32 txid, .int .i64 0, .bool tall, .int .u32 0, .int .u32 yi, .int .u32 0, .int .u32 0, .int .u8 t0, .int .u8 t1, .int .u8 t2, .int .u8 t3, .int .u8 t4, .int .u8 t5, .string noText, .string noText, .slice a6 n6 c6] : Array Value)[17]? = some (.slice a6 n6 c6))
  have f17 := frozen_of_heap HS8.out.box 17
  have HS9 : Hid (RfS w gr gx #[.int .i64 2, .int .i64 0, .int .u32 txid, .int .i64 0, .bool tall, .int .u32 0, .int .u32 yi, .int .u32 0, .int .u32 0, .int .u8 t0, .int .u8 t1, .int .u8 t2, .int .u8 t3, .int .u8 t4, .int .u8 t5, .string noText, .string noText, .slice a8 n8 c8] (.slice a8 n8 c8) ([((53, op1 kind), .slice (some ⟨g, 0, none⟩) 1 1), ((54, ip4 sv), .slice (some ⟨g2, 0, none⟩) 4 4)] ++ E7) (w8.setCell ⟨gx, 17, none⟩ (.slice a8 n8 c8))) := HS8.out.set (But.setCell _ _ _ _) ((heap_setCell HS8.out.box).trans rfl)
  have HE7 : Hid (codes ([((53, op1 kind), Value.slice (some ⟨g, 0, none⟩) 1 1), ((54, ip4 sv), Value.slice (some ⟨g2, 0, none⟩) 4 4)] ++ E7) = (53, op1 kind) :: (54, ip4 sv) :: absO os) := hid (by rw [← e7]; rfl)
  clear r8 O8 B8 K8 O7 e7 B7 HC7 HS7 HS8 hlen7
  go_upto_region 9 with (first
    | (at_builtin; refine wpList_append_run _ rfl _ _ _ _ rfl _ _ rfl rfl HR8.out ?_; clear HR8)
    | fail)
  clear x17 y17 f17 HS7b
  generalize w8.setCell ⟨gx, 17, none⟩ (.slice a8 n8 c8) = W9 at *
  go_wp2_with (first
    | (refine wpList_load_row rfl 28 _ rfl gx rfl 28 #[.int .i64 2, .int .i64 0, .int .u32 txid, .int .i64 0, .bool tall, .int .u32 0, .int .u32 yi, .int .u32 0, .int .u32 0, .int .u8 t0, .int .u8 t1, .int .u8 t2, .int .u8 t3, .int .u8 t4, .int .u8 t5, .string noText, .string noText, .slice a8 n8 c8] (0, 0) _ (by exact HS9.out.box) Try.underlying28 rfl sizeBp ?_)
    | (refine wpList_store_row rfl 28 _ _ rfl gr #[.int .i64 2, .int .i64 0, .int .u32 txid, .int .i64 0, .bool tall, .int .u32 0, .int .u32 yi, .int .u32 0, .int .u32 0, .int .u8 t0, .int .u8 t1, .int .u8 t2, .int .u8 t3, .int .u8 t4, .int .u8 t5, .string noText, .string noText, .slice a8 n8 c8] rfl rfl 28 _ HS9.out.res sizeBp rfl (by simp [Value.oneCell']) ?_)
    | fail)
  refine bodyPost_ret (v := .agg #[.int .i64 2, .int .i64 0, .int .u32 txid, .int .i64 0, .bool tall, .int .u32 0, .int .u32 yi, .int .u32 0, .int .u32 0, .int .u8 t0, .int .u8 t1, .int .u8 t2, .int .u8 t3, .int .u8 t4, .int .u8 t5, .string noText, .string noText, .slice a8 n8 c8]) ?_ (by rfl) ⟨a8, n8, c8, rfl, ⟨_, (HS9.out.done _).1, HE7.out⟩, (HS9.out.done _).2⟩
  exact results_row1 Try.results29 _ _ gr 28 _ (0, 0) _ rfl (setRow_heap _ _ _ _ _ _ HS9.out.res) Try.underlying28 rfl sizeBp
theorem refAnswer_any (kind : Int) (hk : -9223372036854775808 ≤ kind ∧ kind ≤ 9223372036854775807) {tm : Bp} {tg : List Opt} {X : Array Value} (yi sv : Int) (hs : 0 ≤ sv ∧ sv ≤ 4294967295) (a : Option Addr) (c : Nat) (os : List OP) (w : World) (hX : BpV tm tg X w) (h : OV w a os) (hf : os.length ≤ 4294967296) :
    Calls Try.prog 29 #[.int .i64 kind, .agg X, .int .u32 yi, .int .u32 sv, .slice a os.length c] w fun e w' => ∃ Y, e = .returned (.agg Y) ∧ Hid (BpV (ansM kind tm yi) ((53, op1 kind) :: (54, ip4 sv) :: absO os) Y w' ∧ Below w.heap.size w w') := by
  obtain ⟨ta, tos, tc, h1, _, _⟩ := hX
  subst h1
  have fin : ∀ (e : Ending) (w' : World), (∃ a' n' c', e = .returned (.agg ((ansM kind tm yi).cells (.slice a' n' c'))) ∧ Hid (OptI w w' (.slice a' n' c') ((53, op1 kind) :: (54, ip4 sv) :: absO os) ∧ Below w.heap.size w w')) → ∃ Y, e = .returned (.agg Y) ∧ Hid (BpV (ansM kind tm yi) ((53, op1 kind) :: (54, ip4 sv) :: absO os) Y w' ∧ Below w.heap.size w w') := by
    rintro e w' ⟨a', n', c', rfl, HI⟩
    exact ⟨_, rfl, HI.out.1.bp _ (readable_cons (readable_cons h.readable (by simp [ip4]) (by simp) (by rw [absO_len]; omega)) (by simp [op1]) (by simp) (by simp [absO_len]; omega)), HI.out.2⟩
  obtain ⟨top, thops, txid, tsecs, tall, tci, tyi, tsi, tgi, ⟨t0, t1, t2, t3, t4, t5⟩, tsn, tfl⟩ := tm
  unfold ansM at fin ⊢
  by_cases h5 : kind = 5
  · rw [if_pos h5] at fin ⊢
    exact (refAns_yes kind hk h5 top thops txid tsecs tall tci tyi tsi tgi t0 t1 t2 t3 t4 t5 tsn tfl ta tos.length tc yi sv hs a c os w h hf).mono fin
  · rw [if_neg h5] at fin ⊢
    exact (refAns_no kind hk h5 top thops txid tsecs tall tci tyi tsi tgi t0 t1 t2 t3 t4 t5 tsn tfl ta tos.length tc yi sv hs a c os w h hf).mono fin
set_option maxRecDepth 20000 in
set_option maxHeartbeats 2000000 in
theorem refType_any (m : Bp) (a : Option Addr) (c : Nat) (os : List OP) (w : World) (h : OV w a os) :
    Calls Try.prog 23 #[m.val (.slice a os.length c)] w fun e w' => e = .returned (.int .i64 (typN os)) ∧ Hid (Below w.heap.size w w') := by
  obtain ⟨n, hn⟩ : ∃ n, n = os.length := ⟨_, rfl⟩
  rw [← hn]
  have HS := hid (fun wx (hw : Below w.heap.size w wx) => refSmall_any a c os 53 wx (h.below hw))
  rw [← hn] at HS
  unfold typN
  generalize exN (fstP os 53).zs 1 = N at *
  generalize exB (fstP os 53).zs 1 = B at *
  clear hn h
  have H17 : Hid ((m.cells (.slice a n c))[17]? = some (.slice a n c)) := rfl
  unfold Bp.val
  generalize m.cells (.slice a n c) = C at *
  have k1 : (w.alloc (.cells C 28)).cell? ⟨w.heap.size, 17, none⟩ = some (.slice a n c) := (cell_of_heap (heap_new w _) 17).trans H17.out
  go_enter Try.func23, Try.ntmps23
  go_wp2_with (first
    | (go_at_call 53; refine (HS.out _ (bpush (Below.refl _ _) _)).mono ?_; rintro e w1 ⟨rfl, HB⟩)
    | fail)
  go_ret
  exact ⟨rfl, bstep (bpush (Below.refl _ _) _) HB.out⟩
theorem bp_refType {m : Bp} {g : List Opt} {X : Array Value} {W : World} (h : BpV m g X W) :
    Calls Try.prog 23 #[.agg X] W fun e w' => e = .returned (.int .i64 (typG g)) ∧ Hid (Below W.heap.size W w') := by
  obtain ⟨a, os, c, h1, h2, h3⟩ := h
  subst h1
  subst h3
  rw [← typN_abs]
  exact refType_any m a c os W h2
end Go.Proofs.Ytoifblndpcelkaa
