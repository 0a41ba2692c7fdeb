/-
  The walk of the statement ArpDecodes.
-/
import Derived.Test.YtecpmfkceeonlaaARefH
import Derived.Test.YtecpmfkceeonlaaALive
import Derived.Test.YtecpmfkceeonlaaBLent
namespace Go.Proofs.Ytecpmfkceeonlaa
open Go.RowKit
set_option linter.all false

theorem decA_ok {zs : List Int} (h : ∀ z, z ∈ zs → 0 ≤ z ∧ z ≤ 255) : (decA zs).ok := by
  unfold decA
  split
  · exact zeroArp_ok
  · split
    · exact decP_ok h
    · exact zeroArp_ok
theorem decode_lent (pt : Part) (g : Nat) (w : World) (hz : ∀ z, z ∈ pt.zs → 0 ≤ z ∧ z ≤ 255) (hl : pt.zs.length ≤ 140737488351232) (hg : w.heap[g]? = some (.cells (L2 pt.zs) 5 (0, 0))) :
    Calls Try.prog 14 #[.slice (some ⟨g, 0, none⟩) pt.zs.length (pt.zs.length + 2)] w fun e w' => e = .returned (.tuple #[(decA pt.zs).val, .int .i64 (decE pt.zs)]) ∧ Below w.heap.size w w' :=
  decode_any ⟨some ⟨g, 0, none⟩, pt.zs.length + 2, pt.zs⟩ w (Part.of_heap hg 0 (by omega) (fun j hj => by rw [Nat.zero_add]; exact L2_lo pt.zs j hj) hz) hl

set_option maxRecDepth 20000 in
set_option maxHeartbeats 4000000 in
theorem arpDecodes_walk (pt qt : Part) (w : World) (hp : pt.ok w) (hz : pt.zs.length ≤ 140737488351232) (hq : qt.ok w) (hqz : qt.zs.length ≤ 140737488351232) :
    Calls Try.prog 5 #[pt.val, qt.val] w fun e w' => e = .returned (.bool true) ∧ Below w.heap.size w w' := by
  have C1 : Hid (∀ w', Below w.heap.size w w' → _) := fun w' hb => lent_any pt w' (Part.ok_below hp hb) hz
  have C2 : Hid (∀ (g : Nat) (w' : World), w'.heap[g]? = some (.cells (L2 pt.zs) 5 (0, 0)) → _) := fun g w' hg => decode_lent pt g w' hp.1 hz hg
  have C3 : Hid (∀ w', Below w.heap.size w w' → _) := fun w' hb => decode_any qt w' (Part.ok_below hq hb) hqz
  have C4 : Hid (∀ (g : Nat) (w' : World), Below w.heap.size w w' → w'.heap[g]? = some (.cells (L2 pt.zs) 5 (0, 0)) → _) := fun g w' hb hg => asLent_any g pt w' (Part.ok_below hp hb) hz hg
  have C5 : Hid (∀ w', Below w.heap.size w w' → _) := fun w' hb => refDecode_any pt w' (Part.ok_below hp hb) hz
  have C6 : Hid (∀ w', Below w.heap.size w w' → _) := fun w' hb => refDecode_any qt w' (Part.ok_below hq hb) hqz
  have q1 := arp_eq (decA pt.zs) (decA pt.zs) (decA_ok hp.1) (decA_ok hp.1)
  have q2 := arp_eq (decA qt.zs) (decA qt.zs) (decA_ok hq.1) (decA_ok hq.1)
  rw [decide_eq_true rfl] at q1 q2
  generalize decA pt.zs = A at *
  generalize decA qt.zs = B at *
  generalize decE pt.zs = E at *
  generalize decE qt.zs = F at *
  generalize L2 pt.zs = LL at *
  obtain ⟨pa, pc, ps⟩ := pt
  obtain ⟨qa, qc, qs⟩ := qt
  simp only [Part.val] at *
  clear hp hq
  generalize ps.length = l at *
  generalize qs.length = m at *
  obtain ⟨xo, ⟨xs0, xs1, xs2, xs3, xs4, xs5⟩, xi, ⟨xd0, xd1, xd2, xd3, xd4, xd5⟩, xj⟩ := A
  obtain ⟨yo, ⟨ys0, ys1, ys2, ys3, ys4, ys5⟩, yi, ⟨yd0, yd1, yd2, yd3, yd4, yd5⟩, yj⟩ := B
  simp only [Arp.val] at C1 C2 C3 C4 C5 C6 q1 q2 ⊢
  go_enter Try.func5, Try.ntmps5
  go_wp2_with fail
  refine (live_any _).mono ?_
  rintro e w1 ⟨rfl, hb1⟩
  have HB1 := hid hb1
  clear hb1
  go_wp2_with fail
  refine (C1.out _ HB1.out).mono ?_
  rintro e w2 ⟨rfl, hw2⟩
  have HH2 : Hid (Holds w2 [(w1.heap.size, .cells LL 5)]) := by rw [hw2]; exact (Holds.nil w1).push _
  have HB2 : Hid (Below w.heap.size w w2) := by rw [hw2]; exact bpush HB1.out _
  have h21 : w.heap.size ≤ w1.heap.size := HB1.out.size
  clear hw2 HB1
  generalize w1.heap.size = gl at *
  go_wp2_with fail
  refine (C2.out gl _ (HH2.out.at 0 _ _ rfl)).mono ?_
  rintro e w3 ⟨rfl, hb3⟩
  have HH3 := hid (HH2.out.below hb3)
  have HB3 := hid (bstep HB2.out hb3)
  clear hb3 HH2 HB2
  go_wp2_with fail
  refine (C3.out _ (bpush HB3.out _)).mono ?_
  rintro e w4 ⟨rfl, hb4⟩
  have HH4 := hid ((HH3.out.push (.cells #[.int .i64 xo, .int .u8 xs0, .int .u8 xs1, .int .u8 xs2, .int .u8 xs3, .int .u8 xs4, .int .u8 xs5, .int .u32 xi, .int .u8 xd0, .int .u8 xd1, .int .u8 xd2, .int .u8 xd3, .int .u8 xd4, .int .u8 xd5, .int .u32 xj] 27)).below hb4)
  have HB4 := hid (bstep (bpush HB3.out (.cells #[.int .i64 xo, .int .u8 xs0, .int .u8 xs1, .int .u8 xs2, .int .u8 xs3, .int .u8 xs4, .int .u8 xs5, .int .u32 xi, .int .u8 xd0, .int .u8 xd1, .int .u8 xd2, .int .u8 xd3, .int .u8 xd4, .int .u8 xd5, .int .u32 xj] 27)) hb4)
  have g3 : gl < w3.heap.size := heap_lt (HH3.out.at 0 _ _ rfl)
  clear hb4 HH3 HB3
  generalize w3.heap.size = gp at *
  as_aux_lemma =>
    go_wp2_with fail
    refine (C2.out gl _ ((HH4.out.push _).at 2 _ _ rfl)).mono ?_
    rintro e w5 ⟨rfl, hb5⟩
    have HH5 := hid ((HH4.out.push (.cells #[.int .i64 yo, .int .u8 ys0, .int .u8 ys1, .int .u8 ys2, .int .u8 ys3, .int .u8 ys4, .int .u8 ys5, .int .u32 yi, .int .u8 yd0, .int .u8 yd1, .int .u8 yd2, .int .u8 yd3, .int .u8 yd4, .int .u8 yd5, .int .u32 yj] 27)).below hb5)
    have HB5 := hid (bstep (bpush HB4.out (.cells #[.int .i64 yo, .int .u8 ys0, .int .u8 ys1, .int .u8 ys2, .int .u8 ys3, .int .u8 ys4, .int .u8 ys5, .int .u32 yi, .int .u8 yd0, .int .u8 yd1, .int .u8 yd2, .int .u8 yd3, .int .u8 yd4, .int .u8 yd5, .int .u32 yj] 27)) hb5)
    have g4 : gp < w4.heap.size := heap_lt (HH4.out.at 0 _ _ rfl)
    clear hb5 HH4 HB4
    generalize w4.heap.size = gq at *
    go_wp2_with fail
    refine (C4.out gl _ (bpush HB5.out _) ((HH5.out.push _).at 3 _ _ rfl)).mono ?_
    rintro e w6 ⟨rfl, bt6⟩
    have g5 : gq < w5.heap.size := heap_lt (HH5.out.at 0 _ _ rfl)
    have HH6 : Hid (Holds w6 [(w5.heap.size, .cells #[.int .i64 xo, .int .u8 xs0, .int .u8 xs1, .int .u8 xs2, .int .u8 xs3, .int .u8 xs4, .int .u8 xs5, .int .u32 xi, .int .u8 xd0, .int .u8 xd1, .int .u8 xd2, .int .u8 xd3, .int .u8 xd4, .int .u8 xd5, .int .u32 xj] 27), (gq, .cells #[.int .i64 yo, .int .u8 ys0, .int .u8 ys1, .int .u8 ys2, .int .u8 ys3, .int .u8 ys4, .int .u8 ys5, .int .u32 yi, .int .u8 yd0, .int .u8 yd1, .int .u8 yd2, .int .u8 yd3, .int .u8 yd4, .int .u8 yd5, .int .u32 yj] 27), (gp, .cells #[.int .i64 xo, .int .u8 xs0, .int .u8 xs1, .int .u8 xs2, .int .u8 xs3, .int .u8 xs4, .int .u8 xs5, .int .u32 xi, .int .u8 xd0, .int .u8 xd1, .int .u8 xd2, .int .u8 xd3, .int .u8 xd4, .int .u8 xd5, .int .u32 xj] 27)]) := by
      have h := HH5.out.push (.cells #[.int .i64 xo, .int .u8 xs0, .int .u8 xs1, .int .u8 xs2, .int .u8 xs3, .int .u8 xs4, .int .u8 xs5, .int .u32 xi, .int .u8 xd0, .int .u8 xd1, .int .u8 xd2, .int .u8 xd3, .int .u8 xd4, .int .u8 xd5, .int .u32 xj] 27)
      exact (((Holds.nil w6).cons (keptBut (h.at 2 _ _ rfl) bt6 (by omega))).cons (keptBut (h.at 1 _ _ rfl) bt6 (by omega))).cons (keptBut (h.at 0 _ _ rfl) bt6 (by omega))
    have HB6 := hid (bbut (bpush HB5.out (.cells #[.int .i64 xo, .int .u8 xs0, .int .u8 xs1, .int .u8 xs2, .int .u8 xs3, .int .u8 xs4, .int .u8 xs5, .int .u32 xi, .int .u8 xd0, .int .u8 xd1, .int .u8 xd2, .int .u8 xd3, .int .u8 xd4, .int .u8 xd5, .int .u32 xj] 27)) bt6 h21)
    clear bt6 HH5 HB5
    generalize w5.heap.size = gr at *
    as_aux_lemma =>
      go_wp2_with fail
      refine (C5.out _ HB6.out).mono ?_
      rintro e w7 ⟨rfl, hb7⟩
      have HH7 := hid (HH6.out.below hb7)
      have HB7 := hid (bstep HB6.out hb7)
      clear hb7 HH6 HB6
      go_wp2_with fail
      refine (C6.out _ (bpush HB7.out _)).mono ?_
      rintro e w8 ⟨rfl, hb8⟩
      have HH8 := hid ((HH7.out.push (.cells #[.int .i64 xo, .int .u8 xs0, .int .u8 xs1, .int .u8 xs2, .int .u8 xs3, .int .u8 xs4, .int .u8 xs5, .int .u32 xi, .int .u8 xd0, .int .u8 xd1, .int .u8 xd2, .int .u8 xd3, .int .u8 xd4, .int .u8 xd5, .int .u32 xj] 27)).below hb8)
      have HB8 := hid (bstep (bpush HB7.out (.cells #[.int .i64 xo, .int .u8 xs0, .int .u8 xs1, .int .u8 xs2, .int .u8 xs3, .int .u8 xs4, .int .u8 xs5, .int .u32 xi, .int .u8 xd0, .int .u8 xd1, .int .u8 xd2, .int .u8 xd3, .int .u8 xd4, .int .u8 xd5, .int .u32 xj] 27)) hb8)
      have g7 : gr < w7.heap.size := heap_lt (HH7.out.at 0 _ _ rfl)
      clear hb8 HH7 HB7
      generalize w7.heap.size = gw at *
      have cw : ∀ q, w8.cell? ⟨gw, q, none⟩ = (#[.int .i64 xo, .int .u8 xs0, .int .u8 xs1, .int .u8 xs2, .int .u8 xs3, .int .u8 xs4, .int .u8 xs5, .int .u32 xi, .int .u8 xd0, .int .u8 xd1, .int .u8 xd2, .int .u8 xd3, .int .u8 xd4, .int .u8 xd5, .int .u32 xj] : Array Value)[q]? := fun q => cell_of_heap (HH8.out.at 0 _ _ rfl) q
      have cr : ∀ q, w8.cell? ⟨gr, q, none⟩ = (#[.int .i64 xo, .int .u8 xs0, .int .u8 xs1, .int .u8 xs2, .int .u8 xs3, .int .u8 xs4, .int .u8 xs5, .int .u32 xi, .int .u8 xd0, .int .u8 xd1, .int .u8 xd2, .int .u8 xd3, .int .u8 xd4, .int .u8 xd5, .int .u32 xj] : Array Value)[q]? := fun q => cell_of_heap (HH8.out.at 1 _ _ rfl) q
      have cq : ∀ q, w8.cell? ⟨gq, q, none⟩ = (#[.int .i64 yo, .int .u8 ys0, .int .u8 ys1, .int .u8 ys2, .int .u8 ys3, .int .u8 ys4, .int .u8 ys5, .int .u32 yi, .int .u8 yd0, .int .u8 yd1, .int .u8 yd2, .int .u8 yd3, .int .u8 yd4, .int .u8 yd5, .int .u32 yj] : Array Value)[q]? := fun q => cell_of_heap (HH8.out.at 2 _ _ rfl) q
      have cp : ∀ q, w8.cell? ⟨gp, q, none⟩ = (#[.int .i64 xo, .int .u8 xs0, .int .u8 xs1, .int .u8 xs2, .int .u8 xs3, .int .u8 xs4, .int .u8 xs5, .int .u32 xi, .int .u8 xd0, .int .u8 xd1, .int .u8 xd2, .int .u8 xd3, .int .u8 xd4, .int .u8 xd5, .int .u32 xj] : Array Value)[q]? := fun q => cell_of_heap (HH8.out.at 3 _ _ rfl) q
      have nw : gw < w8.heap.size := heap_lt (HH8.out.at 0 _ _ rfl)
      have nr : gr < w8.heap.size := heap_lt (HH8.out.at 1 _ _ rfl)
      have nq : gq < w8.heap.size := heap_lt (HH8.out.at 2 _ _ rfl)
      have np : gp < w8.heap.size := heap_lt (HH8.out.at 3 _ _ rfl)
      have hE : (E == E) = true := by simp
      have hF : (F == F) = true := by simp
      go_wp2
      go_ret
      exact ⟨by simp, bpush HB8.out _⟩
end Go.Proofs.Ytecpmfkceeonlaa
