/-
  The walk of the statement ArpMakes.
-/
import Derived.Test.YtecpmfkceeonlaaALive
namespace Go.Proofs.Ytecpmfkceeonlaa
open Go.RowKit
set_option linter.all false

set_option maxRecDepth 20000 in
set_option maxHeartbeats 4000000 in
theorem arpMakes_walk (own : Mac) (src dst : Int) (p : Arp) (w : World) (ho : own.ok) (hs : 0 ≤ src ∧ src ≤ 4294967295) (hd : 0 ≤ dst ∧ dst ≤ 4294967295) (hp : p.ok) :
    Calls Try.prog 6 #[own.val, .int .u32 src, .int .u32 dst, p.val] w fun e w' => e = .returned (.bool true) ∧ Below w.heap.size w w' := by
  have C1 : Hid (∀ w, _) := fun w => ask_any own src dst w
  have C2 : Hid (∀ w, _) := fun w => probe_any own dst w
  have C3 : Hid (∀ w, _) := fun w => tell_any own p w
  have C4 : Hid (∀ w, _) := fun w => refAsk_any own src dst w
  have C5 : Hid (∀ w, _) := fun w => refProbe_any own dst w
  have C6 : Hid (∀ w, _) := fun w => refTell_any own p w
  have C7 : Hid (∀ w, _) := fun w => clash_any own src p w ho hp
  have C8 : Hid (∀ w, _) := fun w => clash_any own dst p w ho hp
  have C9 : Hid (∀ w, _) := fun w => refClash_any own src p w ho hp
  have CA : Hid (∀ w, _) := fun w => refClash_any own dst p w ho hp
  have oA : (askP own src dst).ok := ⟨by simp [askP], ho, hs, zeroMac_ok, hd⟩
  have oB : (askP own 0 dst).ok := ⟨by simp [askP], ho, by simp [askP], zeroMac_ok, hd⟩
  have oC : (tellP own p).ok := ⟨by simp [tellP], ho, hp.2.2.2.2, hp.2.1, hp.2.2.1⟩
  have q1 := arp_eq _ _ oA oA
  have q2 := arp_eq _ _ oB oB
  have q3 := arp_eq _ _ oC oC
  rw [decide_eq_true rfl] at q1 q2 q3
  clear oA oB oC
  generalize clashB own src p = X1 at *
  generalize clashB own dst p = X2 at *
  obtain ⟨o, ⟨s0, s1, s2, s3, s4, s5⟩, si, ⟨d0, d1, d2, d3, d4, d5⟩, di⟩ := p
  obtain ⟨o0, o1, o2, o3, o4, o5⟩ := own
  simp only [Mac.val, Arp.val, askP, tellP, zeroMac] at C1 C2 C3 C4 C5 C6 C7 C8 C9 CA q1 q2 q3 ⊢
  clear ho hp
  go_enter Try.func6, Try.ntmps6
  go_wp2_with fail
  refine (live_any _).mono ?_
  rintro e w1 ⟨rfl, hb1⟩
  have HH1 := hid ((((Holds.nil w).push (.cells #[.int .u8 o0, .int .u8 o1, .int .u8 o2, .int .u8 o3, .int .u8 o4, .int .u8 o5] 24)).push (.cells #[.int .i64 o, .int .u8 s0, .int .u8 s1, .int .u8 s2, .int .u8 s3, .int .u8 s4, .int .u8 s5, .int .u32 si, .int .u8 d0, .int .u8 d1, .int .u8 d2, .int .u8 d3, .int .u8 d4, .int .u8 d5, .int .u32 di] 27)).below hb1)
  have HB1 := hid (bstep (bpush (bpush (Below.refl _ w) (.cells #[.int .u8 o0, .int .u8 o1, .int .u8 o2, .int .u8 o3, .int .u8 o4, .int .u8 o5] 24)) (.cells #[.int .i64 o, .int .u8 s0, .int .u8 s1, .int .u8 s2, .int .u8 s3, .int .u8 s4, .int .u8 s5, .int .u32 si, .int .u8 d0, .int .u8 d1, .int .u8 d2, .int .u8 d3, .int .u8 d4, .int .u8 d5, .int .u32 di] 27)) hb1)
  rw [World.size_alloc] at HH1
  clear hb1
  have co : ∀ q, w1.cell? ⟨w.heap.size, q, none⟩ = (#[.int .u8 o0, .int .u8 o1, .int .u8 o2, .int .u8 o3, .int .u8 o4, .int .u8 o5] : Array Value)[q]? := fun q => cell_of_heap (HH1.out.at 1 _ _ rfl) q
  have cp : ∀ q, w1.cell? ⟨w.heap.size + 1, q, none⟩ = (#[.int .i64 o, .int .u8 s0, .int .u8 s1, .int .u8 s2, .int .u8 s3, .int .u8 s4, .int .u8 s5, .int .u32 si, .int .u8 d0, .int .u8 d1, .int .u8 d2, .int .u8 d3, .int .u8 d4, .int .u8 d5, .int .u32 di] : Array Value)[q]? := fun q => cell_of_heap (HH1.out.at 0 _ _ rfl) q
  have no : w.heap.size < w1.heap.size := heap_lt (HH1.out.at 1 _ _ rfl)
  have np : w.heap.size + 1 < w1.heap.size := heap_lt (HH1.out.at 0 _ _ rfl)
  go_wp2_with fail
  refine (C1.out _).mono ?_
  rintro e w2 ⟨rfl, hb2⟩
  have HH2 := hid (HH1.out.below hb2)
  have HB2 := hid (bstep HB1.out hb2)
  clear hb2 HH1 HB1 co cp no np
  have co : ∀ q, w2.cell? ⟨w.heap.size, q, none⟩ = (#[.int .u8 o0, .int .u8 o1, .int .u8 o2, .int .u8 o3, .int .u8 o4, .int .u8 o5] : Array Value)[q]? := fun q => cell_of_heap (HH2.out.at 1 _ _ rfl) q
  have cp : ∀ q, w2.cell? ⟨w.heap.size + 1, q, none⟩ = (#[.int .i64 o, .int .u8 s0, .int .u8 s1, .int .u8 s2, .int .u8 s3, .int .u8 s4, .int .u8 s5, .int .u32 si, .int .u8 d0, .int .u8 d1, .int .u8 d2, .int .u8 d3, .int .u8 d4, .int .u8 d5, .int .u32 di] : Array Value)[q]? := fun q => cell_of_heap (HH2.out.at 0 _ _ rfl) q
  have no : w.heap.size < w2.heap.size := heap_lt (HH2.out.at 1 _ _ rfl)
  have np : w.heap.size + 1 < w2.heap.size := heap_lt (HH2.out.at 0 _ _ rfl)
  go_wp2_with fail
  refine (C2.out _).mono ?_
  rintro e w3 ⟨rfl, hb3⟩
  have HH3 := hid ((HH2.out.push (.cells #[.int .i64 1, .int .u8 o0, .int .u8 o1, .int .u8 o2, .int .u8 o3, .int .u8 o4, .int .u8 o5, .int .u32 src, .int .u8 0, .int .u8 0, .int .u8 0, .int .u8 0, .int .u8 0, .int .u8 0, .int .u32 dst] 27)).below hb3)
  have HB3 := hid (bstep (bpush HB2.out (.cells #[.int .i64 1, .int .u8 o0, .int .u8 o1, .int .u8 o2, .int .u8 o3, .int .u8 o4, .int .u8 o5, .int .u32 src, .int .u8 0, .int .u8 0, .int .u8 0, .int .u8 0, .int .u8 0, .int .u8 0, .int .u32 dst] 27)) hb3)
  generalize w2.heap.size = g2 at *
  clear hb3 HH2 HB2 co cp no np
  as_aux_lemma =>
    have co : ∀ q, w3.cell? ⟨w.heap.size, q, none⟩ = (#[.int .u8 o0, .int .u8 o1, .int .u8 o2, .int .u8 o3, .int .u8 o4, .int .u8 o5] : Array Value)[q]? := fun q => cell_of_heap (HH3.out.at 2 _ _ rfl) q
    have cp : ∀ q, w3.cell? ⟨w.heap.size + 1, q, none⟩ = (#[.int .i64 o, .int .u8 s0, .int .u8 s1, .int .u8 s2, .int .u8 s3, .int .u8 s4, .int .u8 s5, .int .u32 si, .int .u8 d0, .int .u8 d1, .int .u8 d2, .int .u8 d3, .int .u8 d4, .int .u8 d5, .int .u32 di] : Array Value)[q]? := fun q => cell_of_heap (HH3.out.at 1 _ _ rfl) q
    have no : w.heap.size < w3.heap.size := heap_lt (HH3.out.at 2 _ _ rfl)
    have np : w.heap.size + 1 < w3.heap.size := heap_lt (HH3.out.at 1 _ _ rfl)
    go_wp2_with fail
    refine (C3.out _).mono ?_
    rintro e w4 ⟨rfl, hb4⟩
    have HH4 := hid ((HH3.out.push (.cells #[.int .i64 1, .int .u8 o0, .int .u8 o1, .int .u8 o2, .int .u8 o3, .int .u8 o4, .int .u8 o5, .int .u32 0, .int .u8 0, .int .u8 0, .int .u8 0, .int .u8 0, .int .u8 0, .int .u8 0, .int .u32 dst] 27)).below hb4)
    have HB4 := hid (bstep (bpush HB3.out (.cells #[.int .i64 1, .int .u8 o0, .int .u8 o1, .int .u8 o2, .int .u8 o3, .int .u8 o4, .int .u8 o5, .int .u32 0, .int .u8 0, .int .u8 0, .int .u8 0, .int .u8 0, .int .u8 0, .int .u8 0, .int .u32 dst] 27)) hb4)
    generalize w3.heap.size = g3 at *
    clear hb4 HH3 HB3 co cp no np
    have co : ∀ q, w4.cell? ⟨w.heap.size, q, none⟩ = (#[.int .u8 o0, .int .u8 o1, .int .u8 o2, .int .u8 o3, .int .u8 o4, .int .u8 o5] : Array Value)[q]? := fun q => cell_of_heap (HH4.out.at 3 _ _ rfl) q
    have cp : ∀ q, w4.cell? ⟨w.heap.size + 1, q, none⟩ = (#[.int .i64 o, .int .u8 s0, .int .u8 s1, .int .u8 s2, .int .u8 s3, .int .u8 s4, .int .u8 s5, .int .u32 si, .int .u8 d0, .int .u8 d1, .int .u8 d2, .int .u8 d3, .int .u8 d4, .int .u8 d5, .int .u32 di] : Array Value)[q]? := fun q => cell_of_heap (HH4.out.at 2 _ _ rfl) q
    have no : w.heap.size < w4.heap.size := heap_lt (HH4.out.at 3 _ _ rfl)
    have np : w.heap.size + 1 < w4.heap.size := heap_lt (HH4.out.at 2 _ _ rfl)
    go_wp2_with fail
    refine (C4.out _).mono ?_
    rintro e w5 ⟨rfl, hb5⟩
    have HH5 := hid ((HH4.out.push (.cells #[.int .i64 2, .int .u8 o0, .int .u8 o1, .int .u8 o2, .int .u8 o3, .int .u8 o4, .int .u8 o5, .int .u32 di, .int .u8 s0, .int .u8 s1, .int .u8 s2, .int .u8 s3, .int .u8 s4, .int .u8 s5, .int .u32 si] 27)).below hb5)
    have HB5 := hid (bstep (bpush HB4.out (.cells #[.int .i64 2, .int .u8 o0, .int .u8 o1, .int .u8 o2, .int .u8 o3, .int .u8 o4, .int .u8 o5, .int .u32 di, .int .u8 s0, .int .u8 s1, .int .u8 s2, .int .u8 s3, .int .u8 s4, .int .u8 s5, .int .u32 si] 27)) hb5)
    generalize w4.heap.size = g4 at *
    clear hb5 HH4 HB4 co cp no np
    as_aux_lemma =>
      have co : ∀ q, w5.cell? ⟨w.heap.size, q, none⟩ = (#[.int .u8 o0, .int .u8 o1, .int .u8 o2, .int .u8 o3, .int .u8 o4, .int .u8 o5] : Array Value)[q]? := fun q => cell_of_heap (HH5.out.at 4 _ _ rfl) q
      have cp : ∀ q, w5.cell? ⟨w.heap.size + 1, q, none⟩ = (#[.int .i64 o, .int .u8 s0, .int .u8 s1, .int .u8 s2, .int .u8 s3, .int .u8 s4, .int .u8 s5, .int .u32 si, .int .u8 d0, .int .u8 d1, .int .u8 d2, .int .u8 d3, .int .u8 d4, .int .u8 d5, .int .u32 di] : Array Value)[q]? := fun q => cell_of_heap (HH5.out.at 3 _ _ rfl) q
      have no : w.heap.size < w5.heap.size := heap_lt (HH5.out.at 4 _ _ rfl)
      have np : w.heap.size + 1 < w5.heap.size := heap_lt (HH5.out.at 3 _ _ rfl)
      go_wp2_with fail
      refine (C5.out _).mono ?_
      rintro e w6 ⟨rfl, hb6⟩
      have HH6 := hid ((HH5.out.push (.cells #[.int .i64 1, .int .u8 o0, .int .u8 o1, .int .u8 o2, .int .u8 o3, .int .u8 o4, .int .u8 o5, .int .u32 src, .int .u8 0, .int .u8 0, .int .u8 0, .int .u8 0, .int .u8 0, .int .u8 0, .int .u32 dst] 27)).below hb6)
      have HB6 := hid (bstep (bpush HB5.out (.cells #[.int .i64 1, .int .u8 o0, .int .u8 o1, .int .u8 o2, .int .u8 o3, .int .u8 o4, .int .u8 o5, .int .u32 src, .int .u8 0, .int .u8 0, .int .u8 0, .int .u8 0, .int .u8 0, .int .u8 0, .int .u32 dst] 27)) hb6)
      generalize w5.heap.size = g5 at *
      clear hb6 HH5 HB5 co cp no np
      have co : ∀ q, w6.cell? ⟨w.heap.size, q, none⟩ = (#[.int .u8 o0, .int .u8 o1, .int .u8 o2, .int .u8 o3, .int .u8 o4, .int .u8 o5] : Array Value)[q]? := fun q => cell_of_heap (HH6.out.at 5 _ _ rfl) q
      have cp : ∀ q, w6.cell? ⟨w.heap.size + 1, q, none⟩ = (#[.int .i64 o, .int .u8 s0, .int .u8 s1, .int .u8 s2, .int .u8 s3, .int .u8 s4, .int .u8 s5, .int .u32 si, .int .u8 d0, .int .u8 d1, .int .u8 d2, .int .u8 d3, .int .u8 d4, .int .u8 d5, .int .u32 di] : Array Value)[q]? := fun q => cell_of_heap (HH6.out.at 4 _ _ rfl) q
      have no : w.heap.size < w6.heap.size := heap_lt (HH6.out.at 5 _ _ rfl)
      have np : w.heap.size + 1 < w6.heap.size := heap_lt (HH6.out.at 4 _ _ rfl)
      go_wp2_with fail
      refine (C6.out _).mono ?_
      rintro e w7 ⟨rfl, hb7⟩
      have HH7 := hid ((HH6.out.push (.cells #[.int .i64 1, .int .u8 o0, .int .u8 o1, .int .u8 o2, .int .u8 o3, .int .u8 o4, .int .u8 o5, .int .u32 0, .int .u8 0, .int .u8 0, .int .u8 0, .int .u8 0, .int .u8 0, .int .u8 0, .int .u32 dst] 27)).below hb7)
      have HB7 := hid (bstep (bpush HB6.out (.cells #[.int .i64 1, .int .u8 o0, .int .u8 o1, .int .u8 o2, .int .u8 o3, .int .u8 o4, .int .u8 o5, .int .u32 0, .int .u8 0, .int .u8 0, .int .u8 0, .int .u8 0, .int .u8 0, .int .u8 0, .int .u32 dst] 27)) hb7)
      generalize w6.heap.size = g6 at *
      clear hb7 HH6 HB6 co cp no np
      as_aux_lemma =>
        have co : ∀ q, w7.cell? ⟨w.heap.size, q, none⟩ = (#[.int .u8 o0, .int .u8 o1, .int .u8 o2, .int .u8 o3, .int .u8 o4, .int .u8 o5] : Array Value)[q]? := fun q => cell_of_heap (HH7.out.at 6 _ _ rfl) q
        have cp : ∀ q, w7.cell? ⟨w.heap.size + 1, q, none⟩ = (#[.int .i64 o, .int .u8 s0, .int .u8 s1, .int .u8 s2, .int .u8 s3, .int .u8 s4, .int .u8 s5, .int .u32 si, .int .u8 d0, .int .u8 d1, .int .u8 d2, .int .u8 d3, .int .u8 d4, .int .u8 d5, .int .u32 di] : Array Value)[q]? := fun q => cell_of_heap (HH7.out.at 5 _ _ rfl) q
        have no : w.heap.size < w7.heap.size := heap_lt (HH7.out.at 6 _ _ rfl)
        have np : w.heap.size + 1 < w7.heap.size := heap_lt (HH7.out.at 5 _ _ rfl)
        go_wp2_with fail
        refine (C7.out _).mono ?_
        rintro e w8 ⟨rfl, hb8⟩
        have HH8 := hid ((HH7.out.push (.cells #[.int .i64 2, .int .u8 o0, .int .u8 o1, .int .u8 o2, .int .u8 o3, .int .u8 o4, .int .u8 o5, .int .u32 di, .int .u8 s0, .int .u8 s1, .int .u8 s2, .int .u8 s3, .int .u8 s4, .int .u8 s5, .int .u32 si] 27)).below hb8)
        have HB8 := hid (bstep (bpush HB7.out (.cells #[.int .i64 2, .int .u8 o0, .int .u8 o1, .int .u8 o2, .int .u8 o3, .int .u8 o4, .int .u8 o5, .int .u32 di, .int .u8 s0, .int .u8 s1, .int .u8 s2, .int .u8 s3, .int .u8 s4, .int .u8 s5, .int .u32 si] 27)) hb8)
        generalize w7.heap.size = g7 at *
        clear hb8 HH7 HB7 co cp no np
        have co : ∀ q, w8.cell? ⟨w.heap.size, q, none⟩ = (#[.int .u8 o0, .int .u8 o1, .int .u8 o2, .int .u8 o3, .int .u8 o4, .int .u8 o5] : Array Value)[q]? := fun q => cell_of_heap (HH8.out.at 7 _ _ rfl) q
        have cp : ∀ q, w8.cell? ⟨w.heap.size + 1, q, none⟩ = (#[.int .i64 o, .int .u8 s0, .int .u8 s1, .int .u8 s2, .int .u8 s3, .int .u8 s4, .int .u8 s5, .int .u32 si, .int .u8 d0, .int .u8 d1, .int .u8 d2, .int .u8 d3, .int .u8 d4, .int .u8 d5, .int .u32 di] : Array Value)[q]? := fun q => cell_of_heap (HH8.out.at 6 _ _ rfl) q
        have no : w.heap.size < w8.heap.size := heap_lt (HH8.out.at 7 _ _ rfl)
        have np : w.heap.size + 1 < w8.heap.size := heap_lt (HH8.out.at 6 _ _ rfl)
        go_wp2_with fail
        refine (C8.out _).mono ?_
        rintro e w9 ⟨rfl, hb9⟩
        have HH9 := hid (HH8.out.below hb9)
        have HB9 := hid (bstep HB8.out hb9)
        clear hb9 HH8 HB8 co cp no np
        as_aux_lemma =>
          have co : ∀ q, w9.cell? ⟨w.heap.size, q, none⟩ = (#[.int .u8 o0, .int .u8 o1, .int .u8 o2, .int .u8 o3, .int .u8 o4, .int .u8 o5] : Array Value)[q]? := fun q => cell_of_heap (HH9.out.at 7 _ _ rfl) q
          have cp : ∀ q, w9.cell? ⟨w.heap.size + 1, q, none⟩ = (#[.int .i64 o, .int .u8 s0, .int .u8 s1, .int .u8 s2, .int .u8 s3, .int .u8 s4, .int .u8 s5, .int .u32 si, .int .u8 d0, .int .u8 d1, .int .u8 d2, .int .u8 d3, .int .u8 d4, .int .u8 d5, .int .u32 di] : Array Value)[q]? := fun q => cell_of_heap (HH9.out.at 6 _ _ rfl) q
          have no : w.heap.size < w9.heap.size := heap_lt (HH9.out.at 7 _ _ rfl)
          have np : w.heap.size + 1 < w9.heap.size := heap_lt (HH9.out.at 6 _ _ rfl)
          go_wp2_with fail
          refine (C9.out _).mono ?_
          rintro e w10 ⟨rfl, hb10⟩
          have HH10 := hid (HH9.out.below hb10)
          have HB10 := hid (bstep HB9.out hb10)
          clear hb10 HH9 HB9 co cp no np
          have co : ∀ q, w10.cell? ⟨w.heap.size, q, none⟩ = (#[.int .u8 o0, .int .u8 o1, .int .u8 o2, .int .u8 o3, .int .u8 o4, .int .u8 o5] : Array Value)[q]? := fun q => cell_of_heap (HH10.out.at 7 _ _ rfl) q
          have cp : ∀ q, w10.cell? ⟨w.heap.size + 1, q, none⟩ = (#[.int .i64 o, .int .u8 s0, .int .u8 s1, .int .u8 s2, .int .u8 s3, .int .u8 s4, .int .u8 s5, .int .u32 si, .int .u8 d0, .int .u8 d1, .int .u8 d2, .int .u8 d3, .int .u8 d4, .int .u8 d5, .int .u32 di] : Array Value)[q]? := fun q => cell_of_heap (HH10.out.at 6 _ _ rfl) q
          have no : w.heap.size < w10.heap.size := heap_lt (HH10.out.at 7 _ _ rfl)
          have np : w.heap.size + 1 < w10.heap.size := heap_lt (HH10.out.at 6 _ _ rfl)
          go_wp2_with fail
          refine (CA.out _).mono ?_
          rintro e w11 ⟨rfl, hb11⟩
          have HH11 := hid (HH10.out.below hb11)
          have HB11 := hid (bstep HB10.out hb11)
          clear hb11 HH10 HB10 co cp no np
          have c7 : ∀ q, w11.cell? ⟨g7, q, none⟩ = (#[.int .i64 2, .int .u8 o0, .int .u8 o1, .int .u8 o2, .int .u8 o3, .int .u8 o4, .int .u8 o5, .int .u32 di, .int .u8 s0, .int .u8 s1, .int .u8 s2, .int .u8 s3, .int .u8 s4, .int .u8 s5, .int .u32 si] : Array Value)[q]? := fun q => cell_of_heap (HH11.out.at 0 _ _ rfl) q
          have c6 : ∀ q, w11.cell? ⟨g6, q, none⟩ = (#[.int .i64 1, .int .u8 o0, .int .u8 o1, .int .u8 o2, .int .u8 o3, .int .u8 o4, .int .u8 o5, .int .u32 0, .int .u8 0, .int .u8 0, .int .u8 0, .int .u8 0, .int .u8 0, .int .u8 0, .int .u32 dst] : Array Value)[q]? := fun q => cell_of_heap (HH11.out.at 1 _ _ rfl) q
          have c5 : ∀ q, w11.cell? ⟨g5, q, none⟩ = (#[.int .i64 1, .int .u8 o0, .int .u8 o1, .int .u8 o2, .int .u8 o3, .int .u8 o4, .int .u8 o5, .int .u32 src, .int .u8 0, .int .u8 0, .int .u8 0, .int .u8 0, .int .u8 0, .int .u8 0, .int .u32 dst] : Array Value)[q]? := fun q => cell_of_heap (HH11.out.at 2 _ _ rfl) q
          have c4 : ∀ q, w11.cell? ⟨g4, q, none⟩ = (#[.int .i64 2, .int .u8 o0, .int .u8 o1, .int .u8 o2, .int .u8 o3, .int .u8 o4, .int .u8 o5, .int .u32 di, .int .u8 s0, .int .u8 s1, .int .u8 s2, .int .u8 s3, .int .u8 s4, .int .u8 s5, .int .u32 si] : Array Value)[q]? := fun q => cell_of_heap (HH11.out.at 3 _ _ rfl) q
          have c3 : ∀ q, w11.cell? ⟨g3, q, none⟩ = (#[.int .i64 1, .int .u8 o0, .int .u8 o1, .int .u8 o2, .int .u8 o3, .int .u8 o4, .int .u8 o5, .int .u32 0, .int .u8 0, .int .u8 0, .int .u8 0, .int .u8 0, .int .u8 0, .int .u8 0, .int .u32 dst] : Array Value)[q]? := fun q => cell_of_heap (HH11.out.at 4 _ _ rfl) q
          have c2 : ∀ q, w11.cell? ⟨g2, q, none⟩ = (#[.int .i64 1, .int .u8 o0, .int .u8 o1, .int .u8 o2, .int .u8 o3, .int .u8 o4, .int .u8 o5, .int .u32 src, .int .u8 0, .int .u8 0, .int .u8 0, .int .u8 0, .int .u8 0, .int .u8 0, .int .u32 dst] : Array Value)[q]? := fun q => cell_of_heap (HH11.out.at 5 _ _ rfl) q
          have x1 : (X1 == X1) = true := by simp
          have x2 : (X2 == X2) = true := by simp
          go_wp2
          go_ret
          exact ⟨by simp, HB11.out⟩
end Go.Proofs.Ytecpmfkceeonlaa
