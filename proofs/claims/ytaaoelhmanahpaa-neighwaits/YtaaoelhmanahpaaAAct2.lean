/-
  Tell, Probe, Ask: the program's and the document's.
-/
import Derived.Test.YtaaoelhmanahpaaAAct
namespace Go.Proofs.Ytaaoelhmanahpaa
open Go.RowKit
set_option linter.all false

def Z15 : Array Value := #[.int .i64 0, .int .u8 0, .int .u8 0, .int .u8 0, .int .u8 0, .int .u8 0, .int .u8 0, .int .u32 0, .int .u8 0, .int .u8 0, .int .u8 0, .int .u8 0, .int .u8 0, .int .u8 0, .int .u32 0]
def tellP (m : Mac) (p : Arp) : Arp := ⟨2, m, p.di, p.s, p.si⟩
set_option maxHeartbeats 400000 in
theorem refAsk_any (m : Mac) (src dst : Int) (w : World) : Calls Try.prog 24 #[m.val, .int .u32 src, .int .u32 dst] w fun e w' => e = .returned (askP m src dst).val ∧ Below w.heap.size w w' := by
  obtain ⟨s0, s1, s2, s3, s4, s5⟩ := m
  simp only [Arp.val, Mac.val, askP, zeroMac]
  go_enter Try.func24, Try.ntmps24
  go_wp2
  exact bodyPost_ret (v := .agg #[.int .i64 1, .int .u8 s0, .int .u8 s1, .int .u8 s2, .int .u8 s3, .int .u8 s4, .int .u8 s5, .int .u32 src, .int .u8 0, .int .u8 0, .int .u8 0, .int .u8 0, .int .u8 0, .int .u8 0, .int .u32 dst]) (by simp [results, Try.results24, go_sem]) rfl ⟨rfl, bpush (bpush (Below.refl _ _) _) _⟩

set_option maxHeartbeats 400000 in
theorem tell_any (m : Mac) (p : Arp) (w : World) : Calls Try.prog 49 #[m.val, p.val] w fun e w' => e = .returned (tellP m p).val ∧ Below w.heap.size w w' := by
  obtain ⟨m0, m1, m2, m3, m4, m5⟩ := m
  obtain ⟨o, ⟨s0, s1, s2, s3, s4, s5⟩, si, ⟨d0, d1, d2, d3, d4, d5⟩, di⟩ := p
  simp only [Arp.val, Mac.val, tellP]
  go_enter Try.func49, Try.ntmps49
  go_wp2
  exact bodyPost_ret (v := .agg #[.int .i64 2, .int .u8 m0, .int .u8 m1, .int .u8 m2, .int .u8 m3, .int .u8 m4, .int .u8 m5, .int .u32 di, .int .u8 s0, .int .u8 s1, .int .u8 s2, .int .u8 s3, .int .u8 s4, .int .u8 s5, .int .u32 si]) (by simp [results, Try.results49, go_sem]) rfl ⟨rfl, bpush (bpush (bpush (Below.refl _ _) _) _) _⟩

set_option maxHeartbeats 400000 in
theorem refTell_any (m : Mac) (p : Arp) (w : World) : Calls Try.prog 23 #[m.val, p.val] w fun e w' => e = .returned (tellP m p).val ∧ Below w.heap.size w w' := by
  obtain ⟨m0, m1, m2, m3, m4, m5⟩ := m
  obtain ⟨o, ⟨s0, s1, s2, s3, s4, s5⟩, si, ⟨d0, d1, d2, d3, d4, d5⟩, di⟩ := p
  simp only [Arp.val, Mac.val, tellP]
  go_enter Try.func23, Try.ntmps23
  go_wp2
  exact bodyPost_ret (v := .agg #[.int .i64 2, .int .u8 m0, .int .u8 m1, .int .u8 m2, .int .u8 m3, .int .u8 m4, .int .u8 m5, .int .u32 di, .int .u8 s0, .int .u8 s1, .int .u8 s2, .int .u8 s3, .int .u8 s4, .int .u8 s5, .int .u32 si]) (by simp [results, Try.results23, go_sem]) rfl ⟨rfl, bpush (bpush (bpush (Below.refl _ _) _) _) _⟩

set_option maxHeartbeats 400000 in
theorem refProbe_any (m : Mac) (ip : Int) (w : World) : Calls Try.prog 25 #[m.val, .int .u32 ip] w fun e w' => e = .returned (askP m 0 ip).val ∧ Below w.heap.size w w' := by
  have HA : Hid (∀ w, Calls Try.prog 24 #[m.val, .int .u32 0, .int .u32 ip] w fun e w' => e = .returned (askP m 0 ip).val ∧ Below w.heap.size w w') := fun w => refAsk_any m 0 ip w
  obtain ⟨s0, s1, s2, s3, s4, s5⟩ := m
  simp only [Arp.val, Mac.val, askP, zeroMac] at *
  go_enter Try.func25, Try.ntmps25
  go_wp2_with fail
  refine (HA.out _).mono ?_
  rintro e w1 ⟨rfl, hb1⟩
  have HB := hid (bstep (bpush (bpush (Below.refl _ _) (.cells #[.int .u8 s0, .int .u8 s1, .int .u8 s2, .int .u8 s3, .int .u8 s4, .int .u8 s5] 24)) (.cells Z15 42)) hb1)
  have HG := hid (kept (g := w.heap.size + 1) (by have := heap_new (w.alloc (.cells #[.int .u8 s0, .int .u8 s1, .int .u8 s2, .int .u8 s3, .int .u8 s4, .int .u8 s5] 24)) (.cells Z15 42); rwa [World.size_alloc] at this) hb1)
  clear hb1
  go_wp2_with (first
    | (refine wpList_store_row rfl 42 _ _ rfl (w.heap.size + 1) #[.int .i64 1, .int .u8 s0, .int .u8 s1, .int .u8 s2, .int .u8 s3, .int .u8 s4, .int .u8 s5, .int .u32 0, .int .u8 0, .int .u8 0, .int .u8 0, .int .u8 0, .int .u8 0, .int .u8 0, .int .u32 ip] rfl rfl 42 _ HG.out (by kernel_rfl) rfl (by first | kernel_rfl | simp [Value.oneCell']) ?_) | fail)
  refine bodyPost_ret (v := .agg #[.int .i64 1, .int .u8 s0, .int .u8 s1, .int .u8 s2, .int .u8 s3, .int .u8 s4, .int .u8 s5, .int .u32 0, .int .u8 0, .int .u8 0, .int .u8 0, .int .u8 0, .int .u8 0, .int .u8 0, .int .u32 ip]) ?_ (by rfl) ⟨rfl, bbut HB.out (But.setRow _ _ _) (by omega)⟩
  exact results_row1 Try.results25 _ _ (w.heap.size + 1) 42 _ (0, 0) _ rfl (setRow_heap w1 _ _ _ _ _ HG.out) Try.underlying42 rfl (by kernel_rfl)

end Go.Proofs.Ytaaoelhmanahpaa
