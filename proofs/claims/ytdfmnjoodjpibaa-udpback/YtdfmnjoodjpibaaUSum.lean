/-
  A datagram's sum: udp.sumOf and the document's Sum.
-/
import Derived.Test.YtdfmnjoodjpibaaUAct
namespace Go.Proofs.Ytdfmnjoodjpibaa
open Go.RowKit
set_option linter.all false

/-- what the sum goes over, ahead of the bytes. -/
def pre (src dst : Int) (n : Nat) : List Int := ip4 src ++ ip4 dst ++ [0, 17] ++ op2 n
theorem pre_bd (src dst : Int) (n : Nat) : ∀ z, z ∈ pre src dst n → 0 ≤ z ∧ z ≤ 255 := fun z hz => by
  simp [pre, ip4, op2] at hz; omega
theorem pre_len (src dst : Int) (n : Nat) : (pre src dst n).length = 12 := rfl
/-- the sum. -/
def usum (src dst : Int) (zs : List Int) : Int := sumOf (pre src dst zs.length ++ zs)
theorem over_bd (src dst : Int) (n : Nat) {zs : List Int} (h : ∀ z, z ∈ zs → 0 ≤ z ∧ z ≤ 255) : ∀ z, z ∈ pre src dst n ++ zs → 0 ≤ z ∧ z ≤ 255 := fun z hz => by
  rcases List.mem_append.1 hz with hz | hz
  · exact pre_bd _ _ _ z hz
  · exact h z hz
theorem sumOf_bd (l : List Int) (hz : ∀ z, z ∈ l → 0 ≤ z ∧ z ≤ 255) : 0 ≤ sumOf l ∧ sumOf l ≤ 65535 := by
  have := cs_bd (run l).1 (run_bd l hz).1
  unfold sumOf; omega
theorem usum_bd (src dst : Int) {zs : List Int} (h : ∀ z, z ∈ zs → 0 ≤ z ∧ z ≤ 255) : 0 ≤ usum src dst zs ∧ usum src dst zs ≤ 65535 := sumOf_bd _ (over_bd _ _ _ h)

theorem five (p1 p2 p3 p4 p5 : Part) : flat [p1, p2, p3, p4, p5] = p1.zs ++ p2.zs ++ p3.zs ++ p4.zs ++ p5.zs := by simp [flat]
theorem joined5 (w : World) (g : Nat) (p1 p2 p3 p4 p5 : Part) (h1 : p1.ok w) (h2 : p2.ok w) (h3 : p3.ok w) (h4 : p4.ok w) (h5 : p5.ok w) (hg : w.heap[g]? = some (.cells #[p1.val, p2.val, p3.val, p4.val, p5.val] 24 (0, 0))) (hl : (p1.zs ++ p2.zs ++ p3.zs ++ p4.zs ++ p5.zs).length ≤ 140737488355328) :
    Calls Try.prog 20 #[.slice (some ⟨g, 0, none⟩) 5 5] w fun e w' => ∃ a n c, e = .returned (.slice a n c) ∧ Ans w w' (p1.zs ++ p2.zs ++ p3.zs ++ p4.zs ++ p5.zs) a n c := by
  have h := joined_any g 0 5 [p1, p2, p3, p4, p5] w (fun i hi => by
    rw [Nat.zero_add, cell_of_heap hg]
    simp only [List.length_cons, List.length_nil] at hi
    obtain rfl | rfl | rfl | rfl | rfl : i = 0 ∨ i = 1 ∨ i = 2 ∨ i = 3 ∨ i = 4 := by omega
    all_goals rfl) (fun p hp => by
    simp only [List.mem_cons, List.not_mem_nil, or_false] at hp
    rcases hp with rfl | rfl | rfl | rfl | rfl <;> assumption) (by rw [five]; exact hl) (by simp)
  rw [five] at h
  exact h

set_option maxRecDepth 20000 in
set_option maxHeartbeats 1000000 in
theorem sumOf_any (src dst : Int) (pt : Part) (w : World) (s0 : 0 ≤ src ∧ src ≤ 4294967295) (d0 : 0 ≤ dst ∧ dst ≤ 4294967295) (hok : pt.ok w) (hl : pt.zs.length ≤ 70000) :
    Calls Try.prog 22 #[.int .u32 src, .int .u32 dst, pt.val] w fun e w' => e = .returned (.int .u16 (usum src dst pt.zs)) ∧ Below w.heap.size w w' := by
  have A1 : Hid (∀ w, _) := fun w => address_any src w s0.1 s0.2
  have A2 : Hid (∀ w, _) := fun w => address_any dst w d0.1 d0.2
  have A3 : Hid (∀ w, _) := fun w => word_any pt.zs.length w (by omega) (by omega)
  have hh := (((((Holds.nil w).push (.cells (u8s (ip4 src)).toArray 5)).push (.cells (u8s (ip4 dst)).toArray 5)).push (.cells (u8s [0, 17]).toArray 5)).push (.cells (u8s (op2 pt.zs.length)).toArray 5)).push (.cells #[.slice (some ⟨w.heap.size, 0, none⟩) 4 4, .slice (some ⟨w.heap.size + 1, 0, none⟩) 4 4, .slice (some ⟨w.heap.size + 2, 0, none⟩) 2 2, .slice (some ⟨w.heap.size + 3, 0, none⟩) 2 2, pt.val] 24)
  simp only [World.size_alloc] at hh
  have bb := bpush (bpush (bpush (bpush (bpush (Below.refl _ w) (.cells (u8s (ip4 src)).toArray 5)) (.cells (u8s (ip4 dst)).toArray 5)) (.cells (u8s [0, 17]).toArray 5)) (.cells (u8s (op2 pt.zs.length)).toArray 5)) (.cells #[.slice (some ⟨w.heap.size, 0, none⟩) 4 4, .slice (some ⟨w.heap.size + 1, 0, none⟩) 4 4, .slice (some ⟨w.heap.size + 2, 0, none⟩) 2 2, .slice (some ⟨w.heap.size + 3, 0, none⟩) 2 2, pt.val] 24)
  have HJ := hid (joined5 _ (w.heap.size + 4) ⟨some ⟨w.heap.size, 0, none⟩, 4, ip4 src⟩ ⟨some ⟨w.heap.size + 1, 0, none⟩, 4, ip4 dst⟩ ⟨some ⟨w.heap.size + 2, 0, none⟩, 2, [0, 17]⟩ ⟨some ⟨w.heap.size + 3, 0, none⟩, 2, op2 pt.zs.length⟩ pt
    (Part.of_row (hh.at 4 _ _ rfl) (by simp [ip4]) (ip4_bd _)) (Part.of_row (hh.at 3 _ _ rfl) (by simp [ip4]) (ip4_bd _)) (Part.of_row (hh.at 2 _ _ rfl) (by simp) (by simp)) (Part.of_row (hh.at 1 _ _ rfl) (by simp [op2]) (op2_bd _)) (Part.ok_below hok bb) (hh.at 0 _ _ rfl) (by simp [ip4, op2]; omega))
  have HBB := hid bb
  have HO := hid (over_bd src dst pt.zs.length hok.1)
  have HS : Hid (∀ (w' : World) (a : Option Addr) (n c : Nat), Row w' 5 (.slice a n c) (u8s (pre src dst pt.zs.length ++ pt.zs)) → Calls Try.prog 28 #[.slice (some ⟨w'.heap.size, 0, none⟩) 1 1] (w'.alloc (.cells #[.slice a n c] 24)) fun e w'' => e = .returned (.int .u16 (usum src dst pt.zs)) ∧ w'' = w'.alloc (.cells #[.slice a n c] 24)) := fun w' a n c hr => by
    obtain ⟨q, e1, e2, e3⟩ := hr.part HO.out
    rw [e1]
    have h := sum_one w'.heap.size q (w'.alloc (.cells #[q.val] 24)) (by rw [cell_of_heap (heap_new w' _)]; rfl) (Part.ok_below e3 (bpush (Below.refl _ _) _)) (by rw [e2]; simp [pre_len]; omega)
    rw [e2] at h
    exact h
  clear hh bb hok s0 d0 HO
  unfold Part.val at *
  simp only [show (ip4 src).length = 4 from rfl, show (ip4 dst).length = 4 from rfl, show ([0, 17] : List Int).length = 2 from rfl, show (op2 pt.zs.length).length = 2 from rfl] at HJ
  generalize usum src dst pt.zs = SS at *
  have HE : Hid (ip4 src ++ ip4 dst ++ [0, 17] ++ op2 pt.zs.length = pre src dst pt.zs.length) := rfl
  rw [HE.out] at HJ
  clear HE
  generalize pre src dst pt.zs.length = PR at *
  generalize ip4 src = X1 at *
  generalize ip4 dst = X2 at *
  generalize op2 (pt.zs.length : Int) = X3 at *
  generalize pt.zs.length = l at *
  go_enter Try.func22, Try.ntmps22
  go_wp2_with fail
  refine (A1.out _).mono ?_
  rintro e w1 ⟨rfl, hw⟩
  subst w1
  go_wp2_with fail
  refine (A2.out _).mono ?_
  rintro e w1 ⟨rfl, hw⟩
  subst w1
  go_wp2_with fail
  refine (A3.out _).mono ?_
  rintro e w1 ⟨rfl, hw⟩
  subst w1
  go_wp2_with fail
  refine HJ.out.mono ?_
  rintro e w1 ⟨a1, n1, c1, rfl, an⟩
  have HB1 := hid (bstep HBB.out an.2.2)
  have HR1 := hid an.1
  clear an HJ HBB
  go_wp2_with fail
  refine (HS.out _ _ _ _ HR1.out).mono ?_
  rintro e w2 ⟨rfl, hw⟩
  subst w2
  go_wp2
  go_ret
  exact ⟨rfl, bpush HB1.out _⟩

set_option maxRecDepth 20000 in
set_option maxHeartbeats 2000000 in
theorem refSum12_any (src dst : Int) (pt : Part) (w : World) (s0 : 0 ≤ src ∧ src ≤ 4294967295) (d0 : 0 ≤ dst ∧ dst ≤ 4294967295) (hok : pt.ok w) (hl : pt.zs.length ≤ 70000) :
    Calls Try.prog 18 #[.int .u32 src, .int .u32 dst, pt.val] w fun e w' => e = .returned (.int .u16 (usum src dst pt.zs)) ∧ Below w.heap.size w w' := by
  have A1 : Hid (∀ w, _) := fun w => refPut4_any src w s0.1 (by omega)
  have A2 : Hid (∀ w, _) := fun w => refPut4_any dst w d0.1 (by omega)
  have A3 : Hid (∀ w, _) := fun w => refPut2_any pt.zs.length w (by omega) (by omega)
  have k1 : IntKind.u64.wrap src = src := by simp only [IntKind.wrap_u64]; omega
  have k2 : IntKind.u64.wrap dst = dst := by simp only [IntKind.wrap_u64]; omega
  have k3 : IntKind.u64.wrap (pt.zs.length : Int) = (pt.zs.length : Int) := by simp only [IntKind.wrap_u64]; omega
  have hh := (((Holds.nil w).push (.cells (u8s (ip4 src)).toArray 5)).push (.cells (u8s (ip4 dst)).toArray 5)).push (.cells (u8s (op2 pt.zs.length)).toArray 5)
  simp only [World.size_alloc] at hh
  have bb := bpush (bpush (bpush (Below.refl _ w) (.cells (u8s (ip4 src)).toArray 5)) (.cells (u8s (ip4 dst)).toArray 5)) (.cells (u8s (op2 pt.zs.length)).toArray 5)
  have hW : ∃ W, W = ((w.alloc (.cells (u8s (ip4 src)).toArray 5)).alloc (.cells (u8s (ip4 dst)).toArray 5)).alloc (.cells (u8s (op2 pt.zs.length)).toArray 5) := ⟨_, rfl⟩
  obtain ⟨W, hW⟩ := hW
  rw [← hW] at hh bb
  have q1 : Part.ok W ⟨some ⟨w.heap.size, 0, none⟩, 4, ip4 src⟩ := Part.of_row (hh.at 2 _ _ rfl) (by simp [ip4]) (ip4_bd _)
  have q2 : Part.ok W ⟨some ⟨w.heap.size + 1, 0, none⟩, 4, ip4 dst⟩ := Part.of_row (hh.at 1 _ _ rfl) (by simp [ip4]) (ip4_bd _)
  have q4 : Part.ok W ⟨some ⟨w.heap.size + 2, 0, none⟩, 2, op2 pt.zs.length⟩ := Part.of_row (hh.at 0 _ _ rfl) (by simp [op2]) (op2_bd _)
  have q5 := Part.ok_below hok bb
  obtain ⟨a1, n1, c1, w1, r1, o1, b1⟩ := (OwnB.nil W).app _ q1 (by simp [ip4]) 24
  obtain ⟨a2, n2, c2, w2, r2, o2, b2⟩ := o1.app _ (Part.ok_below q2 b1) (by simp [ip4]) 24
  have b2' := (b1.trans b2)
  have b3' := b2'.trans (((Below.refl w2.heap.size w2).alloc (Nat.le_refl _) (.cells (u8s [0, 17]).toArray 5)).mono o2.2.2)
  obtain ⟨a3, n3, c3, w3, r3, o3, b3⟩ := (o2.below ((Below.refl w2.heap.size w2).alloc (Nat.le_refl _) (.cells (u8s [0, 17]).toArray 5))).app ⟨some ⟨w2.heap.size, 0, none⟩, 2, [0, 17]⟩ (Part.of_row (heap_new w2 _) (by simp) (by simp)) (by simp [ip4]) 24
  have b4' := b3'.trans b3
  obtain ⟨a4, n4, c4, w4, r4, o4, b4⟩ := o3.app _ (Part.ok_below q4 b4') (by simp [ip4, op2]) 24
  have b5' := b4'.trans b4
  obtain ⟨a5, n5, c5, w5, r5, o5, b5⟩ := o4.app _ (Part.ok_below q5 b5') (by simp [ip4, op2]; omega) 24
  have b6' := b5'.trans b5
  have HB := hid (bb.trans (b6'.mono bb.size))
  have HO := hid (over_bd src dst pt.zs.length hok.1)
  have HS : Hid (Calls Try.prog 26 #[.slice a5 n5 c5] w5 fun e w' => e = .returned (.int .u16 (usum src dst pt.zs)) ∧ Below w5.heap.size w5 w') := by
    obtain ⟨q, e1, e2, e3⟩ := Row.part (zs := pre src dst pt.zs.length ++ pt.zs) o5.1 HO.out
    have h := refSumOf_any q w5 e3 (by rw [e2]; simp [pre_len]; omega)
    rw [← e1, e2] at h
    exact h
  have R1 := hid r1
  have R2 := hid r2
  have R3 := hid r3
  have R4 := hid r4
  have R5 := hid r5
  unfold Part.val at R1 R2 R3 R4 R5
  simp only [show (ip4 src).length = 4 from rfl, show (ip4 dst).length = 4 from rfl, show ([0, 17] : List Int).length = 2 from rfl, show (op2 pt.zs.length).length = 2 from rfl] at R1 R2 R3 R4 R5
  have HW := hid hW
  clear hh bb q1 q2 q4 q5 r1 r2 r3 r4 r5 o1 o2 o3 o4 o5 b1 b2 b3 b4 b5 b2' b3' b4' b5' b6' hok s0 d0 HO hW
  unfold Part.val
  generalize usum src dst pt.zs = SS at *
  generalize ip4 src = X1 at *
  generalize ip4 dst = X2 at *
  generalize op2 (pt.zs.length : Int) = X3 at *
  generalize pt.zs.length = l at *
  go_enter Try.func18, Try.ntmps18
  go_wp2_with fail
  refine (A1.out _).mono ?_
  rintro e wx ⟨rfl, hw⟩
  subst wx
  go_wp2_with fail
  refine (A2.out _).mono ?_
  rintro e wx ⟨rfl, hw⟩
  subst wx
  go_wp2_with fail
  refine (A3.out _).mono ?_
  rintro e wx ⟨rfl, hw⟩
  subst wx
  rw [← HW.out]
  go_wp2_with (first
    | (at_builtin; refine wpList_append_run _ rfl _ _ 24 24 rfl _ _ rfl rfl R1.out ?_; clear R1)
    | (at_builtin; refine wpList_append_run _ rfl _ _ 24 24 rfl _ _ rfl rfl R2.out ?_; clear R2)
    | (at_builtin; refine wpList_append_run _ rfl _ _ 24 24 rfl _ _ rfl rfl R3.out ?_; clear R3)
    | (at_builtin; refine wpList_append_run _ rfl _ _ 24 24 rfl _ _ rfl rfl R4.out ?_; clear R4)
    | (at_builtin; refine wpList_append_run _ rfl _ _ 24 24 rfl _ _ rfl rfl R5.out ?_; clear R5)
    | fail)
  refine HS.out.mono ?_
  rintro e wx ⟨rfl, hb⟩
  have HB2 := hid (bstep HB.out hb)
  clear hb
  go_wp2
  go_ret
  exact ⟨rfl, HB2.out⟩
end Go.Proofs.Ytdfmnjoodjpibaa
