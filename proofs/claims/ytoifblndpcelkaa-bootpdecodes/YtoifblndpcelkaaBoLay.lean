/-
  bootp: lay, numberAt, unlayable, Type; the document's Same.
-/
import Derived.Test.YtoifblndpcelkaaBoNum
import Derived.Test.YtoifblndpcelkaaBStep
import Derived.Test.YtoifblndpcelkaaOFst
import Derived.Deep.RegionLaw
namespace Go.Proofs.Ytoifblndpcelkaa
open Go.RowKit
set_option linter.all false

/-- the bytes of a number of 1, 2 or 4 bytes. -/
def byN (n : Int) (m : Nat) : List Int := if m = 1 then op1 n else if m = 2 then op2 n else ip4 n
theorem byN_bd (n : Int) (m : Nat) : ∀ z, z ∈ byN n m → 0 ≤ z ∧ z ≤ 255 := by
  unfold byN
  split
  · exact op1_bd n
  · split
    · exact op2_bd n
    · exact ip4_bd n
theorem byN_len (n : Int) (m : Nat) (hm : m = 1 ∨ m = 2 ∨ m = 4) : (byN n m).length = m := by
  rcases hm with rfl | rfl | rfl <;> rfl
theorem putN_any (n : Int) (m : Nat) (hm : m = 1 ∨ m = 2 ∨ m = 4) (w : World) (h3 : 0 ≤ n) (h4 : n ≤ 18446744073709551615) :
    Calls Try.prog 91 #[.int .u64 n, .int .i64 m] w fun e w' => e = .returned (.slice (some ⟨w.heap.size, 0, none⟩) m m) ∧ w' = w.alloc (.cells (u8s (byN n m)).toArray 5) := by
  have h := put_yes n m w (by omega) (by omega) h3 (by omega)
  have e : putTo n m m = (u8s (byN n m)).toArray := by
    rcases hm with rfl | rfl | rfl
    · exact putTo1 n
    · exact putTo2 n
    · exact putTo4 n
  rw [e] at h
  exact h
set_option maxRecDepth 20000 in
set_option maxHeartbeats 1000000 in
/-- lay: a number's bytes into b[a:a+m]. -/
theorem lay_any (g len : Nat) (L : List Int) (a m : Nat) (n : Int) (w : World) (hm : m = 1 ∨ m = 2 ∨ m = 4) (hL : L.length = len) (hl : a + m ≤ len) (hl2 : len ≤ 140737488355328) (h3 : 0 ≤ n) (h4 : n ≤ 18446744073709551615)
    (hg : w.heap[g]? = some (.cells (u8s L).toArray 5 (0, 0))) :
    Calls Try.prog 44 #[.slice (some ⟨g, 0, none⟩) len len, .int .i64 a, .int .i64 m, .int .u64 n] w fun e w' =>
      e = .returned (.tuple #[]) ∧ Hid (w'.heap[g]? = some (.cells (u8s (splice L a (byN n m))).toArray 5 (0, 0))) ∧ Hid (But g w w') := by
  have HP : Hid (∀ w, Calls Try.prog 91 #[.int .u64 n, .int .i64 m] w fun e w' => e = .returned (.slice (some ⟨w.heap.size, 0, none⟩) m m) ∧ w' = w.alloc (.cells (u8s (byN n m)).toArray 5)) := fun w => putN_any n m hm w h3 h4
  have HB := hid (byN_bd n m)
  have HN := hid (byN_len n m hm)
  have HG := hid hg
  have HL := hid hL
  have HT := hid hl
  have q1 : (a : Int) ≤ (len : Int) := by omega
  have q2 : a ≤ len := by omega
  have q3 : 1 ≤ m := by omega
  have q5 : ¬ len = a := by omega
  clear hg hL hm
  generalize byN n m = X at *
  go_enter Try.func44, Try.ntmps44
  go_wp2
  go_region_held3 (fun w' => True) (exact trivial) (first
    | (refine step_copy rfl _ _ rfl ⟨some ⟨w.heap.size, 0, none⟩, m, X⟩ g a _ _ L 5 rfl (by show _ = Value.slice _ _ _; rw [HN.out]; rfl) (by exact (heap_old w.drew _ (heap_lt (w := w.drew) HG.out)).trans HG.out) (by exact Part.of_row (heap_new w.drew _) (by rw [HN.out]; omega) HB.out) (by rw [HN.out]; omega) (by have := HT.out; rw [HN.out, HL.out]; omega) ?_; intro w3 hg3 hb3)
    | (go_at_call 91; refine (HP.out _).mono ?_; rintro e w' ⟨rfl, hw⟩; subst w')
    | fail)
  go_wp2
  go_end0
  exact ⟨rfl, hg3, (((But.refl g w).trans (But.drew g w)).trans (But.alloc g _ _)).trans hb3.out⟩
set_option maxHeartbeats 1000000 in
theorem bnumberAt_any (pt : Part) (a m : Nat) (w : World) (hok : pt.ok w) (hl : pt.zs.length ≤ 140737488353280) (h1 : 1 ≤ m) (h8 : m ≤ 8) (hin : a + m ≤ pt.zs.length) :
    Calls Try.prog 62 #[pt.val, .int .i64 a, .int .i64 m] w fun e w' => e = .returned (.int .u64 (getTo pt.zs a m)) ∧ w' = w := by
  have C := get_part pt a m w hok (by omega)
  have hx : (getAns pt.zs a m).1 = getTo pt.zs a m := by
    unfold getAns
    rw [if_neg (by omega), if_neg (by omega)]
    simp
  rw [hx] at C
  generalize getTo pt.zs a m = N at *
  obtain ⟨pa, pc, zs⟩ := pt
  simp only [Part.val] at *
  generalize zs.length = len at *
  generalize (getAns zs a m).2 = E at *
  clear hok hx
  go_enter Try.func62, Try.ntmps62
  go_wp2_with (first
    | (go_at_call 96; refine C.mono ?_; rintro e w1 ⟨rfl, hw⟩; subst w1)
    | fail)
  go_ret
  exact ⟨rfl, rfl⟩
set_option maxHeartbeats 1000000 in
theorem type_any (m : Bp) (a : Option Addr) (c : Nat) (os : List OP) (w : World) (h : OV w a os) :
    Calls Try.prog 22 #[m.val (.slice a os.length c)] w fun e w' => e = .returned (.int .i64 (exN (fstP os 53).zs 1)) ∧ Hid (Below w.heap.size w w') := by
  have C := fun wx (hw : Below w.heap.size w wx) => small_any a c os 53 wx (h.below hw)
  have HC := hid C
  generalize exN (fstP os 53).zs 1 = N at *
  generalize exB (fstP os 53).zs 1 = B at *
  generalize os.length = n at *
  clear C h
  obtain ⟨op, hops, xid, secs, all, ci, yi, si, gi, ⟨b0, b1, b2, b3, b4, b5⟩, sname, file⟩ := m
  simp only [Bp.val, Bp.cells] at *
  go_enter Try.func22, Try.ntmps22
  go_wp2_with (first
    | (go_at_call 52; refine (HC.out _ (bpush (Below.refl _ _) _)).mono ?_; rintro e w1 ⟨rfl, HB⟩)
    | fail)
  go_ret
  exact ⟨rfl, bstep (bpush (Below.refl _ _) _) HB.out⟩
set_option maxRecDepth 20000 in
set_option maxHeartbeats 4000000 in
theorem bsame_yes (m : Bp) (hm : m.ok) (a a' : Option Addr) (c c' : Nat) (os qs : List OP) (w : World) (h : OV w a os) (h' : OV w a' qs) (he : absO os = absO qs) :
    Calls Try.prog 21 #[m.val (.slice a os.length c), m.val (.slice a' qs.length c')] w fun e w' => e = .returned (.bool true) ∧ Hid (Below w.heap.size w w') := by
  have HC := hid (fun wx (hw : Below w.heap.size w wx) => osame_yes a a' c c' os qs wx (h.below hw) (h'.below hw) he)
  have HM := hid (fun w => mac_eq m.mac m.mac hm.mac hm.mac w)
  simp only [decide_true] at HM
  generalize os.length = n at *
  generalize qs.length = n' at *
  clear h h' he hm
  obtain ⟨op, hops, xid, secs, all, ci, yi, si, gi, ⟨b0, b1, b2, b3, b4, b5⟩, sname, file⟩ := m
  simp only [Bp.val, Bp.cells, Mac.val] at *
  have hq := HM.out
  have HH := hid (((Holds.nil w).push (.cells #[.int .i64 op, .int .i64 hops, .int .u32 xid, .int .i64 secs, .bool all, .int .u32 ci, .int .u32 yi, .int .u32 si, .int .u32 gi, .int .u8 b0, .int .u8 b1, .int .u8 b2, .int .u8 b3, .int .u8 b4, .int .u8 b5, .string sname, .string file, .slice a n c] 28)).push (.cells #[.int .i64 op, .int .i64 hops, .int .u32 xid, .int .i64 secs, .bool all, .int .u32 ci, .int .u32 yi, .int .u32 si, .int .u32 gi, .int .u8 b0, .int .u8 b1, .int .u8 b2, .int .u8 b3, .int .u8 b4, .int .u8 b5, .string sname, .string file, .slice a' n' c'] 28))
  go_enter Try.func21, Try.ntmps21
  go_wp2_with (first
    | (go_at_call 51; refine (HC.out _ (bpush (bpush (Below.refl _ _) _) _)).mono ?_; rintro e w1 ⟨rfl, HB⟩
       have k1 := fun q => cell_of_heap ((HH.out.below HB.out).at 1 _ _ rfl) q
       have k2 := fun q => cell_of_heap ((HH.out.below HB.out).at 0 _ _ rfl) q
       simp only [World.size_alloc] at k1 k2)
    | fail)
  go_ret
  exact ⟨by first | rfl | simp_all, bstep (bpush (bpush (Below.refl _ _) _) _) HB.out⟩
end Go.Proofs.Ytoifblndpcelkaa
