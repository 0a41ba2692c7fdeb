/-
  Port: live.
-/
import Derived.Test.YthipdchdbdmmnaaPLT
import Derived.Test.YthipdchdbdmmnaaPSame
namespace Go.Proofs.Ythipdchdbdmmnaa
open Go.RowKit
set_option linter.all false

def lD1 : Dg := ⟨0, 0, 0, 68, [97]⟩
def lD2 : Dg := ⟨0, 0, 0, 68, []⟩
def lS1 : List Pa := [⟨68, 0, []⟩]
def lS2 : List Pa := [⟨68, 0, []⟩, ⟨49155, 0, []⟩]
def lS3 : List Pa := [⟨68, 0, [lD1]⟩, ⟨49155, 0, []⟩]
def lS4 : List Pa := [⟨68, 1, [lD1]⟩, ⟨49155, 0, []⟩]
def lS5 : List Pa := [⟨68, 1, []⟩, ⟨49155, 0, []⟩]
theorem live1 : openE 2 [] 68 = 0 ∧ openF 2 [] 68 = lS1 := by decide
theorem live2 : openE 2 lS1 68 = 130 ∧ openF 2 lS1 68 = lS1 := by decide
theorem live3 : pickV 2 lS1 [3] = 49155 ∧ pickE 2 lS1 = 0 ∧ pickF 2 lS1 [3] = lS2 ∧ pickZ 2 lS1 [3] = [] := by decide
theorem live4 : putE 1 lS2 lD1 = 0 ∧ putF 1 lS2 lD1 = lS3 := by decide
theorem live5 : putE 1 lS3 lD2 = 3 ∧ putF 1 lS3 lD2 = lS4 := by decide
theorem live6 : takeD lS4 68 = some lD1 ∧ takeF lS4 68 = lS5 := by decide
theorem okD1 : lD1.ok := ⟨by simp [lD1], by simp [lD1], by simp [lD1, ipOk], by simp [lD1, ipOk], by simp [lD1]⟩
theorem okD2 : lD2.ok := ⟨by simp [lD2], by simp [lD2], by simp [lD2, ipOk], by simp [lD2, ipOk], by simp [lD2]⟩
theorem ip68 : ipOk 68 := by unfold ipOk; omega
/-- the row that is asked for. -/
theorem want_row (w : World) : RowS (w.alloc (.cells #[.int .i64 68, .int .i64 0, .int .i64 1, .int .i64 49155, .int .i64 0, .int .i64 0] 72)) 72 3 (.slice (some ⟨w.heap.size, 0, none⟩) lS5.length 2) lS5.length (pst lS5) :=
  ⟨rfl, Or.inr ⟨w.heap.size, 2, _, rfl, Nat.zero_le _, heap_new w _, by decide, by decide, rfl, rfl⟩⟩
theorem in5 : ∀ y ∈ lS5, y.in64 := by
  intro y hy
  simp [lS5] at hy
  rcases hy with rfl | rfl <;> exact ⟨by unfold ipOk; simp, by unfold ipOk; simp, by unfold ipOk; simp⟩
set_option maxRecDepth 40000 in
set_option maxHeartbeats 2000000 in
theorem live_any (w : World) : Calls Try.prog 7 #[] w fun e w' => e = .returned (.bool true) ∧ Hid (Below w.heap.size w w') := by
  have HN := hid (pnew_yes 2 1 w (by omega))
  have HD : Hid (∀ w1 : World, Calls Try.prog 12 #[.slice (some ⟨w1.heap.size, 0, none⟩) 1 1] (w1.alloc (.cells #[.int .u32 3] 50)) fun e w' => ∃ p a' c', e = .returned (.pointer (some ⟨p, 0, none⟩)) ∧ Hid (MadeI 92 (w1.alloc (.cells #[.int .u32 3] 50)) w' p a' c' [3])) := fun w1 =>
    new_any (some ⟨w1.heap.size, 0, none⟩) 1 [3] _ ⟨by simp [Words], by simp, Or.inr ⟨w1.heap.size, 0, rfl, fun j hj => by
      have hj0 : j = 0 := by simp at hj; omega
      subst hj0
      exact cell_of_heap (heap_new w1 _) 0⟩⟩ (by simp)
  have H1 : Hid (∀ (w1 : World) (c m p : Nat), LT w w1 c m 2 1 [] p [3] → Calls Try.prog 17 #[.pointer (some ⟨c, 0, none⟩), .int .i64 68] w1 fun e w' => e = .returned (.int .i64 0) ∧ Hid (LT w w' c m 2 1 lS1 p [3])) := fun w1 c m p h => by
    have := lt_open h 68 ip68
    rwa [live1.1, live1.2] at this
  have H2 : Hid (∀ (w1 : World) (c m p : Nat), LT w w1 c m 2 1 lS1 p [3] → Calls Try.prog 17 #[.pointer (some ⟨c, 0, none⟩), .int .i64 68] w1 fun e w' => e = .returned (.int .i64 130) ∧ Hid (LT w w' c m 2 1 lS1 p [3])) := fun w1 c m p h => by
    have := lt_open h 68 ip68
    rwa [live2.1, live2.2] at this
  have H3 : Hid (∀ (w1 : World) (c m p : Nat), LT w w1 c m 2 1 lS1 p [3] → Calls Try.prog 18 #[.pointer (some ⟨c, 0, none⟩), .pointer (some ⟨p, 0, none⟩)] w1 fun e w' => e = .returned (.tuple #[.int .i64 49155, .int .i64 0]) ∧ Hid (LT w w' c m 2 1 lS2 p [])) := fun w1 c m p h => by
    have := lt_pick h (by decide)
    rwa [live3.1, live3.2.1, live3.2.2.1, live3.2.2.2] at this
  have H4 : Hid (∀ (w1 : World) (c m p : Nat), LT w w1 c m 2 1 lS2 p [] → Calls Try.prog 19 #[.pointer (some ⟨c, 0, none⟩), .agg #[.int .u32 0, .int .u32 0, .int .i64 0, .int .i64 68, .slice (some ⟨w1.heap.size, 0, none⟩) 1 1]] (w1.alloc (.cells #[.int .u8 97] 5 (1, 2))) fun e w' => e = .returned (.int .i64 0) ∧ Hid (LT w w' c m 2 1 lS3 p [])) := fun w1 c m p h => by
    have := lt_put (h.below (balloc w1 (.cells #[.int .u8 97] 5 (1, 2)))) lD1 (some ⟨w1.heap.size, 0, none⟩) 1 okD1 (Part.of_row (heap_new w1 _) (by decide) okD1.zs) (by decide) (by decide)
    rwa [live4.1, live4.2] at this
  have H5 : Hid (∀ (w1 : World) (c m p : Nat), LT w w1 c m 2 1 lS3 p [] → Calls Try.prog 19 #[.pointer (some ⟨c, 0, none⟩), .agg #[.int .u32 0, .int .u32 0, .int .i64 0, .int .i64 68, .slice none 0 0]] w1 fun e w' => e = .returned (.int .i64 3) ∧ Hid (LT w w' c m 2 1 lS4 p [])) := fun w1 c m p h => by
    have := lt_put h lD2 none 0 okD2 (Part.nil_ok w1) (by decide) (by decide)
    rwa [live5.1, live5.2] at this
  have H6 : Hid (∀ (w1 : World) (c m p : Nat), LT w w1 c m 2 1 lS4 p [] → Calls Try.prog 21 #[.pointer (some ⟨c, 0, none⟩), .int .i64 68] w1 fun e w' => ∃ va vc, e = .returned (.tuple #[.agg #[.int .u32 0, .int .u32 0, .int .i64 0, .int .i64 68, .slice va 1 vc], .bool true]) ∧ Hid (LT w w' c m 2 1 lS5 p []) ∧ Hid (Row w' 5 (.slice va 1 vc) (u8s [97]))) := fun w1 c m p h => by
    have := lt_take_some h 68 ip68 lD1 live6.1
    rw [live6.2] at this
    exact this.mono fun e w' ⟨va, vc, h1, h2, h3, h4⟩ => ⟨va, vc, h1, h2, h3⟩
  have H7 : Hid (∀ (w1 : World) (c m p : Nat), LT w w1 c m 2 1 lS5 p [] → Calls Try.prog 9 #[.pointer (some ⟨c, 0, none⟩)] w1 fun e w' => ∃ la lc, e = .returned (.slice la 2 lc) ∧ Hid (PLk w1 w' la 2 lc lS5) ∧ Hid (LT w w' c m 2 1 lS5 p [])) := fun w1 c m p h => lt_look h
  have H8 : Hid (∀ (w1 : World) (la : Option Addr) (lc : Nat), RowS w1 72 3 (.slice la 2 lc) 2 (pst lS5) → Calls Try.prog 23 #[.slice la 2 lc, .slice (some ⟨w1.heap.size, 0, none⟩) 2 2] (w1.alloc (.cells #[.int .i64 68, .int .i64 0, .int .i64 1, .int .i64 49155, .int .i64 0, .int .i64 0] 72)) fun e w' => e = .returned (.bool true) ∧ ∃ k, w' = (w1.alloc (.cells #[.int .i64 68, .int .i64 0, .int .i64 1, .int .i64 49155, .int .i64 0, .int .i64 0] 72)).drewN k) := fun w1 la lc h =>
    same_states _ la _ lc 2 lS5 (RowS.below h (balloc _ _)) (want_row w1) in5 (by decide)
  have hcv : ∀ w5 : World, (convert 51 51 (.slice (some ⟨w5.heap.size, 0, none⟩) 1 1)).run Try.prog (w5.alloc (.cells #[.int .u8 97] 5)) = .ok (.slice (some ⟨w5.heap.size, 0, none⟩) 1 1) (w5.alloc (.cells #[.int .u8 97] 5 (1, 2))) := fun w5 => conv_const _ _ _ _ _ rfl
  have HST : Hid (∀ w8 : World, (w8.alloc (.cells #[.int .u32 0, .int .u32 0, .int .i64 0, .int .i64 0, .slice none 0 0] 53)).heap[w8.heap.size]? = some (.cells #[.int .u32 0, .int .u32 0, .int .i64 0, .int .i64 0, .slice none 0 0] 53 (0, 0))) := fun w8 => heap_new _ _
  have HEND : Hid (∀ (w8 w10 : World) (va : Option Addr) (vc c m p la lc k : Nat), Row w8 5 (.slice va 1 vc) (u8s [97]) → LT w w8 c m 2 1 lS5 p [] → Below ((w8.alloc (.cells #[.int .u32 0, .int .u32 0, .int .i64 0, .int .i64 0, .slice none 0 0] 53)).setRow w8.heap.size #[.int .u32 0, .int .u32 0, .int .i64 0, .int .i64 68, .slice va 1 vc]).heap.size ((w8.alloc (.cells #[.int .u32 0, .int .u32 0, .int .i64 0, .int .i64 0, .slice none 0 0] 53)).setRow w8.heap.size #[.int .u32 0, .int .u32 0, .int .i64 0, .int .i64 68, .slice va 1 vc]) w10 →
      (∀ j, ((w10.alloc (.cells #[.int .i64 68, .int .i64 0, .int .i64 1, .int .i64 49155, .int .i64 0, .int .i64 0] 72)).drewN k).cell? ⟨w8.heap.size, j, none⟩ = (#[.int .u32 0, .int .u32 0, .int .i64 0, .int .i64 68, .slice va 1 vc] : Array Value)[j]?) ∧ (convert 51 9 (.slice va 1 vc)).run Try.prog ((w10.alloc (.cells #[.int .i64 68, .int .i64 0, .int .i64 1, .int .i64 49155, .int .i64 0, .int .i64 0] 72)).drewN k) = .ok (.string (strOfNums [97])) ((w10.alloc (.cells #[.int .i64 68, .int .i64 0, .int .i64 1, .int .i64 49155, .int .i64 0, .int .i64 0] 72)).drewN k) ∧ Hid (Below w.heap.size w ((w10.alloc (.cells #[.int .i64 68, .int .i64 0, .int .i64 1, .int .i64 49155, .int .i64 0, .int .i64 0] 72)).drewN k))) := fun w8 w10 va vc c m p la lc k hr ht hb => by
    have h8 := heap_new w8 (.cells #[.int .u32 0, .int .u32 0, .int .i64 0, .int .i64 0, .slice none 0 0] 53)
    have hset : But w8.heap.size (w8.alloc (.cells #[.int .u32 0, .int .u32 0, .int .i64 0, .int .i64 0, .slice none 0 0] 53)) ((w8.alloc (.cells #[.int .u32 0, .int .u32 0, .int .i64 0, .int .i64 0, .slice none 0 0] 53)).setRow w8.heap.size #[.int .u32 0, .int .u32 0, .int .i64 0, .int .i64 68, .slice va 1 vc]) := But.setRow _ _ _
    have hb9 : Below w8.heap.size w8 ((w8.alloc (.cells #[.int .u32 0, .int .u32 0, .int .i64 0, .int .i64 0, .slice none 0 0] 53)).setRow w8.heap.size #[.int .u32 0, .int .u32 0, .int .i64 0, .int .i64 68, .slice va 1 vc]) := bbut (balloc w8 _) hset (Nat.le_refl _)
    have hb11 : Below w10.heap.size w10 ((w10.alloc (.cells #[.int .i64 68, .int .i64 0, .int .i64 1, .int .i64 49155, .int .i64 0, .int .i64 0] 72)).drewN k) := bstep (balloc _ _) (below_drewN _ k)
    have hbx := kept (kept (setRow_heap _ _ _ #[.int .u32 0, .int .u32 0, .int .i64 0, .int .i64 68, .slice va 1 vc] _ _ h8) hb) hb11
    have hB : Below w8.heap.size w8 ((w10.alloc (.cells #[.int .i64 68, .int .i64 0, .int .i64 1, .int .i64 49155, .int .i64 0, .int .i64 0] 72)).drewN k) := bstep (bstep hb9 hb) hb11
    exact ⟨fun j => cell_of_heap hbx j, (hr.below hB).conv0 (by simp), bstep ht.bel hB⟩
  have HEQ : Hid (∀ wx : World, (binOp .eql 9 (.string (strOfNums [97])) (.string { data := #[97] })).run Try.prog wx = .ok (.bool true) wx) := fun wx => by kernel_rfl
  have heq := HEQ.out
  go_enter Try.func7, Try.ntmps7
  go_wp2_with (first
    | (go_at_call 8; refine HN.out.mono ?_; go_loud (rintro e w1 ⟨c, m, rfl, HP⟩; clear HN))
    | (go_at_call 12; refine (HD.out w1).mono ?_; go_loud (rintro e w2 ⟨p, pa, pc, rfl, HM⟩; have HT0 := hid (lt_made HP.out (balloc w1 _) HM.out); clear HM HP HD))
    | (go_at_call 17; have _t := HT0; refine (H1.out _ c m p HT0.out).mono ?_; go_loud (rintro e w3 ⟨rfl, HT1⟩; clear HT0 H1))
    | (go_at_call 17; have _t := HT1; refine (H2.out _ c m p HT1.out).mono ?_; go_loud (rintro e w4 ⟨rfl, HT2⟩; clear HT1 H2))
    | (go_at_call 18; refine (H3.out _ c m p HT2.out).mono ?_; go_loud (rintro e w5 ⟨rfl, HT3⟩; clear HT2 H3))
    | (go_at_call 19; have _t := HT3; refine (H4.out _ c m p HT3.out).mono ?_; go_loud (rintro e w6 ⟨rfl, HT4⟩; clear HT3 H4))
    | (go_at_call 19; have _t := HT4; refine (H5.out _ c m p HT4.out).mono ?_; go_loud (rintro e w7 ⟨rfl, HT5⟩; clear HT4 H5))
    | (go_at_call 21; refine (H6.out _ c m p HT5.out).mono ?_; go_loud (rintro e w8 ⟨va, vc, rfl, HT6, HRW⟩; clear HT5 H6))
    | (have _t := HT6; refine wpList_store_row rfl 53 _ _ rfl w8.heap.size #[.int .u32 0, .int .u32 0, .int .i64 0, .int .i64 68, .slice va 1 vc] rfl rfl 53 _ (HST.out w8) (by kernel_rfl) rfl (by first | kernel_rfl | simp [Value.oneCell']) ?_)
    | (go_at_call 9; refine (H7.out _ c m p (HT6.out.below (bbut (balloc w8 _) (But.setRow w8.heap.size _ _) (Nat.le_refl _)))).mono ?_; go_loud (rintro e w10 ⟨la, lc, rfl, HLK, HT7⟩; clear HT7 H7))
    | (go_at_call 23; refine (H8.out w10 la lc HLK.out.row).mono ?_; go_loud (rintro e w11 ⟨rfl, k, hk⟩; obtain ⟨f1, f2, F3⟩ := HEND.out w8 w10 va vc c m p 0 0 k HRW.out HT6.out HLK.out.below; rw [← hk] at f1 f2 F3; clear HEND HLK hk H8))
    | fail)
  · go_ret
    exact ⟨rfl, F3⟩
  · rename_i h
    exact absurd (by kernel_rfl) h
end Go.Proofs.Ythipdchdbdmmnaa
