/-
  The document's Same, of two that are the same.
-/
import Derived.Test.YtdfmnjoodjpibaaULive
namespace Go.Proofs.Ytdfmnjoodjpibaa
open Go.RowKit
set_option linter.all false

set_option maxRecDepth 20000 in
set_option maxHeartbeats 1000000 in
theorem same_parts (s d : Int) (pt qt : Part) (w : World) (h1 : pt.ok w) (h2 : qt.ok w) (he : pt.zs = qt.zs) :
    Calls Try.prog 16 #[.agg #[.int .i64 s, .int .i64 d, pt.val], .agg #[.int .i64 s, .int .i64 d, qt.val]] w fun e w' => e = .returned (.bool true) ∧ Below w.heap.size w w' := by
  have bb := bpush (bpush (Below.refl w.heap.size w) (.cells #[.int .i64 s, .int .i64 d, pt.val] 26)) (.cells #[.int .i64 s, .int .i64 d, qt.val] 26)
  have v1 := conv_part pt _ (Part.ok_below h1 bb)
  have v2 := conv_part qt _ (Part.ok_below h2 bb)
  rw [he] at v1
  have HB := hid bb
  clear h1 h2 he bb
  have e1 : (s == s) = true := by simp
  have e2 : (d == d) = true := by simp
  generalize strOfNums qt.zs = X at *
  have e3 : (X.toList == X.toList) = true := by simp
  unfold Part.val at *
  generalize pt.zs.length = l at *
  generalize qt.zs.length = m at *
  generalize pt.a = pa at *
  generalize qt.a = qa at *
  generalize pt.c = pc at *
  generalize qt.c = qc at *
  go_enter Try.func16, Try.ntmps16
  go_wp2
  go_ret
  exact ⟨rfl, HB.out⟩
theorem same_rows (s d : Int) (Y : List Int) (hY : ∀ z, z ∈ Y → 0 ≤ z ∧ z ≤ 255) (a1 a2 : Option Addr) (n1 c1 n2 c2 : Nat) (w : World) (h1 : Row w 5 (.slice a1 n1 c1) (u8s Y)) (h2 : Row w 5 (.slice a2 n2 c2) (u8s Y)) :
    Calls Try.prog 16 #[.agg #[.int .i64 s, .int .i64 d, .slice a1 n1 c1], .agg #[.int .i64 s, .int .i64 d, .slice a2 n2 c2]] w fun e w' => e = .returned (.bool true) ∧ Below w.heap.size w w' := by
  obtain ⟨p, e1, e2, o1⟩ := h1.part hY
  obtain ⟨q, e3, e4, o2⟩ := h2.part hY
  rw [e1, e3]
  exact same_parts s d p q w o1 o2 (by rw [e2, e4])
end Go.Proofs.Ytdfmnjoodjpibaa
