/-
  The document's Hash: New, Write.
-/
import Derived.Test.YtlephdpplfpliaaDRef3
import Derived.Test.YtlephdpplfpliaaDNew
namespace Go.Proofs.Ytlephdpplfpliaa
open Go.RowKit
set_option linter.all false

set_option maxRecDepth 20000 in
set_option maxHeartbeats 1000000 in
theorem refNew_any (w : World) : Calls Try.prog 13 #[] w fun e w' => e = .returned (.pointer (some ⟨w.heap.size + 1, 0, none⟩)) ∧ w' = (w.alloc (.cells (u32s iv.l).toArray 47)).alloc (.cells #[.slice (some ⟨w.heap.size, 0, none⟩) 8 8, .slice none 0 0, .int .i64 0] 45) := by
  go_enter Try.func13, Try.ntmps13
  go_wp2
  go_ret
  exact ⟨rfl, rfl⟩

/-- the bytes behind the whole blocks so far. -/
def HS.rest (x : HS) : List Int := x.buf.take (x.n % 64)
theorem HS.rest_len (x : HS) (hb : x.buf.length = 64) : x.rest.length = x.n % 64 := by
  unfold HS.rest; rw [List.length_take, hb]; omega
theorem rest_put (x : HS) (z : Int) (hb : x.buf.length = 64) (h : ¬ (x.n + 1) % 64 = 0) : (put1 x z).rest = x.rest ++ [z] ∧ (put1 x z).st = x.st := by
  have hm : (x.n + 1) % 64 = x.n % 64 + 1 := by omega
  refine ⟨?_, by simp [put1, h]⟩
  simp only [HS.rest, put1, hm]
  rw [List.take_succ_eq_append_getElem (by simp [hb]; omega)]
  simp [List.take_set_of_le]
theorem rest_full (x : HS) (z : Int) (hb : x.buf.length = 64) (h : (x.n + 1) % 64 = 0) : (put1 x z).rest = [] ∧ (put1 x z).st = comp x.st (x.rest ++ [z]) := by
  have hm : x.n % 64 = 63 := by omega
  refine ⟨by simp [HS.rest, put1, h], ?_⟩
  simp only [HS.rest, put1, h, hm, if_true]
  congr 1
  have e : x.buf.set 63 z = (x.buf.set 63 z).take 64 := by rw [List.take_of_length_le (by simp [hb])]
  rw [e, List.take_succ_eq_append_getElem (by simp [hb])]
  simp [List.take_set_of_le]
end Go.Proofs.Ytlephdpplfpliaa
