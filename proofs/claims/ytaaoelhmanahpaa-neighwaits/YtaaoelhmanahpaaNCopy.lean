/-
  Neigh: copyOf.
-/
import Derived.Test.YtaaoelhmanahpaaBMem
namespace Go.Proofs.Ytaaoelhmanahpaa
open Go.RowKit
set_option linter.all false

set_option maxRecDepth 20000 in
theorem copyOf_any (pt : Part) (w : World) (hok : pt.ok w) (hl : pt.zs.length ≤ 140737488351232) :
    Calls Try.prog 39 #[pt.val] w fun e w' => ∃ g, e = .returned (.slice (some ⟨g, 0, none⟩) pt.zs.length pt.zs.length) ∧ w.heap.size ≤ g ∧ w'.heap[g]? = some (.cells (u8s pt.zs).toArray 5 (0, 0)) ∧ Below w.heap.size w w' := by
  have hmk := Go.run_make_row' (P := Try.prog) 40 5 (.int .u8 0) 1 Try.underlying40 infoU8 rfl .i64 .i64 pt.zs.length (by omega) (by omega) w
  have HOK := hid (Part.ok_below hok (bpush (Below.refl w.heap.size w) (.cells (u8s (List.replicate pt.zs.length 0)).toArray 5)))
  have HV : Hid (pt.val = .slice pt.a pt.zs.length pt.c) := rfl
  rw [made_eq] at hmk
  have HH := hid (heap_new w (.cells (u8s (List.replicate pt.zs.length 0)).toArray 5))
  have HS : Hid (splice (List.replicate pt.zs.length 0) 0 pt.zs = pt.zs) := by unfold Hid; simp [splice]
  have hcp : ∀ ty, (Builtin.copy_ #[40, 40] ty #[.slice (some ⟨w.heap.size, 0, none⟩) pt.zs.length pt.zs.length, .slice pt.a pt.zs.length pt.c]).run Try.prog (w.alloc (.cells (u8s (List.replicate pt.zs.length 0)).toArray 5)) = .ok (goInt pt.zs.length) ((w.alloc (.cells (u8s (List.replicate pt.zs.length 0)).toArray 5)).setRow w.heap.size (u8s pt.zs).toArray) := fun ty => by
    have := copy_part pt _ HOK.out w.heap.size 0 pt.zs.length pt.zs.length _ _ HH.out (Nat.le_refl _) (by simp [u8s_len]) ty
    rw [List.toList_toArray, splice_u8s, HS.out] at this
    exact this
  have HR : Hid (((w.alloc (.cells (u8s (List.replicate pt.zs.length 0)).toArray 5)).setRow w.heap.size (u8s pt.zs).toArray).heap[w.heap.size]? = some (.cells (u8s pt.zs).toArray 5 (0, 0))) := setRow_heap _ _ _ _ _ _ HH.out
  have HB : Hid (Below w.heap.size w ((w.alloc (.cells (u8s (List.replicate pt.zs.length 0)).toArray 5)).setRow w.heap.size (u8s pt.zs).toArray)) := bbut (bpush (Below.refl _ _) _) (But.setRow _ _ _) (Nat.le_refl _)
  clear hok HOK HH
  rw [HV.out]
  go_enter Try.func39, Try.ntmps39
  go_wp2_with fail
  go_ret
  exact ⟨w.heap.size, rfl, Nat.le_refl _, HR.out, HB.out⟩
end Go.Proofs.Ytaaoelhmanahpaa
