/-
  The document's digest: its table, and words under way.
-/
import Derived.Test.YtlephdpplfpliaaDMix
import Derived.Test.YtlephdpplfpliaaBOwnP
import Derived.Great.BuildSlice
import Derived.Deep.RegionLaw
namespace Go.Proofs.Ytlephdpplfpliaa
open Go.RowKit
set_option linter.all false

theorem infoU32 : (Try.prog.info? 47).map (fun i => (i.zero, i.size, i.bytes)) = some (some (.int .u32 0), 1, 4) := by kernel_rfl
set_option maxRecDepth 100000 in
set_option maxHeartbeats 1000000 in
theorem refTable_any (w : World) : Calls Try.prog 30 #[] w fun e w' => e = .returned (.slice (some ⟨w.heap.size, 0, none⟩) 64 64) ∧ w' = w.alloc (.cells (u32s kL).toArray 47) := by
  go_enter Try.func30, Try.ntmps30
  go_wp2_with (first | (refine wpList_buildFlat rfl 43 47 64 _ rfl .u32 kL Try.underlying43 (by kernel_rfl) (by kernel_rfl) rfl (by decide) (by decide) (by rfl) ?_))
  go_ret
  exact ⟨rfl, rfl⟩

/-- words under way: v holds them, in a block of the call's own. -/
def Wd (w : World) (L : List Int) (v : Value) (wr : World) : Prop :=
  Bk.Row wr 47 v (u32s L) ∧ (∀ b, v.ownBlock = some b → w.heap.size ≤ b) ∧ Below w.heap.size w wr
theorem Wd.one {w wr : World} {L : List Int} {v : Value} (h : Wd w L v wr) (x : Int) (hl : L.length ≤ 2000) :
    ∃ gg nn cc w', (Builtin.append_ #[43, 43] 43 #[v, .slice (some ⟨wr.heap.size, 0, none⟩) 1 1]).run Try.prog (wr.alloc (.cells #[.int .u32 x] 47)).drew = .ok (.slice (some ⟨gg, 0, none⟩) nn cc) w' ∧ Wd w (L ++ [x]) (.slice (some ⟨gg, 0, none⟩) nn cc) w' := by
  obtain ⟨h2, h3, h4⟩ := h
  have hs := h4.size
  have ra := h2.below (w' := (wr.alloc (.cells #[.int .u32 x] 47)).drew) (((Below.refl _ _).alloc (Nat.le_refl _) _).drew)
  obtain ⟨g', w', hrun, row', hgr', hcase⟩ := Bk.append_one 43 43 47 _ 4 Try.underlying43 infoU32 rfl ra (.int .u32 x) rfl wr.heap.size _ (Bk.heap_new wr _) (by rw [u32s_len]; unfold maxLen; omega) (by rw [u32s_len]; omega)
  have hbel : Below w.heap.size w w' := ((h4.alloc (by omega) _).drew).grown hgr' (by simp; omega) (fun k hk => by have := h3 k hk; omega)
  have erow : u32s L ++ [Value.int .u32 x] = u32s (L ++ [x]) := by simp [u32s]
  rw [erow] at row'
  rcases hcase with ⟨g0, cap, e1, e2⟩ | ⟨g0, cap, e2, hnew, _⟩
  · subst e2
    exact ⟨g0, _, cap, w', hrun, row', fun b hb => h3 b (by rw [e1]; exact hb), hbel⟩
  · subst e2
    exact ⟨g0, _, cap, w', hrun, row', fun b hb => by simp [Value.ownBlock] at hb; simp at hnew; omega, hbel⟩

end Go.Proofs.Ytlephdpplfpliaa
