/-
  Port: the document's Copied.
-/
import Derived.Test.YthipdchdbdmmnaaPRg
namespace Go.Proofs.Ythipdchdbdmmnaa
open Go.RowKit
set_option linter.all false

theorem results_one {P : Program} {fn : Func} {p : Tmp} {ty : TypeId} (h : fn.results = #[.cell p ty]) (tmps : Array Value) (w : World) (g : Nat) (t : TypeId) (cs : Array Value) (fr : Nat × Nat) (d : TypeDesc)
    (hp : tmps.getD p undef = .pointer (some ⟨g, 0, none⟩)) (hg : w.heap[g]? = some (.cells cs t fr))
    (hu : P.underlying ty = some d) (hd : (match d with | .struct _ | .array _ _ => true | _ => false) = true) (hi : (P.info? ty).map (·.size) = some cs.size) :
    (results fn tmps).run P w = .ok (.agg cs) w := by
  have hp' : tmps[p]?.getD undef = .pointer (some ⟨g, 0, none⟩) := by simpa using hp
  simp [results, h, hp', asAddr, run_loadVar_row w g t ty cs fr d hg hu hd hi]
set_option maxRecDepth 20000 in
set_option maxHeartbeats 2000000 in
theorem rcopied_any (si di sp dp : Int) (pt : Part) (w : World) (hok : pt.ok w) (hl : pt.zs.length ≤ 140737488355328) :
    Calls Try.prog 55 #[.agg #[.int .u32 si, .int .u32 di, .int .i64 sp, .int .i64 dp, pt.val]] w fun e w' => ∃ a n cp, e = .returned (.agg #[.int .u32 si, .int .u32 di, .int .i64 sp, .int .i64 dp, .slice a n cp]) ∧ Hid (Ans w w' pt.zs a n cp) := by
  have hh := ((Holds.nil w).push (.cells #[.int .u32 si, .int .u32 di, .int .i64 sp, .int .i64 dp, pt.val] 53)).push (.cells #[.int .u32 0, .int .u32 0, .int .i64 0, .int .i64 0, .slice none 0 0] 53)
  simp only [World.size_alloc] at hh
  have bb := bpush (bpush (Below.refl w.heap.size w) (.cells #[.int .u32 si, .int .u32 di, .int .i64 sp, .int .i64 dp, pt.val] 53)) (.cells #[.int .u32 0, .int .u32 0, .int .i64 0, .int .i64 0, .slice none 0 0] 53)
  have v1 := conv_part pt _ (Part.ok_below hok bb)
  obtain ⟨cap, w2, hrun, hrow, hb2, hsz⟩ := conv_row ((w.alloc (.cells #[.int .u32 si, .int .u32 di, .int .i64 sp, .int .i64 dp, pt.val] 53)).alloc (.cells #[.int .u32 0, .int .u32 0, .int .i64 0, .int .i64 0, .slice none 0 0] 53)) pt.zs hok.1 (by unfold maxLen; omega)
  have hrow' := hrow
  simp only [World.size_alloc] at hrun hrow'
  have HH := hid hh
  have HB := hid bb
  have HR := hid hrow'
  have HB2 := hid hb2
  have HSZ : Hid (((w.alloc (.cells #[.int .u32 si, .int .u32 di, .int .i64 sp, .int .i64 dp, pt.val] 53)).alloc (.cells #[.int .u32 0, .int .u32 0, .int .i64 0, .int .i64 0, .slice none 0 0] 53)).heap.size = w.heap.size + 2) := by unfold Hid; simp
  clear hok hl hh bb hrow hrow' hb2 hsz HSZ
  unfold Part.val at *
  generalize strOfNums pt.zs = X at *
  generalize pt.zs.length = l at *
  generalize pt.a = pa at *
  generalize pt.c = pc at *
  go_enter Try.func55, Try.ntmps55
  have HH2 := hid (HH.out.below HB2.out)
  have q0 : ∀ q, w2.cell? ⟨w.heap.size, q, none⟩ = (#[.int .u32 si, .int .u32 di, .int .i64 sp, .int .i64 dp, .slice pa l pc] : Array Value)[q]? := fun q => cell_of_heap (HH2.out.at 1 _ _ rfl) q
  have q1 : ∀ q, w2.cell? ⟨w.heap.size + 1, q, none⟩ = (#[.int .u32 0, .int .u32 0, .int .i64 0, .int .i64 0, .slice none 0 0] : Array Value)[q]? := fun q => cell_of_heap (HH2.out.at 0 _ _ rfl) q
  have f0 : ∀ q, w2.frozen? ⟨w.heap.size, q, none⟩ = false := fun q => frozen_of_heap (HH2.out.at 1 _ _ rfl) q
  have f1 : ∀ q, w2.frozen? ⟨w.heap.size + 1, q, none⟩ = false := fun q => frozen_of_heap (HH2.out.at 0 _ _ rfl) q
  have HB3 := hid (bstep HB.out HB2.out)
  clear HB HB2
  go_wp2
  have b0 : But w.heap.size w2 (w2.setCell ⟨w.heap.size, 4, none⟩ (.slice (some ⟨w.heap.size + 1 + 1, 0, none⟩) l cap)) := But.setCell _ _ _ _
  have bu : But (w.heap.size + 1) (w2.setCell ⟨w.heap.size, 4, none⟩ (.slice (some ⟨w.heap.size + 1 + 1, 0, none⟩) l cap)) _ := ((((But.setCell _ _ 0 (.int .u32 si)).trans (But.setCell _ _ 1 (.int .u32 di))).trans (But.setCell _ _ 2 (.int .i64 sp))).trans (But.setCell _ _ 3 (.int .i64 dp))).trans (But.setCell _ _ 4 (.slice (some ⟨w.heap.size + 1 + 1, 0, none⟩) l cap))
  refine bodyPost_ret (v := .agg #[.int .u32 si, .int .u32 di, .int .i64 sp, .int .i64 dp, .slice (some ⟨w.heap.size + 1 + 1, 0, none⟩) l cap]) ?_ (by rfl) ⟨_, _, _, rfl, (HR.out.but b0 (fun b hb => by simp [Value.ownBlock] at hb; omega)).but bu (fun b hb => by simp [Value.ownBlock] at hb; omega), fun b hb => by simp [Value.ownBlock] at hb; omega, bbut (bbut HB3.out b0 (Nat.le_refl _)) bu (by omega)⟩
  exact results_one Try.results55 _ _ (w.heap.size + 1) 53 _ (0, 0) _ rfl (heap_setCell (j := 4) (heap_setCell (j := 3) (heap_setCell (j := 2) (heap_setCell (j := 1) (heap_setCell (j := 0) (keptBut (HH2.out.at 0 _ _ rfl) b0 (by omega))))))) Try.underlying53 rfl (by kernel_rfl)
end Go.Proofs.Ythipdchdbdmmnaa
