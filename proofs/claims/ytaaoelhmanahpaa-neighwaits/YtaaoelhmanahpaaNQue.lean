/-
  Neigh: New, Clear, copyOf, message, question.
-/
import Derived.Test.YtaaoelhmanahpaaNRoom
import Derived.Test.YtaaoelhmanahpaaNwWpJ
namespace Go.Proofs.Ytaaoelhmanahpaa
open Go.RowKit
set_option linter.all false

def everyM : Mac := ⟨255, 255, 255, 255, 255, 255⟩
theorem everyM_ok : everyM.ok := by simp [Mac.ok, everyM]
theorem everyone_x (w : World) : Calls Try.prog 65 #[] w fun e w' => e = .returned everyM.val ∧ w' = w.alloc (.cells #[.int .u8 255, .int .u8 255, .int .u8 255, .int .u8 255, .int .u8 255, .int .u8 255] 24) := by
  go_enter Try.func65, Try.ntmps65
  go_wp2
  exact bodyPost_ret (v := .agg #[.int .u8 255, .int .u8 255, .int .u8 255, .int .u8 255, .int .u8 255, .int .u8 255]) (by simp [results, Try.results65, go_sem]) rfl ⟨rfl, rfl⟩
/-- what is to be sent. -/
structure Sd where
  dst : Mac
  kind : Int
  zs : List Int
deriving DecidableEq
def Sd.cells (x : Sd) (v : Value) : Array Value := #[.int .u8 x.dst.b0, .int .u8 x.dst.b1, .int .u8 x.dst.b2, .int .u8 x.dst.b3, .int .u8 x.dst.b4, .int .u8 x.dst.b5, .int .i64 x.kind, v]
def Sd.val (x : Sd) (v : Value) : Value := .agg (x.cells v)
theorem sizeSend : (Try.prog.info? 59).map (·.size) = some 8 := by kernel_rfl
set_option maxRecDepth 20000 in
set_option maxHeartbeats 1000000 in
theorem message_any (d : Mac) (p : Arp) (w : World) (hp : p.ok) (h : opB p.op = true) :
    Calls Try.prog 48 #[d.val, p.val] w fun e w' => ∃ g, e = .returned ((Sd.mk d 2054 (encL p)).val (.slice (some ⟨g, 0, none⟩) 28 28)) ∧ w.heap.size ≤ g ∧ w'.heap[g]? = some (.cells (u8s (encL p)).toArray 5 (0, 0)) ∧ Below w.heap.size w w' := by
  have HE := hid (fun w => encode_ok p w hp h)
  have HL : Hid (∃ L, L = encL p) := ⟨_, rfl⟩
  obtain ⟨L, hL⟩ := HL.out
  rw [← hL] at HE ⊢
  clear h hp hL HL
  obtain ⟨o, ⟨s0, s1, s2, s3, s4, s5⟩, si, ⟨d0, d1, d2, d3, d4, d5⟩, di⟩ := p
  obtain ⟨m0, m1, m2, m3, m4, m5⟩ := d
  simp only [Arp.val, Mac.val] at HE ⊢
  go_enter Try.func48, Try.ntmps48
  go_wp2_with fail
  refine (HE.out _).mono ?_
  rintro e w1 ⟨g, rfl, hg, hw, hb⟩
  have HB := hid (bstep (bpush (bpush (bpush (Below.refl _ _) _) _) _) hb)
  have HM := hid (kept ((heap_old _ _ (by simp; omega)).trans ((heap_old _ _ (by simp)).trans (heap_new w (.cells #[.int .u8 m0, .int .u8 m1, .int .u8 m2, .int .u8 m3, .int .u8 m4, .int .u8 m5] 24)))) hb)
  have HG := hid (kept (heap_new _ _) hb)
  simp only [World.size_alloc] at HG hg
  have hcm : ∀ q, w1.cell? ⟨w.heap.size, q, none⟩ = (#[.int .u8 m0, .int .u8 m1, .int .u8 m2, .int .u8 m3, .int .u8 m4, .int .u8 m5] : Array Value)[q]? := fun q => cell_of_heap HM.out q
  have HW := hid hw
  clear hb HM hw
  go_wp2_with (first
    | (refine wpList_store_row rfl 59 _ _ rfl (w.heap.size + 1 + 1) #[.int .u8 m0, .int .u8 m1, .int .u8 m2, .int .u8 m3, .int .u8 m4, .int .u8 m5, .int .i64 2054, .slice (some ⟨g, 0, none⟩) 28 28] rfl rfl 59 _ HG.out (by kernel_rfl) rfl (by first | kernel_rfl | simp [Value.oneCell']) ?_)
    | fail)
  refine bodyPost_ret (v := .agg #[.int .u8 m0, .int .u8 m1, .int .u8 m2, .int .u8 m3, .int .u8 m4, .int .u8 m5, .int .i64 2054, .slice (some ⟨g, 0, none⟩) 28 28]) ?_ (by rfl) ⟨g, rfl, by omega, keptBut HW.out (But.setRow _ _ _) (by omega), bbut HB.out (But.setRow _ _ _) (by omega)⟩
  exact results_row1 Try.results48 _ _ (w.heap.size + 1 + 1) 59 _ (0, 0) _ rfl (setRow_heap w1 _ _ _ _ _ HG.out) Try.underlying59 rfl (by kernel_rfl)
theorem set8 {w : World} {g : Nat} {t : TypeId} {o0 o1 o2 o3 o4 o5 o6 o7 : Value} (h : w.heap[g]? = some (.cells #[o0, o1, o2, o3, o4, o5, o6, o7] t (0, 0))) (a0 a1 a2 a3 a4 a5 a6 a7 : Value) :
    ((((((((w.setCell ⟨g, 0, none⟩ a0).setCell ⟨g, 1, none⟩ a1).setCell ⟨g, 2, none⟩ a2).setCell ⟨g, 3, none⟩ a3).setCell ⟨g, 4, none⟩ a4).setCell ⟨g, 5, none⟩ a5).setCell ⟨g, 6, none⟩ a6).setCell ⟨g, 7, none⟩ a7).heap[g]? = some (.cells #[a0, a1, a2, a3, a4, a5, a6, a7] t (0, 0)) ∧
    But g w ((((((((w.setCell ⟨g, 0, none⟩ a0).setCell ⟨g, 1, none⟩ a1).setCell ⟨g, 2, none⟩ a2).setCell ⟨g, 3, none⟩ a3).setCell ⟨g, 4, none⟩ a4).setCell ⟨g, 5, none⟩ a5).setCell ⟨g, 6, none⟩ a6).setCell ⟨g, 7, none⟩ a7) := by
  refine ⟨?_, ?_⟩
  · have h0 : (w.setCell ⟨g, 0, none⟩ a0).heap[g]? = some (.cells #[a0, o1, o2, o3, o4, o5, o6, o7] t (0, 0)) := by rw [heap_setCell h]; simp
    have h1 : ((w.setCell ⟨g, 0, none⟩ a0).setCell ⟨g, 1, none⟩ a1).heap[g]? = some (.cells #[a0, a1, o2, o3, o4, o5, o6, o7] t (0, 0)) := by rw [heap_setCell h0]; simp
    generalize (w.setCell ⟨g, 0, none⟩ a0).setCell ⟨g, 1, none⟩ a1 = w1 at *
    have h2 : (w1.setCell ⟨g, 2, none⟩ a2).heap[g]? = some (.cells #[a0, a1, a2, o3, o4, o5, o6, o7] t (0, 0)) := by rw [heap_setCell h1]; simp
    have h3 : ((w1.setCell ⟨g, 2, none⟩ a2).setCell ⟨g, 3, none⟩ a3).heap[g]? = some (.cells #[a0, a1, a2, a3, o4, o5, o6, o7] t (0, 0)) := by rw [heap_setCell h2]; simp
    generalize (w1.setCell ⟨g, 2, none⟩ a2).setCell ⟨g, 3, none⟩ a3 = w2 at *
    have h4 : (w2.setCell ⟨g, 4, none⟩ a4).heap[g]? = some (.cells #[a0, a1, a2, a3, a4, o5, o6, o7] t (0, 0)) := by rw [heap_setCell h3]; simp
    have h5 : ((w2.setCell ⟨g, 4, none⟩ a4).setCell ⟨g, 5, none⟩ a5).heap[g]? = some (.cells #[a0, a1, a2, a3, a4, a5, o6, o7] t (0, 0)) := by rw [heap_setCell h4]; simp
    generalize (w2.setCell ⟨g, 4, none⟩ a4).setCell ⟨g, 5, none⟩ a5 = w3 at *
    have h6 : (w3.setCell ⟨g, 6, none⟩ a6).heap[g]? = some (.cells #[a0, a1, a2, a3, a4, a5, a6, o7] t (0, 0)) := by rw [heap_setCell h5]; simp
    rw [heap_setCell h6]; simp
  · exact (((((((But.setCell g w 0 a0).trans (But.setCell g _ 1 a1)).trans (But.setCell g _ 2 a2)).trans (But.setCell g _ 3 a3)).trans (But.setCell g _ 4 a4)).trans (But.setCell g _ 5 a5)).trans (But.setCell g _ 6 a6)).trans (But.setCell g _ 7 a7)
end Go.Proofs.Ytaaoelhmanahpaa
