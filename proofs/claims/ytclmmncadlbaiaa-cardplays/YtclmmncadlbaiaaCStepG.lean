/-
  A step of a pair: Give.
-/
import Derived.Test.YtclmmncadlbaiaaCStepA
import Derived.Deep.RegionHeld3
namespace Go.Proofs.Ytclmmncadlbaiaa
open Go.RowKit
set_option linter.all false

set_option maxRecDepth 20000 in
set_option maxHeartbeats 4000000 in
theorem step_give (B : Nat) (P : Pn) (gk : Nat) (D : Nat → Prop) (S : CS) (L V : Value) (ls : List (Value × List Int)) (n : Nat) (i : Int) (a : Option Addr) (l c : Nat) (zs : List Int) (w : World) (h0 : PBI w B P D gk S S L V ls) (hs : S.small n) (hn : n < 4611686018427387904) (hf : ls.length < 4398046511104) (hz : Low B w a c zs) (hl : l = zs.length) (hm : l ≤ 140737488351232) :
    Calls Try.prog 12 #[.pointer (some ⟨P.gp, 0, none⟩), opV 5 i a l c] w (StepE B P gk w D L V ls n) := by
  obtain ⟨z, S', hs', hC, hR⟩ := give_two S i n hs
  have H0 := hid h0
  have HC := hid hC
  have HRF := hid hR
  have HS := hid hs'
  have hgl : P.gp < w.heap.size := heap_lt h0.pair.box
  have hp0 : w.cell? ⟨P.gp, 0, none⟩ = some (.pointer (some ⟨P.c, 0, none⟩)) := cellHeap h0.pair.box 0 rfl
  have hp1 : w.cell? ⟨P.gp, 1, none⟩ = some (.pointer (some ⟨P.x, 0, none⟩)) := cellHeap h0.pair.box 1 rfl
  clear h0 hz hC hR hs' hl hs hm
  unfold opV
  have HW : Hid (∀ ob : Obj, Run B P gk w D L V ls (w.alloc ob).drew D S S L V ls) := fun ob => (Run.start H0.out).below (balloc w ob).drew
  go_enter Try.func12, Try.ntmps12
  go_wp2
  have HP0 := hid hp0
  have HP1 := hid hp1
  have hS0 : ∀ ob : Obj, (w.alloc ob).drew.cell? ⟨P.gp, 0, none⟩ = some (.pointer (some ⟨P.c, 0, none⟩)) := fun ob => cellHeap (HW.out ob).now.pair.box 0 rfl
  have hS1 : ∀ ob : Obj, (w.alloc ob).drew.cell? ⟨P.gp, 1, none⟩ = some (.pointer (some ⟨P.x, 0, none⟩)) := fun ob => cellHeap (HW.out ob).now.pair.box 1 rfl
  have hS2 : (w.alloc (.cells #[.int .i64 5, .int .i64 i, .slice a l c] 45)).drew.cell? ⟨w.heap.size, 1, none⟩ = some (.int .i64 i) := cellHeap (w := (w.alloc (.cells #[.int .i64 5, .int .i64 i, .slice a l c] 45)).drew) (heap_new w _) 1 rfl
  have HSS := hid (show _ ∧ _ ∧ _ from ⟨hS0 (.cells #[.int .i64 5, .int .i64 i, .slice a l c] 45), hS1 (.cells #[.int .i64 5, .int .i64 i, .slice a l c] 45), hS2⟩)
  clear hS0 hS1 hS2
  go_region_held3 (fun x => x.cell? ⟨P.gp, 0, none⟩ = some (.pointer (some ⟨P.c, 0, none⟩)) ∧ x.cell? ⟨P.gp, 1, none⟩ = some (.pointer (some ⟨P.x, 0, none⟩)) ∧ x.cell? ⟨w.heap.size, 1, none⟩ = some (.int .i64 i)) (first | exact HSS.out | exact HS3.out | exact HS4.out | go_keep) (first
    | (go_at_call 17; refine (HC.out P.c P.g P.h _ (by exact (HW.out _).now.pair.card)).mono ?_; rintro e w3 ⟨rfl, hc3, ho3⟩; have R3 := hid ((HW.out _).card hc3 ho3); have hbx : w3.heap[w.heap.size]? = some (.cells #[.int .i64 5, .int .i64 i, .slice a l c] 45 (0, 0)) := (ho3.block _ (fun e => by have := H0.out.pair.card.lt _ e; omega) (by simp)).trans (heap_new w _); have HBX := hid hbx; have HS3 : Hid (w3.cell? ⟨P.gp, 0, none⟩ = some (.pointer (some ⟨P.c, 0, none⟩)) ∧ w3.cell? ⟨P.gp, 1, none⟩ = some (.pointer (some ⟨P.x, 0, none⟩)) ∧ w3.cell? ⟨w.heap.size, 1, none⟩ = some (.int .i64 i)) := ⟨cellHeap R3.out.now.pair.box 0 rfl, cellHeap R3.out.now.pair.box 1 rfl, cellHeap hbx 1 rfl⟩; clear hc3 ho3 hbx)
    | (go_at_call 32; refine (HRF.out D P.x P.rg P.cr P.rh P.ct _ (by exact R3.out.now.pair.ref)).mono ?_; rintro e w4 ⟨rfl, hr4⟩; obtain ⟨D4, r4, g4⟩ := R3.out.ref hr4; have hbx : w4.heap[w.heap.size]? = some (.cells #[.int .i64 5, .int .i64 i, .slice a l c] 45 (0, 0)) := (by obtain ⟨_, _, _, ho⟩ := hr4; exact (ho.block _ (fun e => by have := H0.out.pair.ref.lt _ e; omega) (heap_lt HBX.out)).trans HBX.out); have R4 := hid r4; have HS4 : Hid (w4.cell? ⟨P.gp, 0, none⟩ = some (.pointer (some ⟨P.c, 0, none⟩)) ∧ w4.cell? ⟨P.gp, 1, none⟩ = some (.pointer (some ⟨P.x, 0, none⟩)) ∧ w4.cell? ⟨w.heap.size, 1, none⟩ = some (.int .i64 i)) := ⟨cellHeap r4.now.pair.box 0 rfl, cellHeap r4.now.pair.box 1 rfl, cellHeap hbx 1 rfl⟩; clear hr4 r4 g4 hbx))
  go_wp2
  go_ret
  exact ⟨ret_bool (by simp), D4, S', L, V, ls, R4.out, HS.out.mono (by omega), by omega⟩
end Go.Proofs.Ytclmmncadlbaiaa
