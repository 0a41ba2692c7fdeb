/-
  A step of a pair: Counts, and what does nothing.
-/
import Derived.Test.YtclmmncadlbaiaaCStepA
namespace Go.Proofs.Ytclmmncadlbaiaa
open Go.RowKit
set_option linter.all false

set_option maxRecDepth 20000 in
set_option maxHeartbeats 4000000 in
theorem step_counts (B : Nat) (P : Pn) (gk : Nat) (D : Nat → Prop) (S : CS) (L V : Value) (ls : List (Value × List Int)) (n : Nat) (i : Int) (a : Option Addr) (l c : Nat) (zs : List Int) (w : World) (h0 : PBI w B P D gk S S L V ls) (hs : S.small n) (hn : n < 4611686018427387904) (hf : ls.length < 4398046511104) (hz : Low B w a c zs) (hl : l = zs.length) (hm : l ≤ 140737488351232) :
    Calls Try.prog 12 #[.pointer (some ⟨P.gp, 0, none⟩), opV 7 i a l c] w (StepE B P gk w D L V ls n) := by
  have H0 := hid h0
  have HS := hid hs
  have hgl : P.gp < w.heap.size := heap_lt h0.pair.box
  have hp0 : w.cell? ⟨P.gp, 0, none⟩ = some (.pointer (some ⟨P.c, 0, none⟩)) := cellHeap h0.pair.box 0 rfl
  have hp1 : w.cell? ⟨P.gp, 1, none⟩ = some (.pointer (some ⟨P.x, 0, none⟩)) := cellHeap h0.pair.box 1 rfl
  clear h0 hz hl hs hm
  unfold opV
  have HW : Hid (∀ ob : Obj, Run B P gk w D L V ls (w.alloc ob).drew D S S L V ls) := fun ob => (Run.start H0.out).below (balloc w ob).drew
  go_enter Try.func12, Try.ntmps12
  go_wp2
  go_region_with (first
    | (go_at_call 11; refine (counts_any P.c P.g P.h S _ (by exact (HW.out _).now.pair.card)).mono ?_; rintro e w3 ⟨rfl, hb3⟩; have R3 := hid ((HW.out _).below hb3); have hq1 : w3.cell? ⟨P.gp, 1, none⟩ = some (.pointer (some ⟨P.x, 0, none⟩)) := cellHeap R3.out.now.pair.box 1 rfl; clear hb3)
    | (go_at_call 34; refine (refCounts_any D P.x P.rg P.cr P.rh P.ct S _ (by exact R3.out.now.pair.ref)).mono ?_; rintro e w4 ⟨rfl, hb4⟩; have R4 := hid (R3.out.below hb4); clear hb4))
  all_goals
    go_wp2
    go_ret
    exact ⟨ret_bool (by simp), D, S, L, V, ls, R4.out, HS.out.mono (by omega), by omega⟩
set_option maxRecDepth 20000 in
set_option maxHeartbeats 4000000 in
theorem step_other (B : Nat) (P : Pn) (gk : Nat) (D : Nat → Prop) (S : CS) (L V : Value) (ls : List (Value × List Int)) (n : Nat) (k i : Int) (a : Option Addr) (l c : Nat) (w : World) (h0 : PBI w B P D gk S S L V ls) (hs : S.small n) (k1 : ¬ k = 1) (k2 : ¬ k = 2) (k3 : ¬ k = 3) (k4 : ¬ k = 4) (k5 : ¬ k = 5) (k6 : ¬ k = 6) (k7 : ¬ k = 7) :
    Calls Try.prog 12 #[.pointer (some ⟨P.gp, 0, none⟩), opV k i a l c] w (StepE B P gk w D L V ls n) := by
  have H0 := hid h0
  have HS := hid hs
  clear h0 hs
  unfold opV
  go_enter Try.func12, Try.ntmps12
  go_wp2
  go_ret
  exact ⟨rfl, D, S, L, V, ls, (Run.start H0.out).below (balloc w _), HS.out.mono (by omega), by omega⟩
end Go.Proofs.Ytclmmncadlbaiaa
