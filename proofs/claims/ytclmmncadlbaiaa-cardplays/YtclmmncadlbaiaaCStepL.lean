/-
  A step of a pair: Lay.
-/
import Derived.Test.YtclmmncadlbaiaaCStepA
namespace Go.Proofs.Ytclmmncadlbaiaa
open Go.RowKit
set_option linter.all false

set_option maxRecDepth 20000 in
set_option maxHeartbeats 4000000 in
theorem step_lay (B : Nat) (P : Pn) (gk : Nat) (D : Nat → Prop) (S : CS) (L V : Value) (ls : List (Value × List Int)) (n : Nat) (i : Int) (a : Option Addr) (l c : Nat) (zs : List Int) (w : World) (h0 : PBI w B P D gk S S L V ls) (hs : S.small n) (hn : n < 4611686018427387904) (hf : ls.length < 4398046511104) (hz : Low B w a c zs) (hl : l = zs.length) (hm : l ≤ 140737488351232) :
    Calls Try.prog 12 #[.pointer (some ⟨P.gp, 0, none⟩), opV 6 i a l c] w (StepE B P gk w D L V ls n) := by
  obtain ⟨z, S', hs', hC, hR⟩ := lay_two S i zs l n hl hm hs
  have hbd : ∀ z, z ∈ zs → 0 ≤ z ∧ z ≤ 255 := (hz w (Below.refl _ _)).1
  have H0 := hid h0
  have HZ := hid hz
  have HC := hid hC
  have HRF := hid hR
  have HS := hid hs'
  have HBD := hid hbd
  have HL := hid hl
  have hgl : P.gp < w.heap.size := heap_lt h0.pair.box
  have hp0 : w.cell? ⟨P.gp, 0, none⟩ = some (.pointer (some ⟨P.c, 0, none⟩)) := cellHeap h0.pair.box 0 rfl
  clear h0 hz hC hR hs' hbd hl hs
  unfold opV
  have HW : Hid (∀ ob ob2 : Obj, Run B P gk w D L V ls ((w.alloc ob).alloc ob2).drew D S S L V ls) := fun ob ob2 => (Run.start H0.out).below (bpush (balloc w ob) ob2).drew
  go_enter Try.func12, Try.ntmps12
  go_wp2_with (first
    | (go_at_call 23; refine (lent_sl a c l zs _ (by exact HZ.out _ ((Below.refl _ _).alloc H0.out.top _)) HL.out hm).mono ?_; rintro e w1 ⟨rfl, hw⟩; rw [hw]; clear hw))
  go_region_with (first
    | (go_at_call 18; refine (HC.out P.c P.g P.h _ _ _ (by exact (HW.out _ _).now.pair.card) (by exact lent_part (heap2 w _ _).2 HBD.out HL.out)).mono ?_; rintro e w3 ⟨rfl, hc3, ho3⟩; have R3 := hid ((HW.out _ _).card hc3 ho3); have HLN3 : Hid (w3.heap[w.heap.size + 1]? = some (.cells (L2 zs) 5 (0, 0))) := (ho3.block _ (fun e => by have := H0.out.pair.card.lt _ e; omega) (by simp)).trans (heap2 w _ _).2; have HBX3 : Hid (w3.heap[w.heap.size]? = some (.cells #[.int .i64 6, .int .i64 i, .slice a l c] 45 (0, 0))) := (ho3.block _ (fun e => by have := H0.out.pair.card.lt _ e; omega) (by simp; omega)).trans (heap2 w _ _).1; clear hc3 ho3))
  all_goals
    have hq1 : w3.cell? ⟨P.gp, 1, none⟩ = some (.pointer (some ⟨P.x, 0, none⟩)) := cellHeap R3.out.now.pair.box 1 rfl
    have hq2 : w3.cell? ⟨w.heap.size, 2, none⟩ = some (.slice a l c) := cellHeap HBX3.out 2 rfl
    have hq3 : w3.cell? ⟨w.heap.size, 1, none⟩ = some (.int .i64 i) := cellHeap HBX3.out 1 rfl
    go_wp2
    go_region_with (first | (go_at_call 33; refine (HRF.out D P.x P.rg P.cr P.rh P.ct _ _ _ (by exact (R3.out.below (Below.refl _ _).drew).now.pair.ref) (by exact HZ.out _ ((R3.out.bel H0.out).drew))).mono ?_; rintro e w4 ⟨rfl, hr4⟩; have HRT := hid hr4; clear hr4))
    all_goals
      obtain ⟨D4, r4, g4⟩ := (R3.out.below (Below.refl _ _).drew).ref HRT.out
      have hnk : ¬ PairK P D4 (w.heap.size + 1) := fun hk => by
        rcases g4 _ hk with h | h
        · have := H0.out.pair.lt _ h; omega
        · have := heap_lt HLN3.out; simp at h; omega
      have hln4 : w4.heap[w.heap.size + 1]? = some (.cells (L2 zs) 5 (0, 0)) := by
        obtain ⟨_, _, _, ho⟩ := HRT.out
        exact (ho.block _ (fun e => by have := H0.out.pair.ref.lt _ e; omega) (heap_lt (w := w3.drew) HLN3.out)).trans HLN3.out
      have hbx4 : w4.heap[w.heap.size]? = some (.cells #[.int .i64 6, .int .i64 i, .slice a l c] 45 (0, 0)) := by
        obtain ⟨_, _, _, ho⟩ := HRT.out
        exact (ho.block _ (fun e => by have := H0.out.pair.ref.lt _ e; omega) (heap_lt (w := w3.drew) HBX3.out)).trans HBX3.out
      have hq4 : w4.cell? ⟨w.heap.size, 2, none⟩ = some (.slice a l c) := cellHeap hbx4 2 rfl
      have R4 := hid r4
      have HLN4 := hid hln4
      have HNK := hid hnk
      clear r4 g4 hnk hln4 hbx4 hq1 hq2 hq3
      go_wp2_with (first | (go_at_call 25; refine (asLent_sl (w.heap.size + 1) a c l zs w4 (by exact HZ.out _ (R4.out.bel H0.out)) HL.out hm HLN4.out).mono ?_; rintro e w5 ⟨rfl, hb5⟩; have R5 := hid (R4.out.other hb5 (by omega) HNK.out (fun hi => absurd (H0.out.book.lt _ hi) (by omega)) (fun p hp e => absurd (H0.out.book.ltl p hp _ e) (by omega))); clear hb5))
      go_ret
      exact ⟨rfl, D4, S', L, V, ls, R5.out, HS.out.mono (by omega), by omega⟩
end Go.Proofs.Ytclmmncadlbaiaa
