/-
  One call of a script, both sides.
-/
import Derived.Test.YthgcjocjkeieaaaWPq
import Derived.Deep.RegionHeld3
namespace Go.Proofs.Ythgcjocjkeieaaa
open Go.RowKit
set_option linter.all false

theorem box3 {w : World} {bx : Nat} {k a g : Int} (h : Holds w [(bx, .cells #[.int .i64 k, .int .i64 a, .int .i64 g] 34)]) : w.cell? ⟨bx, 0, none⟩ = some (.int .i64 k) ∧ w.cell? ⟨bx, 1, none⟩ = some (.int .i64 a) ∧ w.cell? ⟨bx, 2, none⟩ = some (.int .i64 g) := by
  have h1 := h _ (List.mem_singleton.2 rfl)
  exact ⟨cellHeap h1 0 rfl, cellHeap h1 1 rfl, cellHeap h1 2 rfl⟩
/-- what a call leaves. -/
def StepQ (w0 : World) (b p : Nat) (x : Tms) (b' p' : Nat) (x' : Tms) (kb N : Nat) (c : Prop) (e : Ending) (w' : World) : Prop := e = .returned (.bool true) ∧ ∃ z : Tms, Hid (PQ w0 w' b p z z b' p' x' kb (N + 1) c [] ∧ z.l ≤ x.l + 1)
section
variable {w0 w : World} {b p : Nat} {x : Tms} {b' p' : Nat} {x' : Tms} {kb N : Nat} {c : Prop}
set_option maxRecDepth 20000 in
set_option maxHeartbeats 2000000 in
theorem step_arm (h : PQ w0 w b p x x b' p' x' kb N c []) (hl : x.l < 9223372036854775807) (a g : Int) :
    Calls Try.prog 10 #[.pointer (some ⟨kb, 0, none⟩), .pointer (some ⟨b, 0, none⟩), .pointer (some ⟨p, 0, none⟩), .agg #[.int .i64 1, .int .i64 a, .int .i64 g]] w (StepQ w0 b p x b' p' x' kb N c) := by
  have hok := h.ok
  have h1 := h.push (.cells #[.int .i64 1, .int .i64 a, .int .i64 g] 34)
  have HA := hid (h1.arm0 hl a g)
  have HE : Hid (∀ w2, PQ w0 w2 b p ⟨x.n, armL x.T x.l, armT x.T x.n x.l a g⟩ ⟨x.n, armL x.T x.l, armT x.T x.n x.l a g⟩ b' p' x' kb N c [(w.heap.size, .cells #[.int .i64 1, .int .i64 a, .int .i64 g] 34)] → StepQ w0 b p x b' p' x' kb N c (.returned (.bool true)) w2) := fun w2 hq => ⟨rfl, _, hq.clear (by omega), by show armL x.T x.l ≤ _; unfold armL; split <;> omega⟩
  have HB := hid (fun w1 (hq : PQ w0 w1 b p ⟨x.n, armL x.T x.l, armT x.T x.n x.l a g⟩ x b' p' x' kb N c [(w.heap.size, .cells #[.int .i64 1, .int .i64 a, .int .i64 g] 34)]) => And.intro (box3 hq.holds) (hq.arm1 hok hl a g))
  clear h h1 hok hl
  generalize armN x.T x.l = u at *
  generalize armE x.T = v at *
  go_enter Try.func10, Try.ntmps10
  go_wp2_with (first
    | (go_at_call 12; refine HA.out.mono ?_; go_loud (rintro e w1 ⟨rfl, HQ⟩; obtain ⟨⟨-, d1, d2⟩, hB⟩ := HB.out w1 HQ.out; have HB1 := hid hB; clear HA HB HQ hB))
    | (go_at_call 21; refine HB1.out.mono ?_; go_loud (rintro e w2 ⟨rfl, HQ⟩; have HF := hid (HE.out w2 HQ.out); clear HB1 HQ HE))
    | fail)
  go_ret
  exact HF.out
set_option maxRecDepth 20000 in
set_option maxHeartbeats 2000000 in
theorem step_cancel (h : PQ w0 w b p x x b' p' x' kb N c []) (hl : x.l < 9223372036854775807) (a g : Int) (ha : fits a) :
    Calls Try.prog 10 #[.pointer (some ⟨kb, 0, none⟩), .pointer (some ⟨b, 0, none⟩), .pointer (some ⟨p, 0, none⟩), .agg #[.int .i64 2, .int .i64 a, .int .i64 g]] w (StepQ w0 b p x b' p' x' kb N c) := by
  have hok := h.ok
  have h1 := (h.push (.cells #[.int .i64 2, .int .i64 a, .int .i64 g] 34)).pass (bdrewN _ 1)
  have HA := hid (h1.cancel0 (by omega) a ha)
  have HE : Hid (∀ w2, PQ w0 w2 b p ⟨x.n, x.l, del x.T a⟩ ⟨x.n, x.l, del x.T a⟩ b' p' x' kb N c [(w.heap.size, .cells #[.int .i64 2, .int .i64 a, .int .i64 g] 34)] → StepQ w0 b p x b' p' x' kb N c (.returned (.bool true)) w2) := fun w2 hq => ⟨rfl, _, hq.clear (by omega), by show x.l ≤ _; omega⟩
  have HB := hid (fun w1 (hq : PQ w0 w1 b p ⟨x.n, x.l, del x.T a⟩ x b' p' x' kb N c [(w.heap.size, .cells #[.int .i64 2, .int .i64 a, .int .i64 g] 34)]) => And.intro (box3 hq.holds).2.1 (hq.cancel1 hok a))
  have HB2 := hid (fun w1 (hq : PQ w0 w1 b p ⟨x.n, x.l, del x.T a⟩ ⟨x.n, x.l, del x.T a⟩ b' p' x' kb N c [(w.heap.size, .cells #[.int .i64 2, .int .i64 a, .int .i64 g] 34)]) => (box3 hq.holds).2.1)
  have HS0 := hid (box3 h1.holds).2.1
  clear h h1 hok hl ha
  generalize hasT x.T a = u at *
  go_enter Try.func10, Try.ntmps10
  go_wp2
  go_region_held3 (fun s => s.cell? ⟨w.heap.size, 1, none⟩ = some (.int .i64 a)) (first | exact HS0.out | exact HS1.out | exact HS2.out | go_keep) (first
    | (go_at_call 13; refine HA.out.mono ?_; rintro e w1 ⟨rfl, HQ⟩; have HB1 := hid (HB.out w1 HQ.out).2; have HS1 := hid (HB.out w1 HQ.out).1; clear HQ)
    | (go_at_call 22; refine HB1.out.mono ?_; rintro e w2 ⟨rfl, HQ⟩; have HF := hid (HE.out w2 HQ.out); have HS2 := hid (HB2.out w2 HQ.out); clear HQ))
  go_wp2
  go_ret
  exact HF.out
end
end Go.Proofs.Ythgcjocjkeieaaa
