/-
  One call of a script, both sides: the other kinds.
-/
import Derived.Test.YthgcjocjkeieaaaWStp
namespace Go.Proofs.Ythgcjocjkeieaaa
open Go.RowKit
set_option linter.all false

section
variable {w0 w : World} {b p : Nat} {x : Tms} {b' p' : Nat} {x' : Tms} {kb N : Nat} {c : Prop}
theorem PA.holds {y : Tms} {P : List (Nat × Obj)} {v : Value} {F : List Tm} (h : PA w0 w b p x y b' p' x' kb N c P v F) : Holds w P := by
  obtain ⟨O, tv, tv', ls, ws, lv, wv, h1, _⟩ := h.ex
  exact h1.hold
set_option maxRecDepth 20000 in
set_option maxHeartbeats 2000000 in
theorem step_adv (h : PQ w0 w b p x x b' p' x' kb N c []) (hl : x.l < 9223372036854775807) (hN : (N + 1) * 24 ≤ 140737488355328) (a g : Int) :
    Calls Try.prog 10 #[.pointer (some ⟨kb, 0, none⟩), .pointer (some ⟨b, 0, none⟩), .pointer (some ⟨p, 0, none⟩), .agg #[.int .i64 3, .int .i64 a, .int .i64 g]] w (StepQ w0 b p x b' p' x' kb N c) := by
  have hok := h.ok
  have h1 := h.push (.cells #[.int .i64 3, .int .i64 a, .int .i64 g] 34)
  have HA := hid (h1.adv0 (by omega) a)
  obtain ⟨P, hP⟩ : ∃ P : List (Nat × Obj), P = [(w.heap.size, .cells #[.int .i64 3, .int .i64 a, .int .i64 g] 34)] := ⟨_, rfl⟩
  have HE : Hid (∀ w2 T, PQ w0 w2 b p ⟨cnt x.n a, x.l, T⟩ ⟨cnt x.n a, x.l, T⟩ b' p' x' kb (N + 1) c P → StepQ w0 b p x b' p' x' kb N c (.returned (.bool true)) w2) := fun w2 T hq => ⟨rfl, _, hq.clear (by omega), by show x.l ≤ _; omega⟩
  have HB := hid (fun w1 z v F (hq : PA w0 w1 b p z x b' p' x' kb N c P v F) => And.intro (box3 (w := w1) (bx := w.heap.size) (k := 3) (a := a) (g := g) (by rw [← hP]; exact hq.holds)) (hq.adv1 hok a))
  have HL : Hid (∀ F T, Fired x.T (cnt x.n a) F T → F.length ≤ 1024) := fun F T hf => by have := hf.len hok.2.1; have := hok.2.2.1; omega
  have HN := hid hN
  rw [← hP] at HA
  clear h h1 hok hl hN hP
  go_enter Try.func10, Try.ntmps10
  go_wp2_with (first
    | (go_at_call 14; refine HA.out.mono ?_; go_loud (rintro e w1 ⟨ad, cap, F, rfl, T, HF, HQ⟩; obtain ⟨⟨-, d1, -⟩, hB⟩ := HB.out w1 _ _ _ HQ.out; have HB1 := hid hB; clear HA HB HQ hB))
    | (go_at_call 23; refine HB1.out.mono ?_; go_loud (rintro e w2 ⟨ad2, cap2, F2, rfl, T2, HF2, HQ⟩; obtain ⟨e1, e2⟩ := HF2.out.eq HF.out; subst e1; subst e2; have hF := HL.out _ _ HF.out; have HS := hid (HQ.out.same hF); have HFl := hid hF; clear HB1 HQ HF HF2 HL hF))
    | (go_at_call 18; refine HS.out.mono ?_; go_loud (rintro e w3 ⟨rfl, HQ⟩; have HT := hid (HQ.out.take HFl.out HN.out); clear HS HQ HFl HN))
    | (go_at_call 24; refine HT.out.mono ?_; go_loud (rintro e w4 ⟨rfl, HQ⟩; have HZ := hid (HE.out w4 _ HQ.out); clear HT HQ HE))
    | fail)
  go_ret
  exact HZ.out
set_option maxRecDepth 20000 in
set_option maxHeartbeats 2000000 in
theorem step_next (h : PQ w0 w b p x x b' p' x' kb N c []) (hl : x.l < 9223372036854775807) (a g : Int) :
    Calls Try.prog 10 #[.pointer (some ⟨kb, 0, none⟩), .pointer (some ⟨b, 0, none⟩), .pointer (some ⟨p, 0, none⟩), .agg #[.int .i64 4, .int .i64 a, .int .i64 g]] w (StepQ w0 b p x b' p' x' kb N c) := by
  have hok := h.ok
  have h1 := (h.push (.cells #[.int .i64 4, .int .i64 a, .int .i64 g] 34)).clear (Nat.le_refl _)
  have HA := hid (h1.next0 (by omega))
  have HE : Hid (∀ w2, PQ w0 w2 b p x x b' p' x' kb N c [] → StepQ w0 b p x b' p' x' kb N c (.returned (.bool true)) w2) := fun w2 hq => ⟨rfl, x, hq.clear (by omega), by omega⟩
  have HB := hid (fun w1 (hq : PQ w0 w1 b p x x b' p' x' kb N c []) => hq.next1 hok)
  clear h h1 hok hl
  generalize nxt x.T = u at *
  generalize decide (0 < x.T.length) = v at *
  go_enter Try.func10, Try.ntmps10
  go_wp2_with (first
    | (go_at_call 15; refine HA.out.mono ?_; go_loud (rintro e w1 ⟨rfl, HQ⟩; have HB1 := hid (HB.out w1 HQ.out); clear HA HB HQ))
    | (go_at_call 25; refine HB1.out.mono ?_; go_loud (rintro e w2 ⟨rfl, HQ⟩; have HF := hid (HE.out w2 HQ.out); clear HB1 HQ HE))
    | fail)
  go_ret
  exact HF.out
set_option maxRecDepth 20000 in
set_option maxHeartbeats 2000000 in
theorem step_now (h : PQ w0 w b p x x b' p' x' kb N c []) (a g : Int) :
    Calls Try.prog 10 #[.pointer (some ⟨kb, 0, none⟩), .pointer (some ⟨b, 0, none⟩), .pointer (some ⟨p, 0, none⟩), .agg #[.int .i64 5, .int .i64 a, .int .i64 g]] w (StepQ w0 b p x b' p' x' kb N c) := by
  have h1 := (h.push (.cells #[.int .i64 5, .int .i64 a, .int .i64 g] 34)).clear (Nat.le_refl _)
  have HA := hid h1.now0
  have HB := hid h1.now1
  have HC := hid h1.len0
  have HD := hid h1.len1
  have HF : Hid (StepQ w0 b p x b' p' x' kb N c (.returned (.bool true)) (w.alloc (.cells #[.int .i64 5, .int .i64 a, .int .i64 g] 34))) := ⟨rfl, x, h1.clear (by omega), by omega⟩
  clear h h1
  generalize x.n = u at *
  generalize x.T.length = v at *
  go_enter Try.func10, Try.ntmps10
  go_wp2_with (first
    | (go_at_call 17; refine HA.out.mono ?_; go_loud (rintro e w1 ⟨rfl, hw⟩; subst w1))
    | (go_at_call 26; refine HB.out.mono ?_; go_loud (rintro e w1 ⟨rfl, hw⟩; subst w1))
    | (go_at_call 16; refine HC.out.mono ?_; go_loud (rintro e w1 ⟨rfl, hw⟩; subst w1))
    | (go_at_call 27; refine HD.out.mono ?_; go_loud (rintro e w1 ⟨rfl, hw⟩; subst w1))
    | fail)
  go_ret
  exact HF.out
set_option maxRecDepth 20000 in
set_option maxHeartbeats 2000000 in
theorem step_else (h : PQ w0 w b p x x b' p' x' kb N c []) (k a g : Int) (h1 : k ≠ 1) (h2 : k ≠ 2) (h3 : k ≠ 3) (h4 : k ≠ 4) (h5 : k ≠ 5) :
    Calls Try.prog 10 #[.pointer (some ⟨kb, 0, none⟩), .pointer (some ⟨b, 0, none⟩), .pointer (some ⟨p, 0, none⟩), .agg #[.int .i64 k, .int .i64 a, .int .i64 g]] w (StepQ w0 b p x b' p' x' kb N c) := by
  have hq := (h.push (.cells #[.int .i64 k, .int .i64 a, .int .i64 g] 34)).clear (Nat.le_refl _)
  have HF : Hid (StepQ w0 b p x b' p' x' kb N c (.returned (.bool true)) (w.alloc (.cells #[.int .i64 k, .int .i64 a, .int .i64 g] 34))) := ⟨rfl, x, hq.clear (by omega), by omega⟩
  clear h hq
  go_enter Try.func10, Try.ntmps10
  go_wp2
  go_ret
  exact HF.out
/-- any call. -/
theorem step_any (h : PQ w0 w b p x x b' p' x' kb N c []) (hl : x.l < 9223372036854775807) (hN : (N + 1) * 24 ≤ 140737488355328) (k a g : Int) (ha : fits a) :
    Calls Try.prog 10 #[.pointer (some ⟨kb, 0, none⟩), .pointer (some ⟨b, 0, none⟩), .pointer (some ⟨p, 0, none⟩), .agg #[.int .i64 k, .int .i64 a, .int .i64 g]] w (StepQ w0 b p x b' p' x' kb N c) := by
  by_cases h1 : k = 1
  · subst h1; exact step_arm h hl a g
  by_cases h2 : k = 2
  · subst h2; exact step_cancel h hl a g ha
  by_cases h3 : k = 3
  · subst h3; exact step_adv h hl hN a g
  by_cases h4 : k = 4
  · subst h4; exact step_next h hl a g
  by_cases h5 : k = 5
  · subst h5; exact step_now h a g
  exact step_else h k a g h1 h2 h3 h4 h5
end
end Go.Proofs.Ythgcjocjkeieaaa
