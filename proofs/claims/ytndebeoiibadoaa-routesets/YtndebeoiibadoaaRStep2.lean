/-
  Route: one call of a script at both, whatever its kind.
-/
import Derived.Test.YtndebeoiibadoaaRStep
namespace Go.Proofs.Ytndebeoiibadoaa
open Go.RowKit
set_option linter.all false

section
variable {w0 w : World} {g h : Nat} {p : Pl} {ex : List (Nat × Obj)}
set_option maxRecDepth 20000 in
set_option maxHeartbeats 2000000 in
theorem step_clear (x : PX w0 w g h p p ex) (a m r : Int) :
    Calls Try.prog 10 #[.pointer (some ⟨g, 0, none⟩), .pointer (some ⟨h, 0, none⟩), .agg #[.int .i64 2, .int .u32 a, .int .u32 m, .int .u32 r]] w (StepQ w0 g h ex) := by
  have x1 := x.push (.cells #[.int .i64 2, .int .u32 a, .int .u32 m, .int .u32 r] 31)
  have HA := hid x1.clear0
  have HB := hid (fun w1 (y : PX w0 w1 g h Pl.zero p ((w.heap.size, .cells #[.int .i64 2, .int .u32 a, .int .u32 m, .int .u32 r] 31) :: ex)) => y.clear1)
  have HE : Hid (∀ w2, PX w0 w2 g h Pl.zero Pl.zero ((w.heap.size, .cells #[.int .i64 2, .int .u32 a, .int .u32 m, .int .u32 r] 31) :: ex) → StepQ w0 g h ex (.returned (.bool true)) w2) := fun w2 y => ⟨rfl, _, y.drop⟩
  clear x x1
  go_enter Try.func10, Try.ntmps10
  go_wp2_with (first
    | (go_at_call 15; refine HA.out.mono ?_; rintro e w1 ⟨rfl, HQ⟩; have HB1 := hid (HB.out w1 HQ.out); clear HQ)
    | (go_at_call 17; refine HB1.out.mono ?_; rintro e w2 ⟨rfl, HQ⟩; have HF := hid (HE.out w2 HQ.out); clear HQ)
    | fail)
  go_ret
  exact HF.out
set_option maxRecDepth 20000 in
set_option maxHeartbeats 2000000 in
theorem step_takes (x : PX w0 w g h p p ex) (a m r : Int) :
    Calls Try.prog 10 #[.pointer (some ⟨g, 0, none⟩), .pointer (some ⟨h, 0, none⟩), .agg #[.int .i64 3, .int .u32 a, .int .u32 m, .int .u32 r]] w (StepQ w0 g h ex) := by
  have x1 := (x.push (.cells #[.int .i64 3, .int .u32 a, .int .u32 m, .int .u32 r] 31)).on (bdrewN _ 1)
  have HS0 := hid x1.box
  have HA := hid (x1.takes0 a)
  have HB := hid (fun w1 (y : PX w0 w1 g h p p ((w.heap.size, .cells #[.int .i64 3, .int .u32 a, .int .u32 m, .int .u32 r] 31) :: ex)) => And.intro y.box (y.takes1 a))
  have HE : Hid (∀ w2, PX w0 w2 g h p p ((w.heap.size, .cells #[.int .i64 3, .int .u32 a, .int .u32 m, .int .u32 r] 31) :: ex) → StepQ w0 g h ex (.returned (.bool true)) w2) := fun w2 y => ⟨rfl, _, y.drop⟩
  clear x x1
  generalize takesB p a = F at *
  go_enter Try.func10, Try.ntmps10
  go_wp2
  go_region_held3 (fun s => ∀ o, s.cell? ⟨w.heap.size, o, none⟩ = (#[.int .i64 3, .int .u32 a, .int .u32 m, .int .u32 r] : Array Value)[o]?) (first | exact HS0.out | exact HS1.out | exact HS2.out | go_keep) (first
    | (go_at_call 13; refine HA.out.mono ?_; rintro e w1 ⟨rfl, HQ⟩; have HB1 := hid (HB.out w1 HQ.out).2; have HS1 := hid (HB.out w1 HQ.out).1; clear HQ)
    | (go_at_call 18; refine HB1.out.mono ?_; rintro e w2 ⟨rfl, HQ⟩; have HF := hid (HE.out w2 HQ.out); have HS2 := hid (HB.out w2 HQ.out).1; clear HQ))
  go_wp2
  go_ret
  simp only [beq_self_eq_true]
  exact HF.out
set_option maxRecDepth 20000 in
set_option maxHeartbeats 2000000 in
theorem step_hop (x : PX w0 w g h p p ex) (a m r : Int) (ha : U32 a) :
    Calls Try.prog 10 #[.pointer (some ⟨g, 0, none⟩), .pointer (some ⟨h, 0, none⟩), .agg #[.int .i64 4, .int .u32 a, .int .u32 m, .int .u32 r]] w (StepQ w0 g h ex) := by
  have x1 := x.push (.cells #[.int .i64 4, .int .u32 a, .int .u32 m, .int .u32 r] 31)
  have HA := hid (x1.hop0 a ha)
  have HB := hid (fun w1 (y : PX w0 w1 g h p p ((w.heap.size, .cells #[.int .i64 4, .int .u32 a, .int .u32 m, .int .u32 r] 31) :: ex)) => And.intro y.box (y.hop1 a ha))
  have HE : Hid (∀ w2, PX w0 w2 g h p p ((w.heap.size, .cells #[.int .i64 4, .int .u32 a, .int .u32 m, .int .u32 r] 31) :: ex) → StepQ w0 g h ex (.returned (.bool true)) w2) := fun w2 y => ⟨rfl, _, y.drop⟩
  clear x x1 ha
  generalize (hopV p a).1 = F1 at *
  generalize (hopV p a).2 = F2 at *
  go_enter Try.func10, Try.ntmps10
  go_wp2_with fail
  refine HA.out.mono ?_
  rintro e w1 ⟨rfl, HQ⟩
  obtain ⟨hc1, hB⟩ := HB.out w1 HQ.out
  have HB1 := hid hB
  clear HQ hB
  go_wp2_with fail
  refine HB1.out.mono ?_
  rintro e w2 ⟨rfl, HQ⟩
  have HF := hid (HE.out w2 HQ.out)
  clear HQ
  go_wp2_with fail
  go_ret
  exact HF.out
set_option maxRecDepth 20000 in
set_option maxHeartbeats 2000000 in
theorem step_own (x : PX w0 w g h p p ex) (a m r : Int) :
    Calls Try.prog 10 #[.pointer (some ⟨g, 0, none⟩), .pointer (some ⟨h, 0, none⟩), .agg #[.int .i64 5, .int .u32 a, .int .u32 m, .int .u32 r]] w (StepQ w0 g h ex) := by
  have x1 := x.push (.cells #[.int .i64 5, .int .u32 a, .int .u32 m, .int .u32 r] 31)
  have HA := hid (own_any g p _ x1.tab)
  have HB := hid (refOwn_any h _ p _ x1.ref)
  have HE : Hid (StepQ w0 g h ex (.returned (.bool true)) (w.alloc (.cells #[.int .i64 5, .int .u32 a, .int .u32 m, .int .u32 r] 31))) := ⟨rfl, _, x1.drop⟩
  clear x x1
  go_enter Try.func10, Try.ntmps10
  go_wp2_with (first
    | (go_at_call 14; refine HA.out.mono ?_; rintro e w' ⟨rfl, hw⟩; subst w')
    | (go_at_call 20; refine HB.out.mono ?_; rintro e w' ⟨rfl, hw⟩; subst w')
    | fail)
  go_ret
  exact HE.out
set_option maxRecDepth 20000 in
set_option maxHeartbeats 2000000 in
theorem step_else (x : PX w0 w g h p p ex) (k a m r : Int) (h1 : ¬ k = 1) (h2 : ¬ k = 2) (h3 : ¬ k = 3) (h4 : ¬ k = 4) (h5 : ¬ k = 5) :
    Calls Try.prog 10 #[.pointer (some ⟨g, 0, none⟩), .pointer (some ⟨h, 0, none⟩), .agg #[.int .i64 k, .int .u32 a, .int .u32 m, .int .u32 r]] w (StepQ w0 g h ex) := by
  have x1 := x.push (.cells #[.int .i64 k, .int .u32 a, .int .u32 m, .int .u32 r] 31)
  have HE : Hid (StepQ w0 g h ex (.returned (.bool true)) (w.alloc (.cells #[.int .i64 k, .int .u32 a, .int .u32 m, .int .u32 r] 31))) := ⟨rfl, _, x1.drop⟩
  clear x x1
  have q1 : (k == 1) = false := by simpa using h1
  have q2 : (k == 2) = false := by simpa using h2
  have q3 : (k == 3) = false := by simpa using h3
  have q4 : (k == 4) = false := by simpa using h4
  have q5 : (k == 5) = false := by simpa using h5
  go_enter Try.func10, Try.ntmps10
  go_wp2_with fail
  go_ret
  exact HE.out
theorem step_any (x : PX w0 w g h p p ex) (o : OpW) (ho : o.ok) :
    Calls Try.prog 10 #[.pointer (some ⟨g, 0, none⟩), .pointer (some ⟨h, 0, none⟩), .agg #[.int .i64 o.k, .int .u32 o.a, .int .u32 o.m, .int .u32 o.r]] w (StepQ w0 g h ex) := by
  obtain ⟨k, a, m, r⟩ := o
  obtain ⟨-, ha, hm, hr⟩ := ho
  simp only at ha hm hr ⊢
  by_cases h1 : k = 1
  · subst h1; exact step_set x a m r ⟨ha, hm, hr⟩
  by_cases h2 : k = 2
  · subst h2; exact step_clear x a m r
  by_cases h3 : k = 3
  · subst h3; exact step_takes x a m r
  by_cases h4 : k = 4
  · subst h4; exact step_hop x a m r ha
  by_cases h5 : k = 5
  · subst h5; exact step_own x a m r
  exact step_else x k a m r h1 h2 h3 h4 h5
end
end Go.Proofs.Ytndebeoiibadoaa
