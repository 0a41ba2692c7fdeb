/-
  Route: tables: New, Set, Clear, Own, Takes, Hop.
-/
import Derived.Test.YtndebeoiibadoaaRPl
namespace Go.Proofs.Ytndebeoiibadoaa
open Go.RowKit
set_option linter.all false

theorem box_after {w w1 : World} {A : Array Value} {t : TypeId} (hb : Below (w.alloc (.cells A t)).heap.size (w.alloc (.cells A t)) w1) (o : Nat) : w1.cell? ⟨w.heap.size, o, none⟩ = A[o]? := by
  rw [hb.cell (p := ⟨w.heap.size, o, none⟩) (by simp), World.cell?_alloc_at _ _ _ _ rfl]
theorem box_on {w1 w2 : World} {g : Nat} {A : Array Value} (h : ∀ o, w1.cell? ⟨g, o, none⟩ = A[o]?) (hg : g < w1.heap.size) (hb : Below w1.heap.size w1 w2) (o : Nat) : w2.cell? ⟨g, o, none⟩ = A[o]? := by
  rw [hb.cell (p := ⟨g, o, none⟩) (by simpa using hg), h]

set_option maxHeartbeats 800000 in
theorem host_any (p : Pl) (x : Int) (w : World) (hp : p.ok) (hx : U32 x) :
    Calls Try.prog 32 #[p.val, .int .u32 x] w fun e w' => e = .returned (.bool (hostN p.ip p.m x)) ∧ Below w.heap.size w w' := by
  have HW : Hid (∀ w, Calls Try.prog 33 #[p.val] w fun e w' => e = .returned (.bool (wideB p.m)) ∧ Below w.heap.size w w') := fun w => wide_any p w hp
  have HH : Hid (∀ w, Calls Try.prog 25 #[p.val, .int .u32 x] w fun e w' => e = .returned (.bool (inB p.ip p.m x)) ∧ Below w.heap.size w w') := fun w => holds_any p x w
  have HT : Hid (∀ w, Calls Try.prog 24 #[p.val, .int .u32 x] w fun e w' => e = .returned (.bool (allB p.ip p.m x)) ∧ Below w.heap.size w w') := fun w => toAll_any p x w hp
  have HI : Hid (∀ w, Calls Try.prog 22 #[.int .u32 x] w fun e w' => e = .returned (.bool (hostB x)) ∧ w' = w) := fun w => isHost_any x w hx.1 hx.2
  have HM : Hid (hostN p.ip p.m x = (hostB x && inB p.ip p.m x && !(wideB p.m && (bits BinOp.andNot IntKind.u32 x p.m == 0)) && !allB p.ip p.m x)) := rfl
  clear hp hx
  generalize hostN p.ip p.m x = R at *
  generalize wideB p.m = b at *
  generalize inB p.ip p.m x = c at *
  generalize allB p.ip p.m x = d at *
  generalize hostB x = f at *
  obtain ⟨i, m, r⟩ := p
  simp only [Pl.val] at *
  generalize hz : (bits BinOp.andNot IntKind.u32 x m == 0) = z at *
  cases b <;> cases f <;> cases c <;> cases z
  all_goals
    go_enter Try.func32, Try.ntmps32
    go_wp2_with fail
    refine (HW.out _).mono ?_
    rintro e w1 ⟨rfl, hb⟩
    have hc := box_after hb
    have hz1 : w.heap.size < w1.heap.size := by have := hb.size; rw [World.size_alloc] at this; omega
    have HB : Hid (Below w.heap.size w w1) := bstep (bpush (Below.refl _ _) _) hb
    clear hb
    go_wp2_with (first
      | (go_at_call 22; refine (HI.out _).mono ?_; rintro e w' ⟨rfl, rfl⟩)
      | fail)
  all_goals first
    | (go_ret; exact ⟨ret_bool (by rw [HM.out]; simp), HB.out⟩)
    | skip
  all_goals
    refine (HH.out _).mono ?_
    rintro e w2 ⟨rfl, hb⟩
    have hc2 := box_on hc hz1 hb
    have HB2 : Hid (Below w.heap.size w w2) := bstep HB.out hb
    clear hb hc hz1
    go_wp2_with fail
  all_goals first
    | (go_ret; exact ⟨ret_bool (by rw [HM.out]; simp), HB2.out⟩)
    | skip
  all_goals
    refine (HT.out _).mono ?_
    rintro e w3 ⟨rfl, hb⟩
    have HB3 : Hid (Below w.heap.size w w3) := bstep HB2.out hb
    clear hb
    go_wp2
    go_ret
    exact ⟨ret_bool (by rw [HM.out]; simp), HB3.out⟩
end Go.Proofs.Ytndebeoiibadoaa
