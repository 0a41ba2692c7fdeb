/-
  Route: the document's own table.
-/
import Derived.Test.YtndebeoiibadoaaRMath
import Derived.Deep.QuietTactic
import Derived.BigQuiet
namespace Go.Proofs.Ytndebeoiibadoaa
open Go.RowKit
set_option linter.all false

theorem refIn_any (ip m x : Int) (w : World) :
    Calls Try.prog 30 #[.int .u32 ip, .int .u32 m, .int .u32 x] w fun e w' => e = .returned (.bool (inB ip m x)) ∧ w' = w := by
  have HM : Hid (inB ip m x = (bits BinOp.and IntKind.u32 ip m == bits BinOp.and IntKind.u32 x m)) := by
    unfold Hid inB
    rw [Bool.eq_iff_iff]
    simp only [beq_iff_eq]
    exact eq_comm
  generalize inB ip m x = R at *
  go_enter Try.func30, Try.ntmps30
  go_wp2
  go_ret
  exact ⟨ret_bool (by rw [HM.out]), rfl⟩
set_option maxHeartbeats 400000 in
theorem refBroad_any (ip m : Int) (w : World) (hm : U32 m) :
    Calls Try.prog 29 #[.int .u32 ip, .int .u32 m] w fun e w' => e = .returned (.tuple #[.int .u32 (bcV ip m), .bool (wideB m)]) ∧ w' = w := by
  have HO : Hid (∀ w, Calls Try.prog 34 #[.int .u32 m] w fun e w' => e = .returned (.int .i64 (onesV m)) ∧ w' = w) := fun w => refOnes_i m w hm.1 hm.2
  have HM : Hid (bcV ip m = bits BinOp.or IntKind.u32 ip (bits BinOp.xor IntKind.u32 IntKind.u32.max m)) := rfl
  have HW : Hid (wideB m = decide (onesV m < 31)) := rfl
  clear hm
  generalize bcV ip m = B at *
  generalize wideB m = b at *
  generalize onesV m = n at *
  go_enter Try.func29, Try.ntmps29
  go_wp2_with (first
    | (go_at_call 34; refine (HO.out _).mono ?_; rintro e w' ⟨rfl, hw⟩; subst w')
    | fail)
  go_ret2
  exact ⟨by rw [HM.out, HW.out]; rfl, rfl⟩
theorem hostN_ref (ip m x : Int) (hi : U32 ip) (hm : U32 m) (hx : U32 x) : hostN ip m x = (hostB x && inB ip m x && !(wideB m && (x == bcV ip m || x == bits BinOp.and IntKind.u32 ip m))) := by
  unfold hostN bareB allB
  cases h : inB ip m x
  · simp
  · have h' : bits BinOp.and IntKind.u32 x m = bits BinOp.and IntKind.u32 ip m := by unfold inB at h; simpa using h
    rw [bare_in x ip m hx hi hm h']
    cases wideB m <;> cases hostB x <;> cases (x == bcV ip m) <;> cases (x == bits BinOp.and IntKind.u32 ip m) <;> rfl
set_option maxHeartbeats 800000 in
theorem refHost_any (ip m x : Int) (w : World) (hi : U32 ip) (hm : U32 m) (hx : U32 x) :
    Calls Try.prog 28 #[.int .u32 ip, .int .u32 m, .int .u32 x] w fun e w' => e = .returned (.bool (hostN ip m x)) ∧ w' = w := by
  have HI : Hid (∀ w, Calls Try.prog 26 #[.int .u32 x] w fun e w' => e = .returned (.bool (hostB x)) ∧ w' = w) := fun w => refIsHost_any x w hx.1 hx.2
  have HN : Hid (∀ w, Calls Try.prog 30 #[.int .u32 ip, .int .u32 m, .int .u32 x] w fun e w' => e = .returned (.bool (inB ip m x)) ∧ w' = w) := fun w => refIn_any ip m x w
  have HB : Hid (∀ w, Calls Try.prog 29 #[.int .u32 ip, .int .u32 m] w fun e w' => e = .returned (.tuple #[.int .u32 (bcV ip m), .bool (wideB m)]) ∧ w' = w) := fun w => refBroad_any ip m w hm
  have HM : Hid (hostN ip m x = _) := hostN_ref ip m x hi hm hx
  clear hi hm hx
  generalize hostN ip m x = R at *
  generalize hostB x = f at *
  generalize inB ip m x = c at *
  generalize bcV ip m = B at *
  generalize wideB m = b at *
  generalize h1 : (x == B) = q1 at *
  generalize h2 : (x == bits BinOp.and IntKind.u32 ip m) = q2 at *
  cases f <;> cases c <;> cases b <;> cases q1
  all_goals
    go_enter Try.func28, Try.ntmps28
    go_wp2_with (first
      | (go_at_call 26; refine (HI.out _).mono ?_; rintro e w' ⟨rfl, hw⟩; subst w')
      | (go_at_call 30; refine (HN.out _).mono ?_; rintro e w' ⟨rfl, hw⟩; subst w')
      | (go_at_call 29; refine (HB.out _).mono ?_; rintro e w' ⟨rfl, hw⟩; subst w')
      | fail)
    go_ret
    exact ⟨ret_bool (by rw [HM.out]; simp), rfl⟩

/-- the document's table in memory. -/
def RTabW (w : World) (g : Nat) (b : Bool) (p : Pl) : Prop := w.heap[g]? = some (.cells #[.bool b, .int .u32 p.ip, .int .u32 p.m, .int .u32 p.r] 45 (0, 0))
theorem RTabW.lt {w : World} {g : Nat} {b : Bool} {p : Pl} (h : RTabW w g b p) : g < w.heap.size := heap_lt h
theorem RTabW.below {w w' : World} {g : Nat} {b : Bool} {p : Pl} (h : RTabW w g b p) (hb : Below w.heap.size w w') : RTabW w' g b p := kept h hb
theorem RTabW.but {w w' : World} {g q : Nat} {b : Bool} {p : Pl} (h : RTabW w g b p) (hb : But q w w') (hne : g ≠ q) : RTabW w' g b p := keptBut h hb hne
theorem RTabW.cell {w : World} {g : Nat} {b : Bool} {p : Pl} (h : RTabW w g b p) (o : Nat) : w.cell? ⟨g, o, none⟩ = (#[.bool b, .int .u32 p.ip, .int .u32 p.m, .int .u32 p.r] : Array Value)[o]? := cell_of_heap h o
theorem RTabW.set {w : World} {g : Nat} {b : Bool} {p : Pl} (h : RTabW w g b p) (c : Bool) (q : Pl) : RTabW ((((w.setCell ⟨g, 0, none⟩ (.bool c)).setCell ⟨g, 1, none⟩ (.int .u32 q.ip)).setCell ⟨g, 2, none⟩ (.int .u32 q.m)).setCell ⟨g, 3, none⟩ (.int .u32 q.r)) g c q := by
  have h0 := heap_setCell (v := .bool c) (j := 0) h
  have h1 := heap_setCell (v := .int .u32 q.ip) (j := 1) h0
  have h2 := heap_setCell (v := .int .u32 q.m) (j := 2) h1
  have h3 := heap_setCell (v := .int .u32 q.r) (j := 3) h2
  exact h3
theorem but_set4 (w : World) (g : Nat) (a b c d : Value) : But g w ((((w.setCell ⟨g, 0, none⟩ a).setCell ⟨g, 1, none⟩ b).setCell ⟨g, 2, none⟩ c).setCell ⟨g, 3, none⟩ d) :=
  (((But.setCell g w 0 a).trans (But.setCell g _ 1 b)).trans (But.setCell g _ 2 c)).trans (But.setCell g _ 3 d)
theorem tabs_apart {w : World} {g h : Nat} {b : Bool} {p q : Pl} (ht : TabW w g p) (hr : RTabW w h b q) : g ≠ h := by
  intro e
  subst e
  have := ht.symm.trans hr
  simp at this

set_option maxHeartbeats 400000 in
theorem refOwn_any (g : Nat) (b : Bool) (p : Pl) (w : World) (ht : RTabW w g b p) :
    Calls Try.prog 20 #[.pointer (some ⟨g, 0, none⟩)] w fun e w' => e = .returned (.int .u32 p.ip) ∧ w' = w := by
  have hc := ht.cell
  clear ht
  obtain ⟨i, m, r⟩ := p
  go_enter Try.func20, Try.ntmps20
  go_wp2
  go_ret
  exact ⟨rfl, rfl⟩
set_option maxHeartbeats 400000 in
theorem refNew_any (w : World) :
    Calls Try.prog 9 #[] w fun e w' => ∃ g, e = .returned (.pointer (some ⟨g, 0, none⟩)) ∧ RTabW w' g false Pl.zero ∧ w.heap.size ≤ g ∧ Below w.heap.size w w' := by
  go_enter Try.func9, Try.ntmps9
  go_wp2
  go_ret
  exact ⟨_, rfl, heap_new _ _, Nat.le_refl _, bpush (Below.refl _ _) _⟩
set_option maxHeartbeats 400000 in
theorem refClear_any (g : Nat) (b : Bool) (p : Pl) (w : World) (ht : RTabW w g b p) :
    Calls Try.prog 17 #[.pointer (some ⟨g, 0, none⟩)] w fun e w' => e = .returned (.tuple #[]) ∧ RTabW w' g false Pl.zero ∧ But g w w' := by
  have hc := ht.cell
  have hf := frozen_of_heap ht
  have HT : Hid (RTabW w g b p) := ht
  clear ht
  go_enter Try.func17, Try.ntmps17
  go_wp2
  go_end0
  exact ⟨rfl, HT.out.set false Pl.zero, but_set4 _ _ _ _ _ _⟩
end Go.Proofs.Ytndebeoiibadoaa
