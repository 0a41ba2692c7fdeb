import Derived.Test.YtgcpoanjjgbfjaaLzRPl
/-
  Route: tables: New, Set, Clear, Own, Takes, Hop.
-/
namespace Go.Proofs.Ytgcpoanjjgbfjaa
open Go.RowKit
set_option linter.all false

theorem box_after {w w1 : World} {A : Array Value} {t : TypeId} (hb : Below (w.alloc (.cells A t)).heap.size (w.alloc (.cells A t)) w1) (o : Nat) : w1.cell? ⟨w.heap.size, o, none⟩ = A[o]? := by
  rw [hb.cell (p := ⟨w.heap.size, o, none⟩) (by simp), World.cell?_alloc_at _ _ _ _ rfl]
theorem box_on {w1 w2 : World} {g : Nat} {A : Array Value} (h : ∀ o, w1.cell? ⟨g, o, none⟩ = A[o]?) (hg : g < w1.heap.size) (hb : Below w1.heap.size w1 w2) (o : Nat) : w2.cell? ⟨g, o, none⟩ = A[o]? := by
  rw [hb.cell (p := ⟨g, o, none⟩) (by simpa using hg), h]

set_option maxHeartbeats 800000 in
theorem host_any (p : Pl) (x : Int) (w : World) (hp : p.ok) (hx : U32 x) :
    Calls Try.prog 82 #[p.val, .int .u32 x] w fun e w' => e = .returned (.bool (hostN p.ip p.m x)) ∧ Below w.heap.size w w' := by
  have HW : Hid (∀ w, Calls Try.prog 84 #[p.val] w fun e w' => e = .returned (.bool (wideB p.m)) ∧ Below w.heap.size w w') := fun w => wide_any p w hp
  have HH : Hid (∀ w, Calls Try.prog 85 #[p.val, .int .u32 x] w fun e w' => e = .returned (.bool (inB p.ip p.m x)) ∧ Below w.heap.size w w') := fun w => holds_any p x w
  have HT : Hid (∀ w, Calls Try.prog 86 #[p.val, .int .u32 x] w fun e w' => e = .returned (.bool (allB p.ip p.m x)) ∧ Below w.heap.size w w') := fun w => toAll_any p x w hp
  have HI : Hid (∀ w, Calls Try.prog 50 #[.int .u32 x] w fun e w' => e = .returned (.bool (hostB x)) ∧ w' = w) := fun w => isHost_any x w hx.1 hx.2
  have HM : Hid (hostN p.ip p.m x = (hostB x && inB p.ip p.m x && !(wideB p.m && (bits BinOp.andNot IntKind.u32 x p.m == 0)) && !allB p.ip p.m x)) := rfl
  clear hp hx
  generalize hostN p.ip p.m x = R at *
  generalize wideB p.m = b at *
  generalize inB p.ip p.m x = c at *
  generalize allB p.ip p.m x = d at *
  generalize hostB x = f at *
  obtain ⟨i, m, r⟩ := p
  simp only [Pl.val] at *
  generalize hz : (bits BinOp.andNot IntKind.u32 x m == 0) = z at *
  cases b <;> cases f <;> cases c <;> cases z
  all_goals
    go_enter Try.func82, Try.ntmps82
    go_wp2_with fail
    refine (HW.out _).mono ?_
    rintro e w1 ⟨rfl, hb⟩
    have hc := box_after hb
    have hz1 : w.heap.size < w1.heap.size := by have := hb.size; rw [World.size_alloc] at this; omega
    have HB : Hid (Below w.heap.size w w1) := bstep (bpush (Below.refl _ _) _) hb
    clear hb
    go_wp2_with (first
      | (go_at_call 50; refine (HI.out _).mono ?_; rintro e w' ⟨rfl, rfl⟩)
      | fail)
  all_goals first
    | (go_ret; exact ⟨ret_bool (by rw [HM.out]; simp), HB.out⟩)
    | skip
  all_goals
    refine (HH.out _).mono ?_
    rintro e w2 ⟨rfl, hb⟩
    have hc2 := box_on hc hz1 hb
    have HB2 : Hid (Below w.heap.size w w2) := bstep HB.out hb
    clear hb hc hz1
    go_wp2_with fail
  all_goals first
    | (go_ret; exact ⟨ret_bool (by rw [HM.out]; simp), HB2.out⟩)
    | skip
  all_goals
    refine (HT.out _).mono ?_
    rintro e w3 ⟨rfl, hb⟩
    have HB3 : Hid (Below w.heap.size w w3) := bstep HB2.out hb
    clear hb
    go_wp2
    go_ret
    exact ⟨ret_bool (by rw [HM.out]; simp), HB3.out⟩
end Go.Proofs.Ytgcpoanjjgbfjaa

/-
  Route: why no table may have a place; the empty place.
-/
namespace Go.Proofs.Ytgcpoanjjgbfjaa
open Go.RowKit
set_option linter.all false

def faultV (p : Pl) : Int := if hostB p.ip = false then 101 else if (p.m == 0) = true then 100 else if (onesV p.m != -1) = false then 100 else if hostN p.ip p.m p.ip = false then 101 else if (p.r != 0) = true ∧ hostN p.ip p.m p.r = false then 102 else if (p.r == p.ip) = true then 102 else 0

set_option maxHeartbeats 1600000 in
theorem fault_any (p : Pl) (w : World) (hp : p.ok) :
    Calls Try.prog 77 #[p.val] w fun e w' => e = .returned (.int .i64 (faultV p)) ∧ Below w.heap.size w w' := by
  have HI : Hid (∀ w, Calls Try.prog 50 #[.int .u32 p.ip] w fun e w' => e = .returned (.bool (hostB p.ip)) ∧ w' = w) := fun w => isHost_any p.ip w hp.1.1 hp.1.2
  have HK : Hid (∀ w, Calls Try.prog 81 #[.int .u32 p.m] w fun e w' => e = .returned (.bool (onesV p.m != -1)) ∧ w' = w) := fun w => isMask_any p.m w hp.2.1.1 hp.2.1.2
  have HA : Hid (∀ w, Calls Try.prog 82 #[p.val, .int .u32 p.ip] w fun e w' => e = .returned (.bool (hostN p.ip p.m p.ip)) ∧ Below w.heap.size w w') := fun w => host_any p p.ip w hp hp.1
  have HR : Hid (∀ w, Calls Try.prog 82 #[p.val, .int .u32 p.r] w fun e w' => e = .returned (.bool (hostN p.ip p.m p.r)) ∧ Below w.heap.size w w') := fun w => host_any p p.r w hp hp.2.2
  have HM : Hid (faultV p = if hostB p.ip = false then 101 else if (p.m == 0) = true then 100 else if (onesV p.m != -1) = false then 100 else if hostN p.ip p.m p.ip = false then 101 else if (p.r != 0) = true ∧ hostN p.ip p.m p.r = false then 102 else if (p.r == p.ip) = true then 102 else 0) := rfl
  clear hp
  generalize faultV p = R at *
  generalize hostB p.ip = f at *
  generalize (onesV p.m != -1) = k at *
  generalize hostN p.ip p.m p.ip = a at *
  generalize hostN p.ip p.m p.r = b at *
  obtain ⟨i, m, r⟩ := p
  simp only [Pl.val] at *
  generalize hz : (m == 0) = z at *
  generalize hq : (r != 0) = q at *
  generalize hs : (r == i) = s at *
  cases f
  · go_enter Try.func77, Try.ntmps77
    go_wp2_with (first
      | (go_at_call 50; refine (HI.out _).mono ?_; rintro e w' ⟨rfl, rfl⟩)
      | fail)
    go_ret
    exact ⟨host_int (by rw [HM.out]; simp), bpush (Below.refl _ _) _⟩
  cases z
  rotate_left
  · go_enter Try.func77, Try.ntmps77
    go_wp2_with (first
      | (go_at_call 50; refine (HI.out _).mono ?_; rintro e w' ⟨rfl, rfl⟩)
      | fail)
    go_ret
    exact ⟨host_int (by rw [HM.out]; simp), bpush (Below.refl _ _) _⟩
  cases k
  · go_enter Try.func77, Try.ntmps77
    go_wp2_with (first
      | (go_at_call 50; refine (HI.out _).mono ?_; rintro e w' ⟨rfl, rfl⟩)
      | (go_at_call 81; refine (HK.out _).mono ?_; rintro e w' ⟨rfl, rfl⟩)
      | fail)
    go_ret
    exact ⟨host_int (by rw [HM.out]; simp), bpush (Below.refl _ _) _⟩
  cases q <;> cases s <;> cases a <;> cases b
  all_goals
    go_enter Try.func77, Try.ntmps77
    go_wp2_with (first
      | (go_at_call 50; refine (HI.out _).mono ?_; rintro e w' ⟨rfl, rfl⟩)
      | (go_at_call 81; refine (HK.out _).mono ?_; rintro e w' ⟨rfl, rfl⟩)
      | fail)
    refine (HA.out _).mono ?_
    rintro e w1 ⟨rfl, hb⟩
    have hc := box_after hb
    have hz1 : w.heap.size < w1.heap.size := by have := hb.size; rw [World.size_alloc] at this; omega
    have HB : Hid (Below w.heap.size w w1) := bstep (bpush (Below.refl _ _) _) hb
    clear hb
    go_wp2_with fail
  all_goals first
    | (go_ret; exact ⟨host_int (by rw [HM.out]; simp), HB.out⟩)
    | skip
  all_goals
    refine (HR.out _).mono ?_
    rintro e w2 ⟨rfl, hb⟩
    have hc2 := box_on hc hz1 hb
    have HB2 : Hid (Below w.heap.size w w2) := bstep HB.out hb
    clear hb hc hz1
    go_wp2_with fail
    go_ret; exact ⟨host_int (by rw [HM.out]; simp), HB2.out⟩
end Go.Proofs.Ytgcpoanjjgbfjaa

/-
  Route: the functions of a table.
-/
namespace Go.Proofs.Ytgcpoanjjgbfjaa
open Go.RowKit
set_option linter.all false

/-- a table in memory. -/
def TabW (w : World) (g : Nat) (p : Pl) : Prop := w.heap[g]? = some (.cells #[.int .u32 p.ip, .int .u32 p.m, .int .u32 p.r] 111 (0, 0))
theorem TabW.lt {w : World} {g : Nat} {p : Pl} (h : TabW w g p) : g < w.heap.size := heap_lt h
theorem TabW.below {w w' : World} {g : Nat} {p : Pl} (h : TabW w g p) (hb : Below w.heap.size w w') : TabW w' g p := kept h hb
theorem TabW.but {w w' : World} {g b : Nat} {p : Pl} (h : TabW w g p) (hb : But b w w') (hne : g ≠ b) : TabW w' g p := keptBut h hb hne
theorem TabW.cell {w : World} {g : Nat} {p : Pl} (h : TabW w g p) (o : Nat) : w.cell? ⟨g, o, none⟩ = (#[.int .u32 p.ip, .int .u32 p.m, .int .u32 p.r] : Array Value)[o]? := cell_of_heap h o
theorem TabW.set {w : World} {g : Nat} {p : Pl} (h : TabW w g p) (q : Pl) : TabW (((w.setCell ⟨g, 0, none⟩ (.int .u32 q.ip)).setCell ⟨g, 1, none⟩ (.int .u32 q.m)).setCell ⟨g, 2, none⟩ (.int .u32 q.r)) g q := by
  have h1 := heap_setCell (v := .int .u32 q.ip) (j := 0) h
  have h2 := heap_setCell (v := .int .u32 q.m) (j := 1) h1
  have h3 := heap_setCell (v := .int .u32 q.r) (j := 2) h2
  exact h3
theorem but_set3 (w : World) (g : Nat) (a b c : Value) : But g w (((w.setCell ⟨g, 0, none⟩ a).setCell ⟨g, 1, none⟩ b).setCell ⟨g, 2, none⟩ c) :=
  ((But.setCell g w 0 a).trans (But.setCell g _ 1 b)).trans (But.setCell g _ 2 c)

def noneB (p : Pl) : Bool := decide (p = Pl.zero)
set_option maxHeartbeats 400000 in
theorem rtnew_any (w : World) :
    Calls Try.prog 70 #[] w fun e w' => ∃ g, e = .returned (.pointer (some ⟨g, 0, none⟩)) ∧ TabW w' g Pl.zero ∧ w.heap.size ≤ g ∧ Below w.heap.size w w' := by
  go_enter Try.func70, Try.ntmps70
  go_wp2
  go_ret
  exact ⟨_, rfl, heap_new _ _, Nat.le_refl _, bpush (Below.refl _ _) _⟩
set_option maxHeartbeats 800000 in
theorem rtset_any (g : Nat) (p : Pl) (i m r : Int) (w : World) (ht : TabW w g p) (hq : (Pl.mk i m r).ok) :
    Calls Try.prog 71 #[.pointer (some ⟨g, 0, none⟩), .int .u32 i, .int .u32 m, .int .u32 r] w fun e w' => e = .returned (.int .i64 (faultV ⟨i, m, r⟩)) ∧ TabW w' g (if faultV ⟨i, m, r⟩ = 0 then ⟨i, m, r⟩ else p) ∧ But g w w' := by
  have HF : Hid (∀ w, Calls Try.prog 77 #[.agg #[.int .u32 i, .int .u32 m, .int .u32 r]] w fun e w' => e = .returned (.int .i64 (faultV ⟨i, m, r⟩)) ∧ Below w.heap.size w w') := fun w => fault_any ⟨i, m, r⟩ w hq
  have HT : Hid (TabW w g p) := ht
  clear ht hq
  generalize faultV ⟨i, m, r⟩ = F at *
  go_enter Try.func71, Try.ntmps71
  go_wp2_with fail
  refine (HF.out _).mono ?_
  rintro e w1 ⟨rfl, hb⟩
  have hc : ∀ o, w1.cell? ⟨w.heap.size, o, none⟩ = (#[.int .u32 i, .int .u32 m, .int .u32 r] : Array Value)[o]? := fun o => by
    rw [hb.cell (p := ⟨w.heap.size, o, none⟩) (by simp)]
    exact cell_of_heap (heap_new _ _) o
  have HB : Hid (Below w.heap.size w w1) := bstep (bpush (Below.refl _ _) _) hb
  have ht1 : TabW w1 g p := HT.out.below HB.out
  have hc1 := ht1.cell
  have hf1 := frozen_of_heap ht1
  have HT1 : Hid (TabW w1 g p) := ht1
  clear hb ht1
  by_cases hF : F = 0
  · subst hF
    go_wp2
    go_ret
    exact ⟨rfl, HT1.out.set ⟨i, m, r⟩, (But.of_below HB.out).trans (but_set3 _ _ _ _ _)⟩
  · have hF2 : (F != 0) = true := by simpa using hF
    go_wp2
    go_ret
    exact ⟨rfl, HT1.out, But.of_below HB.out⟩

end Go.Proofs.Ytgcpoanjjgbfjaa
