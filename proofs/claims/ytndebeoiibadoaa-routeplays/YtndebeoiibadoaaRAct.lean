/-
  Route: the functions of a table.
-/
import Derived.Test.YtndebeoiibadoaaRFault
namespace Go.Proofs.Ytndebeoiibadoaa
open Go.RowKit
set_option linter.all false

/-- a table in memory. -/
def TabW (w : World) (g : Nat) (p : Pl) : Prop := w.heap[g]? = some (.cells #[.int .u32 p.ip, .int .u32 p.m, .int .u32 p.r] 43 (0, 0))
theorem TabW.lt {w : World} {g : Nat} {p : Pl} (h : TabW w g p) : g < w.heap.size := heap_lt h
theorem TabW.below {w w' : World} {g : Nat} {p : Pl} (h : TabW w g p) (hb : Below w.heap.size w w') : TabW w' g p := kept h hb
theorem TabW.but {w w' : World} {g b : Nat} {p : Pl} (h : TabW w g p) (hb : But b w w') (hne : g ≠ b) : TabW w' g p := keptBut h hb hne
theorem TabW.cell {w : World} {g : Nat} {p : Pl} (h : TabW w g p) (o : Nat) : w.cell? ⟨g, o, none⟩ = (#[.int .u32 p.ip, .int .u32 p.m, .int .u32 p.r] : Array Value)[o]? := cell_of_heap h o
theorem TabW.set {w : World} {g : Nat} {p : Pl} (h : TabW w g p) (q : Pl) : TabW (((w.setCell ⟨g, 0, none⟩ (.int .u32 q.ip)).setCell ⟨g, 1, none⟩ (.int .u32 q.m)).setCell ⟨g, 2, none⟩ (.int .u32 q.r)) g q := by
  have h1 := heap_setCell (v := .int .u32 q.ip) (j := 0) h
  have h2 := heap_setCell (v := .int .u32 q.m) (j := 1) h1
  have h3 := heap_setCell (v := .int .u32 q.r) (j := 2) h2
  exact h3
theorem but_set3 (w : World) (g : Nat) (a b c : Value) : But g w (((w.setCell ⟨g, 0, none⟩ a).setCell ⟨g, 1, none⟩ b).setCell ⟨g, 2, none⟩ c) :=
  ((But.setCell g w 0 a).trans (But.setCell g _ 1 b)).trans (But.setCell g _ 2 c)

def noneB (p : Pl) : Bool := decide (p = Pl.zero)
set_option maxHeartbeats 400000 in
theorem none_any (g : Nat) (p : Pl) (w : World) (hp : p.ok) (ht : TabW w g p) :
    Calls Try.prog 23 #[.pointer (some ⟨g, 0, none⟩)] w fun e w' => e = .returned (.bool (noneB p)) ∧ w' = w := by
  have q1 := pl_eq p Pl.zero hp Pl.zero_ok
  have HM : Hid (noneB p = decide (p = Pl.zero)) := rfl
  have hc := ht.cell
  generalize noneB p = R at *
  generalize decide (p = Pl.zero) = n at *
  clear hp ht
  obtain ⟨i, m, r⟩ := p
  simp only [Pl.val, Pl.zero] at *
  go_enter Try.func23, Try.ntmps23
  go_wp2
  go_ret
  exact ⟨ret_bool (by rw [HM.out]), rfl⟩
set_option maxHeartbeats 400000 in
theorem own_any (g : Nat) (p : Pl) (w : World) (ht : TabW w g p) :
    Calls Try.prog 14 #[.pointer (some ⟨g, 0, none⟩)] w fun e w' => e = .returned (.int .u32 p.ip) ∧ w' = w := by
  have hc := ht.cell
  clear ht
  obtain ⟨i, m, r⟩ := p
  go_enter Try.func14, Try.ntmps14
  go_wp2
  go_ret
  exact ⟨rfl, rfl⟩
set_option maxHeartbeats 400000 in
theorem new_any (w : World) :
    Calls Try.prog 8 #[] w fun e w' => ∃ g, e = .returned (.pointer (some ⟨g, 0, none⟩)) ∧ TabW w' g Pl.zero ∧ w.heap.size ≤ g ∧ Below w.heap.size w w' := by
  go_enter Try.func8, Try.ntmps8
  go_wp2
  go_ret
  exact ⟨_, rfl, heap_new _ _, Nat.le_refl _, bpush (Below.refl _ _) _⟩
set_option maxHeartbeats 400000 in
theorem clear_any (g : Nat) (p : Pl) (w : World) (ht : TabW w g p) :
    Calls Try.prog 15 #[.pointer (some ⟨g, 0, none⟩)] w fun e w' => e = .returned (.tuple #[]) ∧ TabW w' g Pl.zero ∧ But g w w' := by
  have hc := ht.cell
  have hf := frozen_of_heap ht
  have HT : Hid (TabW w g p) := ht
  clear ht
  go_enter Try.func15, Try.ntmps15
  go_wp2
  go_end0
  exact ⟨rfl, HT.out.set Pl.zero, but_set3 _ _ _ _ _⟩
set_option maxHeartbeats 800000 in
theorem set_any (g : Nat) (p : Pl) (i m r : Int) (w : World) (ht : TabW w g p) (hq : (Pl.mk i m r).ok) :
    Calls Try.prog 11 #[.pointer (some ⟨g, 0, none⟩), .int .u32 i, .int .u32 m, .int .u32 r] w fun e w' => e = .returned (.int .i64 (faultV ⟨i, m, r⟩)) ∧ TabW w' g (if faultV ⟨i, m, r⟩ = 0 then ⟨i, m, r⟩ else p) ∧ But g w w' := by
  have HF : Hid (∀ w, Calls Try.prog 21 #[.agg #[.int .u32 i, .int .u32 m, .int .u32 r]] w fun e w' => e = .returned (.int .i64 (faultV ⟨i, m, r⟩)) ∧ Below w.heap.size w w') := fun w => fault_any ⟨i, m, r⟩ w hq
  have HT : Hid (TabW w g p) := ht
  clear ht hq
  generalize faultV ⟨i, m, r⟩ = F at *
  go_enter Try.func11, Try.ntmps11
  go_wp2_with fail
  refine (HF.out _).mono ?_
  rintro e w1 ⟨rfl, hb⟩
  have hc : ∀ o, w1.cell? ⟨w.heap.size, o, none⟩ = (#[.int .u32 i, .int .u32 m, .int .u32 r] : Array Value)[o]? := fun o => by
    rw [hb.cell (p := ⟨w.heap.size, o, none⟩) (by simp)]
    exact cell_of_heap (heap_new _ _) o
  have HB : Hid (Below w.heap.size w w1) := bstep (bpush (Below.refl _ _) _) hb
  have ht1 : TabW w1 g p := HT.out.below HB.out
  have hc1 := ht1.cell
  have hf1 := frozen_of_heap ht1
  have HT1 : Hid (TabW w1 g p) := ht1
  clear hb ht1
  by_cases hF : F = 0
  · subst hF
    go_wp2
    go_ret
    exact ⟨rfl, HT1.out.set ⟨i, m, r⟩, (But.of_below HB.out).trans (but_set3 _ _ _ _ _)⟩
  · have hF2 : (F != 0) = true := by simpa using hF
    go_wp2
    go_ret
    exact ⟨rfl, HT1.out, But.of_below HB.out⟩

def takesB (p : Pl) (d : Int) : Bool := d == 4294967295 || (!noneB p && (d == p.ip || allB p.ip p.m d))
set_option maxHeartbeats 800000 in
theorem takes_any (g : Nat) (p : Pl) (d : Int) (w : World) (hp : p.ok) (ht : TabW w g p) :
    Calls Try.prog 13 #[.pointer (some ⟨g, 0, none⟩), .int .u32 d] w fun e w' => e = .returned (.bool (takesB p d)) ∧ Below w.heap.size w w' := by
  have HN : Hid (Calls Try.prog 23 #[.pointer (some ⟨g, 0, none⟩)] w fun e w' => e = .returned (.bool (noneB p)) ∧ w' = w) := none_any g p w hp ht
  have HA : Hid (∀ w, Calls Try.prog 24 #[p.val, .int .u32 d] w fun e w' => e = .returned (.bool (allB p.ip p.m d)) ∧ Below w.heap.size w w') := fun w => toAll_any p d w hp
  have HM : Hid (takesB p d = (d == 4294967295 || (!noneB p && (d == p.ip || allB p.ip p.m d)))) := rfl
  have hc := ht.cell
  clear ht hp
  generalize takesB p d = R at *
  generalize noneB p = n at *
  generalize allB p.ip p.m d = a at *
  obtain ⟨i, m, r⟩ := p
  simp only [Pl.val] at *
  generalize hz : (d == 4294967295) = z at *
  generalize hq : (d == i) = q at *
  cases z <;> cases n <;> cases q
  all_goals
    go_enter Try.func13, Try.ntmps13
    go_wp2_with (first
      | (go_at_call 23; refine HN.out.mono ?_; rintro e w' ⟨rfl, hw⟩; subst w')
      | (go_at_call 24; refine (HA.out _).mono ?_; rintro e w' ⟨rfl, hb⟩)
      | fail)
    go_ret
    exact ⟨ret_bool (by rw [HM.out]; simp), by first | exact Below.refl _ _ | assumption⟩

def hopV (p : Pl) (d : Int) : Int × Int := if (d == 4294967295) = true then (1, d) else if hostB d = false then (0, 0) else if noneB p = true then (0, 0) else if (d == p.ip) = true then (0, 0) else if allB p.ip p.m d = true then (1, d) else if inB p.ip p.m d = true then (2, d) else if (p.r != 0) = true then (3, p.r) else (0, 0)
theorem ret_two {a b c d : Int} (h : (a, b) = (c, d)) : Ending.returned (.tuple #[.int .i64 a, .int .u32 b]) = .returned (.tuple #[.int .i64 c, .int .u32 d]) := by
  simp only [Prod.mk.injEq] at h
  rw [h.1, h.2]
set_option maxHeartbeats 1600000 in
theorem hop_any (g : Nat) (p : Pl) (d : Int) (w : World) (hp : p.ok) (hd : U32 d) (ht : TabW w g p) :
    Calls Try.prog 12 #[.pointer (some ⟨g, 0, none⟩), .int .u32 d] w fun e w' => e = .returned (.tuple #[.int .i64 (hopV p d).1, .int .u32 (hopV p d).2]) ∧ Below w.heap.size w w' := by
  have HN : Hid (Calls Try.prog 23 #[.pointer (some ⟨g, 0, none⟩)] w fun e w' => e = .returned (.bool (noneB p)) ∧ w' = w) := none_any g p w hp ht
  have HA : Hid (∀ w, Calls Try.prog 24 #[p.val, .int .u32 d] w fun e w' => e = .returned (.bool (allB p.ip p.m d)) ∧ Below w.heap.size w w') := fun w => toAll_any p d w hp
  have HI : Hid (∀ w, Calls Try.prog 25 #[p.val, .int .u32 d] w fun e w' => e = .returned (.bool (inB p.ip p.m d)) ∧ Below w.heap.size w w') := fun w => holds_any p d w
  have HH : Hid (∀ w, Calls Try.prog 22 #[.int .u32 d] w fun e w' => e = .returned (.bool (hostB d)) ∧ w' = w) := fun w => isHost_any d w hd.1 hd.2
  have HM : Hid (hopV p d = if (d == 4294967295) = true then (1, d) else if hostB d = false then (0, 0) else if noneB p = true then (0, 0) else if (d == p.ip) = true then (0, 0) else if allB p.ip p.m d = true then (1, d) else if inB p.ip p.m d = true then (2, d) else if (p.r != 0) = true then (3, p.r) else (0, 0)) := rfl
  have hc := ht.cell
  have hg := ht.lt
  clear ht hp hd
  generalize hopV p d = R at *
  generalize noneB p = n at *
  generalize allB p.ip p.m d = a at *
  generalize inB p.ip p.m d = b at *
  generalize hostB d = f at *
  obtain ⟨i, m, r⟩ := p
  simp only [Pl.val] at *
  generalize hz : (d == 4294967295) = z at *
  generalize hq : (d == i) = q at *
  generalize hs : (r != 0) = s at *
  obtain ⟨R1, R2⟩ := R
  cases z
  rotate_left
  · go_enter Try.func12, Try.ntmps12
    go_wp2_with fail
    go_ret2
    exact ⟨ret_two (by rw [HM.out]; simp), Below.refl _ _⟩
  cases f
  · go_enter Try.func12, Try.ntmps12
    go_wp2_with (first
      | (go_at_call 22; refine (HH.out _).mono ?_; rintro e w' ⟨rfl, hw⟩; subst w')
      | fail)
    go_ret2
    exact ⟨ret_two (by rw [HM.out]; simp), Below.refl _ _⟩
  cases n
  rotate_left
  · go_enter Try.func12, Try.ntmps12
    go_wp2_with (first
      | (go_at_call 22; refine (HH.out _).mono ?_; rintro e w' ⟨rfl, hw⟩; subst w')
      | (go_at_call 23; refine HN.out.mono ?_; rintro e w' ⟨rfl, hw⟩; subst w')
      | fail)
    go_ret2
    exact ⟨ret_two (by rw [HM.out]; simp), Below.refl _ _⟩
  cases q
  rotate_left
  · go_enter Try.func12, Try.ntmps12
    go_wp2_with (first
      | (go_at_call 22; refine (HH.out _).mono ?_; rintro e w' ⟨rfl, hw⟩; subst w')
      | (go_at_call 23; refine HN.out.mono ?_; rintro e w' ⟨rfl, hw⟩; subst w')
      | fail)
    go_ret2
    exact ⟨ret_two (by rw [HM.out]; simp), Below.refl _ _⟩
  cases a <;> cases b <;> cases s
  all_goals
    go_enter Try.func12, Try.ntmps12
    go_wp2_with (first
      | (go_at_call 22; refine (HH.out _).mono ?_; rintro e w' ⟨rfl, hw⟩; subst w')
      | (go_at_call 23; refine HN.out.mono ?_; rintro e w' ⟨rfl, hw⟩; subst w')
      | fail)
    refine (HA.out _).mono ?_
    rintro e w1 ⟨rfl, hb⟩
    have hc1 := box_on hc hg hb
    have HB : Hid (Below w.heap.size w w1) := hb
    have hg1 : g < w1.heap.size := by have := hb.size; omega
    clear hb
    go_wp2_with fail
  all_goals first
    | (go_ret2; exact ⟨ret_two (by rw [HM.out]; simp), HB.out⟩)
    | skip
  all_goals
    refine (HI.out _).mono ?_
    rintro e w2 ⟨rfl, hb⟩
    have hc2 := box_on hc1 hg1 hb
    have HB2 : Hid (Below w.heap.size w w2) := bstep HB.out hb
    clear hb hc1 hg1
    go_wp2_with (first | go_quiet (fail) | fail)
    go_ret2
    exact ⟨ret_two (by rw [HM.out]; simp), by first | exact HB2.out | exact bstep HB2.out (Below.drewN (Below.refl _ _) _) | exact bstep HB2.out ⟨rfl, rfl, rfl, Nat.le_refl _, fun _ _ => rfl⟩⟩
end Go.Proofs.Ytndebeoiibadoaa
