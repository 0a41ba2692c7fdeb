/-
  The document's Mine.
-/
import Derived.Test.YtkhongkfnedflaaFMineW
namespace Go.Proofs.Ytkhongkfnedflaa
open Go.RowKit
set_option linter.all false

theorem mine_start0 (w : World) (A B : Array Value) (t t' : TypeId) : (∀ o, ((w.alloc (.cells A t)).alloc (.cells B t')).cell? ⟨w.heap.size, o, none⟩ = A[o]?) ∧ (∀ o, ((w.alloc (.cells A t)).alloc (.cells B t')).cell? ⟨w.heap.size + 1, o, none⟩ = B[o]?) ∧ Below w.heap.size w ((w.alloc (.cells A t)).alloc (.cells B t')) ∧ w.heap.size + 1 < ((w.alloc (.cells A t)).alloc (.cells B t')).heap.size := by
  have h0 : ((w.alloc (.cells A t)).alloc (.cells B t')).heap[w.heap.size]? = some (.cells A t) := by rw [heap_old _ _ (by simp)]; exact heap_new _ _
  have h1 : ((w.alloc (.cells A t)).alloc (.cells B t')).heap[w.heap.size + 1]? = some (.cells B t') := by have := heap_new (w.alloc (.cells A t)) (.cells B t'); rwa [World.size_alloc] at this
  exact ⟨fun o => cell_of_heap h0 o, fun o => cell_of_heap h1 o, (bpush (bpush (Below.refl _ _) _) _), heap_lt h1⟩

set_option maxRecDepth 20000 in
set_option maxHeartbeats 2000000 in
theorem refMine_any (own d s : Mac) (k : Int) (a : Option Addr) (l c : Nat) (w : World) (ho : own.ok) (hd : d.ok) (hs : s.ok) :
    Calls Try.prog 19 #[own.val, frameV d s k (.slice a l c)] w fun e w' => e = .returned (.bool (mineB own d s)) ∧ Below w.heap.size w w' := by
  have HG : Hid (∀ w, Calls Try.prog 26 #[s.val] w fun e w' => e = .returned (.bool (s.b0 % 2 == 1)) ∧ Below w.heap.size w w') := fun w => refGroup_any s w hs
  have HE : Hid (∀ w, Calls Try.prog 27 #[] w fun e w' => e = .returned everyMac.val ∧ Below w.heap.size w w') := refEveryone_any
  have q1 := mac_eq d own hd ho
  have q2 := mac_eq d everyMac hd every_ok
  have HM : Hid (mineB own d s = (!(s.b0 % 2 == 1) && (decide (d = own) || decide (d = everyMac)))) := rfl
  generalize mineB own d s = R at *
  generalize (s.b0 % 2 == 1) = G at *
  generalize decide (d = own) = E1 at *
  generalize decide (d = everyMac) = E2 at *
  obtain ⟨d0, d1, d2, d3, d4, d5⟩ := d
  obtain ⟨s0, s1, s2, s3, s4, s5⟩ := s
  obtain ⟨o0, o1, o2, o3, o4, o5⟩ := own
  simp only [Mac.val, frameV, everyMac] at *
  clear ho hd hs
  have HM' : Hid (R = (!G && (E1 || E2))) := HM
  clear HM
  cases G <;> cases E1 <;> cases E2
  all_goals
    go_enter Try.func19, Try.ntmps19
    go_wp2_with fail
    refine (HG.out _).mono ?_
    rintro e w1 ⟨rfl, hb1⟩
    have k1 := mine_keep (mine_start0 _ _ _ _ _) hb1
    clear hb1
    go_wp2_with fail
    refine (HE.out _).mono ?_
    rintro e w2 ⟨rfl, hb2⟩
    obtain ⟨hc1, hc2, hb3, hlt⟩ := mine_keep k1 hb2
    have HB := hid hb3
    have hlt0 : w.heap.size < w2.heap.size := by omega
    clear k1 hb2 hb3
    go_wp2
    go_ret
    exact ⟨ret_bool (by rw [HM'.out]; rfl), bpush HB.out _⟩
end Go.Proofs.Ytkhongkfnedflaa
