/-
  Route: why no table may have a place; the empty place.
-/
import Derived.Test.YtndebeoiibadoaaRTab
namespace Go.Proofs.Ytndebeoiibadoaa
open Go.RowKit
set_option linter.all false

def faultV (p : Pl) : Int := if hostB p.ip = false then 101 else if (p.m == 0) = true then 100 else if (onesV p.m != -1) = false then 100 else if hostN p.ip p.m p.ip = false then 101 else if (p.r != 0) = true ∧ hostN p.ip p.m p.r = false then 102 else if (p.r == p.ip) = true then 102 else 0

set_option maxHeartbeats 1600000 in
theorem fault_any (p : Pl) (w : World) (hp : p.ok) :
    Calls Try.prog 21 #[p.val] w fun e w' => e = .returned (.int .i64 (faultV p)) ∧ Below w.heap.size w w' := by
  have HI : Hid (∀ w, Calls Try.prog 22 #[.int .u32 p.ip] w fun e w' => e = .returned (.bool (hostB p.ip)) ∧ w' = w) := fun w => isHost_any p.ip w hp.1.1 hp.1.2
  have HK : Hid (∀ w, Calls Try.prog 31 #[.int .u32 p.m] w fun e w' => e = .returned (.bool (onesV p.m != -1)) ∧ w' = w) := fun w => isMask_any p.m w hp.2.1.1 hp.2.1.2
  have HA : Hid (∀ w, Calls Try.prog 32 #[p.val, .int .u32 p.ip] w fun e w' => e = .returned (.bool (hostN p.ip p.m p.ip)) ∧ Below w.heap.size w w') := fun w => host_any p p.ip w hp hp.1
  have HR : Hid (∀ w, Calls Try.prog 32 #[p.val, .int .u32 p.r] w fun e w' => e = .returned (.bool (hostN p.ip p.m p.r)) ∧ Below w.heap.size w w') := fun w => host_any p p.r w hp hp.2.2
  have HM : Hid (faultV p = if hostB p.ip = false then 101 else if (p.m == 0) = true then 100 else if (onesV p.m != -1) = false then 100 else if hostN p.ip p.m p.ip = false then 101 else if (p.r != 0) = true ∧ hostN p.ip p.m p.r = false then 102 else if (p.r == p.ip) = true then 102 else 0) := rfl
  clear hp
  generalize faultV p = R at *
  generalize hostB p.ip = f at *
  generalize (onesV p.m != -1) = k at *
  generalize hostN p.ip p.m p.ip = a at *
  generalize hostN p.ip p.m p.r = b at *
  obtain ⟨i, m, r⟩ := p
  simp only [Pl.val] at *
  generalize hz : (m == 0) = z at *
  generalize hq : (r != 0) = q at *
  generalize hs : (r == i) = s at *
  cases f
  · go_enter Try.func21, Try.ntmps21
    go_wp2_with (first
      | (go_at_call 22; refine (HI.out _).mono ?_; rintro e w' ⟨rfl, rfl⟩)
      | fail)
    go_ret
    exact ⟨host_int (by rw [HM.out]; simp), bpush (Below.refl _ _) _⟩
  cases z
  rotate_left
  · go_enter Try.func21, Try.ntmps21
    go_wp2_with (first
      | (go_at_call 22; refine (HI.out _).mono ?_; rintro e w' ⟨rfl, rfl⟩)
      | fail)
    go_ret
    exact ⟨host_int (by rw [HM.out]; simp), bpush (Below.refl _ _) _⟩
  cases k
  · go_enter Try.func21, Try.ntmps21
    go_wp2_with (first
      | (go_at_call 22; refine (HI.out _).mono ?_; rintro e w' ⟨rfl, rfl⟩)
      | (go_at_call 31; refine (HK.out _).mono ?_; rintro e w' ⟨rfl, rfl⟩)
      | fail)
    go_ret
    exact ⟨host_int (by rw [HM.out]; simp), bpush (Below.refl _ _) _⟩
  cases q <;> cases s <;> cases a <;> cases b
  all_goals
    go_enter Try.func21, Try.ntmps21
    go_wp2_with (first
      | (go_at_call 22; refine (HI.out _).mono ?_; rintro e w' ⟨rfl, rfl⟩)
      | (go_at_call 31; refine (HK.out _).mono ?_; rintro e w' ⟨rfl, rfl⟩)
      | fail)
    refine (HA.out _).mono ?_
    rintro e w1 ⟨rfl, hb⟩
    have hc := box_after hb
    have hz1 : w.heap.size < w1.heap.size := by have := hb.size; rw [World.size_alloc] at this; omega
    have HB : Hid (Below w.heap.size w w1) := bstep (bpush (Below.refl _ _) _) hb
    clear hb
    go_wp2_with fail
  all_goals first
    | (go_ret; exact ⟨host_int (by rw [HM.out]; simp), HB.out⟩)
    | skip
  all_goals
    refine (HR.out _).mono ?_
    rintro e w2 ⟨rfl, hb⟩
    have hc2 := box_on hc hz1 hb
    have HB2 : Hid (Below w.heap.size w w2) := bstep HB.out hb
    clear hb hc hz1
    go_wp2_with fail
    go_ret; exact ⟨host_int (by rw [HM.out]; simp), HB2.out⟩
end Go.Proofs.Ytndebeoiibadoaa
