/-
  Route: the document's Hop.
-/
import Derived.Test.YtndebeoiibadoaaRRef3
namespace Go.Proofs.Ytndebeoiibadoaa
open Go.RowKit
set_option linter.all false

set_option maxHeartbeats 3200000 in
theorem refHop_any (g : Nat) (p : Pl) (d : Int) (w : World) (hp : p.ok) (hd : U32 d) (ht : RTabW w g (!noneB p) p) :
    Calls Try.prog 19 #[.pointer (some ⟨g, 0, none⟩), .int .u32 d] w fun e w' => e = .returned (.tuple #[.int .i64 (hopV p d).1, .int .u32 (hopV p d).2]) ∧ Below w.heap.size w w' := by
  have HB : Hid (∀ w, Calls Try.prog 29 #[.int .u32 p.ip, .int .u32 p.m] w fun e w' => e = .returned (.tuple #[.int .u32 (bcV p.ip p.m), .bool (wideB p.m)]) ∧ w' = w) := fun w => refBroad_any p.ip p.m w hp.2.1
  have HI : Hid (∀ w, Calls Try.prog 26 #[.int .u32 d] w fun e w' => e = .returned (.bool (hostB d)) ∧ w' = w) := fun w => refIsHost_any d w hd.1 hd.2
  have HN : Hid (∀ w, Calls Try.prog 30 #[.int .u32 p.ip, .int .u32 p.m, .int .u32 d] w fun e w' => e = .returned (.bool (inB p.ip p.m d)) ∧ w' = w) := fun w => refIn_any p.ip p.m d w
  have HM : Hid (hopV p d = if (d == 4294967295) = true then (1, d) else if hostB d = false then (0, 0) else if (!noneB p) = false then (0, 0) else if (d == p.ip) = true then (0, 0) else if (wideB p.m && d == bcV p.ip p.m) = true then (1, d) else if inB p.ip p.m d = true then (2, d) else if (p.r != 0) = true then (3, p.r) else (0, 0)) := by
    unfold Hid hopV allB
    cases noneB p <;> rfl
  have hc := ht.cell
  clear hp hd ht
  generalize hopV p d = R at *
  generalize bcV p.ip p.m = B at *
  generalize wideB p.m = b at *
  generalize (!noneB p) = n at *
  generalize inB p.ip p.m d = a at *
  generalize hostB d = f at *
  obtain ⟨i, m, r⟩ := p
  obtain ⟨R1, R2⟩ := R
  simp only at *
  generalize h1 : (d == 4294967295) = z at *
  generalize h2 : (d == i) = q1 at *
  generalize h3 : (d == B) = q2 at *
  generalize h4 : (r != 0) = q3 at *
  cases z
  rotate_left
  · go_enter Try.func19, Try.ntmps19
    go_wp2_with (first
      | (go_at_call 26; refine (HI.out _).mono ?_; rintro e w' ⟨rfl, hw⟩; subst w')
      | fail)
    go_quiet (first | (go_at_call 29; refine Calls.quiet_of_same (HB.out _)) | fail)
    go_wp2_with fail
    generalize hW : w.drewN nq = w1
    have HB1 : Hid (Below w.heap.size w w1) := by subst hW; exact ⟨rfl, rfl, rfl, Nat.le_refl _, fun _ _ => rfl⟩
    have hc1 := fun o => (show w1.cell? ⟨g, o, none⟩ = w.cell? ⟨g, o, none⟩ from by subst hW; rfl).trans (hc o)
    clear hW
    go_quiet (first | (go_at_call 30; refine Calls.quiet_of_same (HN.out _)) | fail)
    go_wp2_with (first | go_quiet (fail) | fail)
    go_ret2
    exact ⟨ret_two (by rw [HM.out]; simp), bstep HB1.out ⟨rfl, rfl, rfl, Nat.le_refl _, fun _ _ => rfl⟩⟩
  cases f
  · go_enter Try.func19, Try.ntmps19
    go_wp2_with (first
      | (go_at_call 26; refine (HI.out _).mono ?_; rintro e w' ⟨rfl, hw⟩; subst w')
      | fail)
    go_quiet (first | (go_at_call 29; refine Calls.quiet_of_same (HB.out _)) | fail)
    go_wp2_with fail
    generalize hW : w.drewN nq = w1
    have HB1 : Hid (Below w.heap.size w w1) := by subst hW; exact ⟨rfl, rfl, rfl, Nat.le_refl _, fun _ _ => rfl⟩
    have hc1 := fun o => (show w1.cell? ⟨g, o, none⟩ = w.cell? ⟨g, o, none⟩ from by subst hW; rfl).trans (hc o)
    clear hW
    go_quiet (first | (go_at_call 30; refine Calls.quiet_of_same (HN.out _)) | fail)
    go_wp2_with (first | go_quiet (fail) | fail)
    go_ret2
    exact ⟨ret_two (by rw [HM.out]; simp), bstep HB1.out ⟨rfl, rfl, rfl, Nat.le_refl _, fun _ _ => rfl⟩⟩
  cases n
  · go_enter Try.func19, Try.ntmps19
    go_wp2_with (first
      | (go_at_call 26; refine (HI.out _).mono ?_; rintro e w' ⟨rfl, hw⟩; subst w')
      | fail)
    go_quiet (first | (go_at_call 29; refine Calls.quiet_of_same (HB.out _)) | fail)
    go_wp2_with fail
    generalize hW : w.drewN nq = w1
    have HB1 : Hid (Below w.heap.size w w1) := by subst hW; exact ⟨rfl, rfl, rfl, Nat.le_refl _, fun _ _ => rfl⟩
    have hc1 := fun o => (show w1.cell? ⟨g, o, none⟩ = w.cell? ⟨g, o, none⟩ from by subst hW; rfl).trans (hc o)
    clear hW
    go_quiet (first | (go_at_call 30; refine Calls.quiet_of_same (HN.out _)) | fail)
    go_wp2_with (first | go_quiet (fail) | fail)
    go_ret2
    exact ⟨ret_two (by rw [HM.out]; simp), bstep HB1.out ⟨rfl, rfl, rfl, Nat.le_refl _, fun _ _ => rfl⟩⟩
  cases q1
  rotate_left
  · go_enter Try.func19, Try.ntmps19
    go_wp2_with (first
      | (go_at_call 26; refine (HI.out _).mono ?_; rintro e w' ⟨rfl, hw⟩; subst w')
      | fail)
    go_quiet (first | (go_at_call 29; refine Calls.quiet_of_same (HB.out _)) | fail)
    go_wp2_with fail
    generalize hW : w.drewN nq = w1
    have HB1 : Hid (Below w.heap.size w w1) := by subst hW; exact ⟨rfl, rfl, rfl, Nat.le_refl _, fun _ _ => rfl⟩
    have hc1 := fun o => (show w1.cell? ⟨g, o, none⟩ = w.cell? ⟨g, o, none⟩ from by subst hW; rfl).trans (hc o)
    clear hW
    go_quiet (first | (go_at_call 30; refine Calls.quiet_of_same (HN.out _)) | fail)
    go_wp2_with (first | go_quiet (fail) | fail)
    go_ret2
    exact ⟨ret_two (by rw [HM.out]; simp), bstep HB1.out ⟨rfl, rfl, rfl, Nat.le_refl _, fun _ _ => rfl⟩⟩
  cases b <;> cases q2 <;> cases a <;> cases q3
  all_goals
    go_enter Try.func19, Try.ntmps19
    go_wp2_with (first
      | (go_at_call 26; refine (HI.out _).mono ?_; rintro e w' ⟨rfl, hw⟩; subst w')
      | fail)
    go_quiet (first | (go_at_call 29; refine Calls.quiet_of_same (HB.out _)) | fail)
    go_wp2_with fail
    generalize hW : w.drewN nq = w1
    have HB1 : Hid (Below w.heap.size w w1) := by subst hW; exact ⟨rfl, rfl, rfl, Nat.le_refl _, fun _ _ => rfl⟩
    have hc1 := fun o => (show w1.cell? ⟨g, o, none⟩ = w.cell? ⟨g, o, none⟩ from by subst hW; rfl).trans (hc o)
    clear hW
    go_quiet (first | (go_at_call 30; refine Calls.quiet_of_same (HN.out _)) | fail)
    go_wp2_with (first | go_quiet (fail) | fail)
    go_ret2
    exact ⟨ret_two (by rw [HM.out]; simp), bstep HB1.out ⟨rfl, rfl, rfl, Nat.le_refl _, fun _ _ => rfl⟩⟩
end Go.Proofs.Ytndebeoiibadoaa
