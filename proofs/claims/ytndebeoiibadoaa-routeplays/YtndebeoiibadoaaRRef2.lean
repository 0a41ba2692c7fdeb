/-
  Route: the document's Set, Takes and Hop.
-/
import Derived.Test.YtndebeoiibadoaaRRef
namespace Go.Proofs.Ytndebeoiibadoaa
open Go.RowKit
set_option linter.all false

set_option maxHeartbeats 1600000 in
theorem refSet_any (g : Nat) (b : Bool) (p : Pl) (i m r : Int) (w : World) (ht : RTabW w g b p) (hq : (Pl.mk i m r).ok) :
    Calls Try.prog 16 #[.pointer (some ⟨g, 0, none⟩), .int .u32 i, .int .u32 m, .int .u32 r] w fun e w' => e = .returned (.int .i64 (faultV ⟨i, m, r⟩)) ∧ RTabW w' g (if faultV ⟨i, m, r⟩ = 0 then true else b) (if faultV ⟨i, m, r⟩ = 0 then ⟨i, m, r⟩ else p) ∧ But g w w' := by
  have HI : Hid (∀ w, Calls Try.prog 26 #[.int .u32 i] w fun e w' => e = .returned (.bool (hostB i)) ∧ w' = w) := fun w => refIsHost_any i w hq.1.1 hq.1.2
  have HK : Hid (∀ w, Calls Try.prog 27 #[.int .u32 m] w fun e w' => e = .returned (.bool (onesV m != -1)) ∧ w' = w) := fun w => refIsMask_any m w hq.2.1.1 hq.2.1.2
  have HA : Hid (∀ w, Calls Try.prog 28 #[.int .u32 i, .int .u32 m, .int .u32 i] w fun e w' => e = .returned (.bool (hostN i m i)) ∧ w' = w) := fun w => refHost_any i m i w hq.1 hq.2.1 hq.1
  have HR : Hid (∀ w, Calls Try.prog 28 #[.int .u32 i, .int .u32 m, .int .u32 r] w fun e w' => e = .returned (.bool (hostN i m r)) ∧ w' = w) := fun w => refHost_any i m r w hq.1 hq.2.1 hq.2.2
  have HM : Hid (faultV ⟨i, m, r⟩ = if hostB i = false then 101 else if (m == 0) = true then 100 else if (onesV m != -1) = false then 100 else if hostN i m i = false then 101 else if (r != 0) = true ∧ hostN i m r = false then 102 else if (r == i) = true then 102 else 0) := rfl
  have hc := ht.cell
  have hf := frozen_of_heap ht
  have HT : Hid (RTabW w g b p) := ht
  clear hq ht
  generalize faultV ⟨i, m, r⟩ = R at *
  generalize hostB i = f at *
  generalize (onesV m != -1) = k at *
  generalize hostN i m i = a at *
  generalize hostN i m r = c at *
  generalize hz : (m == 0) = z at *
  generalize hq : (r != 0) = q at *
  generalize hs : (r == i) = s at *
  cases f
  · have hR : R = 101 := by rw [HM.out]; simp
    subst hR
    go_enter Try.func16, Try.ntmps16
    go_wp2_with (first
      | (go_at_call 26; refine (HI.out _).mono ?_; rintro e w' ⟨rfl, hw⟩; subst w')
      | fail)
    go_ret
    exact ⟨rfl, HT.out, But.refl _ _⟩
  by_cases hkz : k = false ∨ z = true
  · have hR : R = 100 := by rw [HM.out]; rcases hkz with rfl | rfl <;> simp
    subst hR
    cases k <;> cases z <;> simp at hkz
    all_goals
      go_enter Try.func16, Try.ntmps16
      go_wp2_with (first
        | (go_at_call 26; refine (HI.out _).mono ?_; rintro e w' ⟨rfl, hw⟩; subst w')
        | (go_at_call 27; refine (HK.out _).mono ?_; rintro e w' ⟨rfl, hw⟩; subst w')
        | fail)
      go_ret
      exact ⟨rfl, HT.out, But.refl _ _⟩
  have hk1 : k = true := by cases k <;> simp_all
  have hz1 : z = false := by cases z <;> simp_all
  subst hk1 hz1
  clear hkz
  cases a
  · have hR : R = 101 := by rw [HM.out]; simp
    subst hR
    go_enter Try.func16, Try.ntmps16
    go_wp2_with (first
      | (go_at_call 26; refine (HI.out _).mono ?_; rintro e w' ⟨rfl, hw⟩; subst w')
      | (go_at_call 27; refine (HK.out _).mono ?_; rintro e w' ⟨rfl, hw⟩; subst w')
      | (go_at_call 28; refine (HA.out _).mono ?_; rintro e w' ⟨rfl, hw⟩; subst w')
      | fail)
    go_ret
    exact ⟨rfl, HT.out, But.refl _ _⟩
  by_cases hw2 : (q = true ∧ c = false) ∨ s = true
  · have hR : R = 102 := by
      rw [HM.out]
      rcases hw2 with ⟨rfl, rfl⟩ | rfl
      · simp
      · cases q <;> cases c <;> simp
    subst hR
    clear HM
    cases q <;> cases c <;> cases s <;> simp at hw2
    all_goals
      go_enter Try.func16, Try.ntmps16
      go_wp2_with (first
        | (go_at_call 26; refine (HI.out _).mono ?_; rintro e w' ⟨rfl, hw⟩; subst w')
        | (go_at_call 27; refine (HK.out _).mono ?_; rintro e w' ⟨rfl, hw⟩; subst w')
        | fail)
      refine (HA.out _).mono ?_
      rintro e w' ⟨rfl, hw⟩; subst w'
      go_wp2_with fail
      refine (HR.out _).mono ?_
      rintro e w' ⟨rfl, hw⟩; subst w'
      go_wp2_with fail
      go_ret
      exact ⟨rfl, HT.out, But.refl _ _⟩
  · have hR : R = 0 := by
      rw [HM.out]
      cases q <;> cases c <;> cases s <;> simp at hw2 ⊢
    subst hR
    clear HM
    cases q <;> cases c <;> cases s <;> simp at hw2
    all_goals
      go_enter Try.func16, Try.ntmps16
      go_wp2_with (first
        | (go_at_call 26; refine (HI.out _).mono ?_; rintro e w' ⟨rfl, hw⟩; subst w')
        | (go_at_call 27; refine (HK.out _).mono ?_; rintro e w' ⟨rfl, hw⟩; subst w')
        | fail)
      refine (HA.out _).mono ?_
      rintro e w' ⟨rfl, hw⟩; subst w'
      go_wp2_with fail
      refine (HR.out _).mono ?_
      rintro e w' ⟨rfl, hw⟩; subst w'
      go_wp2_with fail
      go_ret
      exact ⟨rfl, HT.out.set true ⟨i, m, r⟩, but_set4 _ _ _ _ _ _⟩
end Go.Proofs.Ytndebeoiibadoaa
