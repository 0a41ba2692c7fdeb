/-
  What is made of one draw: the closures, and use.
-/
import Derived.Test.YtgcpoanjjgbfjaaPDMake
import Derived.Test.YtgcpoanjjgbfjaaPDMath
namespace Go.Proofs.Ytgcpoanjjgbfjaa
open Go.RowKit
set_option linter.all false

theorem rest_q (d gap : Int) (w : World) (hd : 0 ≤ d ∧ d ≤ 4294967295) (hg : 0 ≤ gap ∧ gap ≤ 18446744073709551615) :
    Calls Try.prog 64 #[.int .u32 d, .int .u64 gap] w fun e w' => e = .returned (.int .u32 (restI d gap)) ∧ ∃ m, w' = w.drewN m := (rest_any d gap w hd hg).mono fun _ _ h => ⟨h.1, 0, h.2⟩
/-- a wait of about b, by a draw. -/
def waitI (b d : Int) : Int := b - b / 4 + restI d (b / 2)
set_option maxHeartbeats 1000000 in
theorem backC_any (d b : Int) (l : Nat) (w : World) (h1 : w.cell? ⟨l, 0, none⟩ = some (.int .i64 b)) (hd : 0 ≤ d ∧ d ≤ 4294967295) (hb : 1 ≤ b ∧ b ≤ 1125899906842624) :
    Calls Try.prog 63 #[.int .u32 d, .pointer (some ⟨l, 0, none⟩)] w fun e w' => e = .returned (.int .i64 (waitI b d)) ∧ ∃ m, w' = w.drewN m := by
  have b1 := hb.1
  have b2 := hb.2
  have b3 : 0 ≤ b / 2 := by omega
  have b4 : b / 2 ≤ 1125899906842624 := by omega
  have H1 : Hid (∀ w, Calls Try.prog 64 #[.int .u32 d, .int .u64 (b / 2)] w fun e w' => e = .returned (.int .u32 (restI d (b / 2))) ∧ ∃ m, w' = w.drewN m) := fun w => rest_q d (b / 2) w hd ⟨b3, by omega⟩
  have hr := restI_bd hd b3
  have r1 := hr.1
  have r2 := hr.2.2
  have r3 := hr.2.1
  have HW : Hid (waitI b d = b - b / 4 + restI d (b / 2)) := rfl
  generalize restI d (b / 2) = R at *
  have t1 : b.tdiv 2 = b / 2 := Int.tdiv_eq_ediv_of_nonneg (by omega)
  have t2 : b.tdiv 4 = b / 4 := Int.tdiv_eq_ediv_of_nonneg (by omega)
  have c1 : 0 ≤ b / 4 := by omega
  have c2 : b / 4 ≤ b := by omega
  have HQ : Hid (b / 4 * 4 ≤ b) := by unfold Hid; omega
  obtain ⟨x, hx⟩ : ∃ x, x = b / 2 := ⟨_, rfl⟩
  obtain ⟨y, hy⟩ : ∃ y, y = b / 4 := ⟨_, rfl⟩
  rw [← hx] at t1 b3 b4 H1 r3
  rw [← hy] at t2 c1 c2 HW
  have x4 : b / 2 = x := hx.symm
  have y4 : b / 4 = y := hy.symm
  clear hx hy hr hd hb HQ
  have e1 : IntKind.i64.wrap R = R := by simp only [IntKind.wrap_i64]; omega
  have e2 : IntKind.i64.wrap (b - y) = b - y := by simp only [IntKind.wrap_i64]; omega
  have e3 : IntKind.i64.wrap (b - y + R) = b - y + R := by simp only [IntKind.wrap_i64]; omega
  have e4 : IntKind.u64.wrap x = x := by simp only [IntKind.wrap_u64]; omega
  have e5 : IntKind.i64.wrap x = x := by simp only [IntKind.wrap_i64]; omega
  have e6 : IntKind.i64.wrap y = y := by simp only [IntKind.wrap_i64]; omega
  go_enter Try.func63, Try.ntmps63
  go_wp2
  go_quiet ((go_at_call 64; refine Calls.quiet_of (H1.out _)))
  go_wp2
  go_ret
  exact ⟨ret_int HW.out.symm, _, rfl⟩
end Go.Proofs.Ytgcpoanjjgbfjaa
