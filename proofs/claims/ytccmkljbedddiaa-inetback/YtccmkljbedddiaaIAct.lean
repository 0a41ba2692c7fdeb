/-
  The small functions of inet: within, canBeLaid, need, read.
-/
import Derived.Test.YtccmkljbedddiaaIIp
import Derived.Test.YtccmkljbedddiaaBGet
import Derived.Defers
import Derived.Recover
namespace Go.Proofs.Ytccmkljbedddiaa
open Go.RowKit
set_option linter.all false

def inB (n l m : Int) : Bool := decide (l ≤ n) && decide (n ≤ m)
set_option maxHeartbeats 400000 in
theorem within_any (n l m : Int) (w : World) :
    Calls Try.prog 31 #[.int .i64 n, .int .i64 l, .int .i64 m] w fun e w' => e = .returned (.bool (inB n l m)) ∧ w' = w := by
  unfold inB
  by_cases h1 : l ≤ n
  · by_cases h2 : n ≤ m
    · rw [decide_eq_true h1, decide_eq_true h2]
      go_enter Try.func31, Try.ntmps31
      go_wp2
      go_ret
      exact ⟨rfl, rfl⟩
    · rw [decide_eq_true h1, decide_eq_false h2]
      go_enter Try.func31, Try.ntmps31
      go_wp2
      go_ret
      exact ⟨rfl, rfl⟩
  · rw [decide_eq_false h1]
    go_enter Try.func31, Try.ntmps31
    go_wp2
    go_ret
    exact ⟨rfl, rfl⟩

/-- the panic that an error's number is. -/
def pan (e : Int) : Ending := .panicked [{ v := .iface 23 (.int .i64 e), recovered := false }]
set_option maxHeartbeats 400000 in
theorem need_yes (c : Int) (w : World) :
    Calls Try.prog 27 #[.bool true, .int .i64 c] w fun e w' => e = .returned (.tuple #[]) ∧ w' = w := by
  go_enter Try.func27, Try.ntmps27
  go_wp2
  go_end0
  exact ⟨rfl, rfl⟩
set_option maxHeartbeats 400000 in
theorem need_no (c : Int) (w : World) :
    Calls Try.prog 27 #[.bool false, .int .i64 c] w fun e w' => e = .panicked [{ v := .iface 23 (.int .i64 c), recovered := false }] ∧ w' = w := by
  go_enter Try.func27, Try.ntmps27
  go_wp2
  exact ⟨rfl, rfl, rfl⟩

/-- the number at a place. -/
def numAt (zs : List Int) (a m : Nat) : Int := getTo zs a m
theorem numAt_bd {zs : List Int} (h : ∀ z, z ∈ zs → 0 ≤ z ∧ z ≤ 255) (a : Nat) : (0 ≤ numAt zs a 1 ∧ numAt zs a 1 ≤ 255) ∧ (0 ≤ numAt zs a 2 ∧ numAt zs a 2 ≤ 65535) ∧ (0 ≤ numAt zs a 4 ∧ numAt zs a 4 ≤ 4294967295) := by
  have h1 := getTo_bd zs (getD_mem_bd h) a 1
  have h2 := getTo_bd zs (getD_mem_bd h) a 2
  have h4 := getTo_bd zs (getD_mem_bd h) a 4
  simp only [numAt]
  omega
set_option maxHeartbeats 400000 in
theorem read_any (pt : Part) (a t m : Nat) (w : World) (hok : pt.ok w) (hl : pt.zs.length ≤ 281474976710656) (ht : t = a + m) (ha : t ≤ pt.zs.length) (hm : m = 1 ∨ m = 2 ∨ m = 4) :
    Calls Try.prog 35 #[pt.val, .int .i64 a, .int .i64 t] w fun e w' => e = .returned (.int .u32 (numAt pt.zs a m)) ∧ w' = w := by
  subst ht
  have HG : Hid (∀ w', Below w.heap.size w w' → Calls Try.prog 41 #[pt.val, .int .i64 a, .int .i64 m] w' fun e w'' => e = .returned (.tuple #[.int .u64 (numAt pt.zs a m), .int .i64 0]) ∧ w'' = w') := fun w' hb => by
    have h := get_part pt a m w' (Part.ok_below hok hb) hl
    have e : getAns pt.zs a m = (numAt pt.zs a m, 0) := by
      unfold getAns
      rw [if_neg (by omega), if_neg (by omega)]
      simp [numAt]
    rw [e] at h
    exact h
  have hb := numAt_bd hok.1 a
  have hw : IntKind.u32.wrap (numAt pt.zs a m) = numAt pt.zs a m := by
    simp only [IntKind.wrap_u32]
    rcases hm with rfl | rfl | rfl <;> omega
  have hs : IntKind.i64.wrap (((a + m : Nat) : Int) - (a : Int)) = (m : Int) := by simp only [IntKind.wrap_i64]; omega
  clear hok hb hm
  generalize numAt pt.zs a m = N at *
  unfold Part.val at *
  generalize pt.zs.length = l at *
  generalize ((a + m : Nat) : Int) = am at *
  go_enter Try.func35, Try.ntmps35
  go_wp2_with (first | (go_at_call 41; refine (HG.out _ (Below.refl _ _)).mono ?_; rintro e w1 ⟨rfl, hw1⟩; subst w1) | fail)
  go_ret
  exact ⟨rfl, rfl⟩
end Go.Proofs.Ytccmkljbedddiaa
