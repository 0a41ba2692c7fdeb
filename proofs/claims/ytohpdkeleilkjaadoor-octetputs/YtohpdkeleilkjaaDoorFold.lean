/-
  The contracts of octet.fold and octet.Get.
-/
import Derived.Test.YtohpdkeleilkjaaDoorPut
import Derived.Laws.BitsAllLaws
namespace Go.Proofs.YtohpdkeleilkjaaDoor
open Go.RowKit
set_option linter.unusedVariables false

/-- a sum of words, its carries brought back: the one's complement sum. -/
def cs (u : Int) : Int := if u = 0 then 0 else (u - 1) % 65535 + 1

theorem and_ffff (v : Int) (h0 : 0 ≤ v) (h1 : v ≤ 18446744073709551615) : bits BinOp.and IntKind.u64 v 65535 = v % 65536 := by
  rw [u64_and v 65535 h0 (by omega) (by omega) (by omega)]
  rw [show (65535 : Int).toNat = 2 ^ 16 - 1 from rfl, Nat.and_two_pow_sub_one_eq_mod]
  omega
theorem fold_step (v : Int) (h0 : 65535 < v) (h1 : v ≤ 18446744073709551615) :
    IntKind.u64.wrap (bits BinOp.and IntKind.u64 v 65535 + v / 65536) = v % 65536 + v / 65536 := by
  rw [and_ffff v (by omega) h1, IntKind.wrap_u64]; omega
theorem cs_step (v : Int) (h0 : 65535 < v) : cs (v % 65536 + v / 65536) = cs v := by
  unfold cs; rw [if_neg (by omega), if_neg (by omega)]; omega
theorem cs_small (v : Int) (h0 : 0 ≤ v) (h1 : v ≤ 65535) : cs v = v := by
  unfold cs; split <;> omega
theorem cs_bd (v : Int) (h0 : 0 ≤ v) : 0 ≤ cs v ∧ cs v ≤ 65535 := by
  unfold cs; split <;> omega

theorem ret_int {k : IntKind} {a b : Int} (h : a = b) : Ending.returned (.int k a) = .returned (.int k b) := by rw [h]

set_option maxHeartbeats 400000 in
theorem fold_any (u : Int) (w : World) (h3 : 0 ≤ u) (h4 : u ≤ 18446744073709551615) :
    Calls Tryd.prog 19 #[.int .u64 u] w fun e w' => e = .returned (.int .u16 (cs u)) ∧ w' = w := by
  go_enter Tryd.func19, Tryd.ntmps19
  go_wp2
  go_loop [0] (fun t => ∃ v : Int, 0 ≤ v ∧ v ≤ 18446744073709551615 ∧ t = .int .u64 v ∧ cs v = cs u) (fun t => (intOf t).toNat)
  case atStart => exact ⟨u, h3, h4, rfl, rfl⟩
  case round =>
    obtain ⟨v, hv0, hv1, rfl, hc⟩ := hrel
    have HC : Hid (cs v = cs u) := hc
    clear hc
    by_cases hlt : 65535 < v
    · go_wp2
      go_round
      case rel => exact ⟨v % 65536 + v / 65536, by omega, by omega, by rw [fold_step v hlt hv1], by rw [cs_step v hlt, HC.out]⟩
      case measure => rw [fold_step v hlt hv1]; simp [intOf]; omega
    · go_wp2
      go_ret
      exact ⟨ret_int (by rw [← HC.out, cs_small v hv0 hlt]), rfl⟩

/-- the number that some bytes make, the highest first. -/
def getTo (zs : List Int) (a : Nat) : Nat → Int
  | 0 => 0
  | k + 1 => getTo zs a k * 256 + zs.getD (a + k) 0

theorem getTo_bd (zs : List Int) (hz : ∀ j, 0 ≤ zs.getD j 0 ∧ zs.getD j 0 ≤ 255) (a : Nat) : ∀ k, 0 ≤ getTo zs a k ∧ getTo zs a k < 256 ^ k
  | 0 => by simp [getTo]
  | k + 1 => by
    have h := getTo_bd zs hz a k
    have := hz (a + k)
    simp only [getTo, Int.pow_succ]
    omega

theorem or_join (x y : Int) (h0 : 0 ≤ x) (h1 : x < 72057594037927936) (h2 : 0 ≤ y) (h3 : y ≤ 255) :
    bits BinOp.or IntKind.u64 (x * 256) (IntKind.u64.wrap y) = x * 256 + y := by
  rw [IntKind.wrap_u64, Int.emod_eq_of_lt (by omega) (by omega)]
  rw [u64_or _ _ (by omega) (by omega) (by omega) (by omega), nat_join 8 _ _ (by omega) (by omega)]
  omega

theorem pow_le56 (k : Nat) (h : k ≤ 7) : (256 : Int) ^ k ≤ 72057594037927936 := by
  match k, h with
  | 0, _ => decide
  | 1, _ => decide
  | 2, _ => decide
  | 3, _ => decide
  | 4, _ => decide
  | 5, _ => decide
  | 6, _ => decide
  | 7, _ => decide

set_option maxHeartbeats 400000 in
theorem get_ok (b off len cap : Nat) (zs : List Int) (a m : Nat) (w : World) (h1 : 1 ≤ m) (h2 : m ≤ 8) (h3 : a + m ≤ len) (h4 : len ≤ 9223372036854775807)
    (hc : ∀ j, j < len → w.cell? ⟨b, off + j, none⟩ = some (.int .u8 (zs.getD j 0))) (hz : ∀ j, 0 ≤ zs.getD j 0 ∧ zs.getD j 0 ≤ 255) :
    Calls Tryd.prog 9 #[.slice (some ⟨b, off, none⟩) len cap, .int .i64 a, .int .i64 m] w fun e w' => e = .returned (.tuple #[.int .u64 (getTo zs a m), .int .i64 0]) ∧ w' = w := by
  have n1 : decide ((a : Int) < 0) = false := by simp
  have n2 : decide ((len : Int) - m < a) = false := by simp; omega
  go_enter Tryd.func9, Tryd.ntmps9
  go_wp2_with (go_at_call 17; refine (isWidth_yes _ _ (by omega) (by omega)).mono ?_; rintro e w' ⟨rfl, rfl⟩)
  go_loop [8, 24] (fun n i => ∃ k : Nat, k ≤ m ∧ i = .int .i64 k ∧ n = .int .u64 (getTo zs a k)) (fun _ i => m - (intOf i).toNat)
  case atStart => exact ⟨0, Nat.zero_le _, rfl, rfl⟩
  case round =>
    obtain ⟨k, hk, rfl, rfl⟩ := hrel
    have hg := getTo_bd zs hz a k
    by_cases hlt : k < m
    · have hcell := hc (a + k) (by omega)
      have hzz := hz (a + k)
      have hp := pow_le56 k (by omega)
      go_wp2
      go_round
      case rel =>
        refine ⟨k + 1, by omega, by go_num, ?_⟩
        have := or_join (getTo zs a k) (zs.getD (a + k) 0) hg.1 (by omega) hzz.1 hzz.2
        rw [List.getD_eq_getElem?_getD] at this
        rw [this]; simp [getTo]
      case measure => simp [intOf]; omega
    · have : k = m := by omega
      subst this
      go_wp2
      go_ret2
      exact ⟨rfl, rfl⟩

set_option maxHeartbeats 400000 in
theorem get_arg (v : Value) (a m : Int) (w : World) (h : m < 1 ∨ 8 < m ∨ a < 0) :
    Calls Tryd.prog 9 #[v, .int .i64 a, .int .i64 m] w fun e w' => e = .returned (.tuple #[.int .u64 0, .int .i64 1]) ∧ w' = w := by
  by_cases h1 : 1 ≤ m ∧ m ≤ 8
  · have h2 : a < 0 := by omega
    obtain ⟨h3, h4⟩ := h1
    clear h
    go_enter Tryd.func9, Tryd.ntmps9
    go_wp2_with (go_at_call 17; refine (isWidth_yes _ _ (by omega) (by omega)).mono ?_; rintro e w' ⟨rfl, rfl⟩)
    go_ret2
    exact ⟨rfl, rfl⟩
  · have hh : Hid (m < 1 ∨ 8 < m) := by unfold Hid; omega
    clear h h1
    go_enter Tryd.func9, Tryd.ntmps9
    go_wp2_with (go_at_call 17; refine (isWidth_no _ _ hh.out).mono ?_; rintro e w' ⟨rfl, rfl⟩)
    go_ret2
    exact ⟨rfl, rfl⟩

set_option maxHeartbeats 400000 in
theorem get_short (x : Option Addr) (len cap : Nat) (a m : Int) (w : World) (h1 : 1 ≤ m) (h2 : m ≤ 8) (h3 : 0 ≤ a) (h4 : (len : Int) - m < a) (h5 : len ≤ 9223372036854775807) :
    Calls Tryd.prog 9 #[.slice x len cap, .int .i64 a, .int .i64 m] w fun e w' => e = .returned (.tuple #[.int .u64 0, .int .i64 5]) ∧ w' = w := by
  go_enter Tryd.func9, Tryd.ntmps9
  go_wp2_with (go_at_call 17; refine (isWidth_yes _ _ (by omega) (by omega)).mono ?_; rintro e w' ⟨rfl, rfl⟩)
  go_ret2
  exact ⟨rfl, rfl⟩
end Go.Proofs.YtohpdkeleilkjaaDoor
