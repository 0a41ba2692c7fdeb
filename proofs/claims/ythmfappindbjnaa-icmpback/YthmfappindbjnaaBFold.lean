/-
  The contracts of octet.fold and slipwayref01.Folded. For every seat.
-/
import Derived.Test.YthmfappindbjnaaBMem
import Derived.Laws.BitsAllLaws
namespace Go.Proofs.Ythmfappindbjnaa
open Go.RowKit
set_option linter.all false

/-- a sum of words, its carries brought back: the one's complement sum. -/
def cs (u : Int) : Int := if u = 0 then 0 else (u - 1) % 65535 + 1

theorem and_ffff (v : Int) (h0 : 0 ≤ v) (h1 : v ≤ 18446744073709551615) : bits BinOp.and IntKind.u64 v 65535 = v % 65536 := by
  rw [u64_and v 65535 h0 (by omega) (by omega) (by omega)]
  rw [show (65535 : Int).toNat = 2 ^ 16 - 1 from rfl, Nat.and_two_pow_sub_one_eq_mod]
  omega
theorem fold_step (v : Int) (h0 : 65535 < v) (h1 : v ≤ 18446744073709551615) :
    IntKind.u64.wrap (bits BinOp.and IntKind.u64 v 65535 + v / 65536) = v % 65536 + v / 65536 := by
  rw [and_ffff v (by omega) h1, IntKind.wrap_u64]; omega
theorem cs_step (v : Int) (h0 : 65535 < v) : cs (v % 65536 + v / 65536) = cs v := by
  unfold cs; rw [if_neg (by omega), if_neg (by omega)]; omega
theorem cs_small (v : Int) (h0 : 0 ≤ v) (h1 : v ≤ 65535) : cs v = v := by
  unfold cs; split <;> omega
theorem cs_bd (v : Int) (h0 : 0 ≤ v) : 0 ≤ cs v ∧ cs v ≤ 65535 := by
  unfold cs; split <;> omega


set_option maxHeartbeats 400000 in
theorem fold_any (u : Int) (w : World) (h3 : 0 ≤ u) (h4 : u ≤ 18446744073709551615) :
    Calls Try.prog 38 #[.int .u64 u] w fun e w' => e = .returned (.int .u16 (cs u)) ∧ w' = w := by
  go_enter Try.func38, Try.ntmps38
  go_wp2
  go_loop [0] (fun t => ∃ v : Int, 0 ≤ v ∧ v ≤ 18446744073709551615 ∧ t = .int .u64 v ∧ cs v = cs u) (fun t => (intOf t).toNat)
  case atStart => exact ⟨u, h3, h4, rfl, rfl⟩
  case round =>
    obtain ⟨v, hv0, hv1, rfl, hc⟩ := hrel
    have HC : Hid (cs v = cs u) := hc
    clear hc
    by_cases hlt : 65535 < v
    · go_wp2
      go_round
      case rel => exact ⟨v % 65536 + v / 65536, by omega, by omega, by rw [fold_step v hlt hv1], by rw [cs_step v hlt, HC.out]⟩
      case measure => rw [fold_step v hlt hv1]; simp [intOf]; omega
    · go_wp2
      go_ret
      exact ⟨ret_int (by rw [← HC.out, cs_small v hv0 hlt]), rfl⟩

theorem folded_step (v : Int) (h0 : 65535 < v) (h1 : v ≤ 18446744073709551615) : IntKind.u64.wrap (v % 65536 + v / 65536) = v % 65536 + v / 65536 := by
  rw [IntKind.wrap_u64]; omega

set_option maxHeartbeats 400000 in
theorem folded_any (u : Int) (w : World) (h3 : 0 ≤ u) (h4 : u ≤ 18446744073709551615) :
    Calls Try.prog 40 #[.int .u64 u] w fun e w' => e = .returned (.int .u64 (cs u)) ∧ w' = w := by
  go_enter Try.func40, Try.ntmps40
  go_wp2
  go_loop [0] (fun t => ∃ v : Int, 0 ≤ v ∧ v ≤ 18446744073709551615 ∧ t = .int .u64 v ∧ cs v = cs u) (fun t => (intOf t).toNat)
  case atStart => exact ⟨u, h3, h4, rfl, rfl⟩
  case round =>
    obtain ⟨v, hv0, hv1, rfl, hc⟩ := hrel
    have HC : Hid (cs v = cs u) := hc
    clear hc
    by_cases hlt : 65535 < v
    · go_wp2
      go_round
      case rel => exact ⟨v % 65536 + v / 65536, by omega, by omega, by first | rfl | rw [folded_step v hlt hv1], by rw [cs_step v hlt, HC.out]⟩
      case measure => first | (simp [intOf]; omega) | (rw [folded_step v hlt hv1]; simp [intOf]; omega)
    · go_wp2
      go_ret
      exact ⟨ret_int (by rw [← HC.out, cs_small v hv0 hlt]), rfl⟩

end Go.Proofs.Ythmfappindbjnaa
