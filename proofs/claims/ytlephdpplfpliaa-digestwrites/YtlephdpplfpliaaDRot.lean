/-
  Words of 32 bits, turned: digest.right and slipwayref02.turn.
-/
import Derived.Test.YtlephdpplfpliaaRows
import Derived.WalkKit
import Derived.WalkSpells
import Derived.WalkLawsBesides
import Derived.Deep.OwnRows
import Derived.Deep.MidRow
import Derived.Deep.RegionHeld3
import Derived.Below
import Derived.Laws.BitsAllLaws
import Derived.OpenShut
namespace Go.Proofs.Ytlephdpplfpliaa
open Go.RowKit
set_option linter.unusedVariables false

/-- a word turned right by n places. -/
def rr (x : Int) (n : Nat) : Int := bits .or .u32 (x * 2 ^ (32 - n) % 4294967296) (x / 2 ^ n)
theorem back_s : ∀ n : Fin 32, 1 ≤ n.val → bits BinOp.and IntKind.u64 (IntKind.u64.wrap (-(n.val : Int))) 31 = 32 - (n.val : Int) := by decide +kernel

theorem or_comm32 (a b : Int) (h1 : 0 ≤ a) (h2 : a < 4294967296) (h3 : 0 ≤ b) (h4 : b < 4294967296) : bits .or .u32 a b = bits .or .u32 b a := by
  rw [u32_or a b h1 h2 h3 h4, u32_or b a h3 h4 h1 h2, Nat.or_comm]
theorem bits_u32_bd (op : BinOp) (x y : Int) : 0 ≤ bits op .u32 x y ∧ bits op .u32 x y ≤ 4294967295 := by
  have h := wf_bits op .u32 x y
  simp [Lit.wf, IntKind.min, IntKind.max, IntKind.bits, IntKind.signed] at h
  omega
theorem rr_bd (x : Int) (n : Nat) : 0 ≤ rr x n ∧ rr x n ≤ 4294967295 := bits_u32_bd _ _ _
theorem div_pow_bd (x : Int) (n : Nat) (h0 : 0 ≤ x) (h1 : x ≤ 4294967295) : 0 ≤ x / 2 ^ n ∧ x / 2 ^ n < 4294967296 := by
  have hp : (0 : Int) < 2 ^ n := Int.pow_pos (by decide)
  exact ⟨Int.ediv_nonneg h0 (Int.le_of_lt hp), Int.lt_of_le_of_lt (Int.ediv_le_self _ h0) (by omega)⟩

set_option maxHeartbeats 400000 in
theorem right_any (x : Int) (n : Nat) (w : World) (h0 : 0 ≤ x) (h1 : x ≤ 4294967295) (hn : 1 ≤ n) (hm : n ≤ 31) :
    Calls Try.prog 29 #[.int .u32 x, .int .i64 n] w fun e w' => e = .returned (.int .u32 (rr x n)) ∧ w' = w := by
  have hs := back_s ⟨n, by omega⟩ hn
  simp only at hs
  have p0 : (0 : Int) ≤ 32 - (n : Int) := by omega
  have p1 : (0 : Int) ≤ (n : Int) := by omega
  have hd : 32 - (32 - n) = n := by omega
  go_enter Try.func29, Try.ntmps29
  go_wp2
  go_ret
  exact ⟨by rw [hd]; rfl, rfl⟩
theorem right_i (x n : Int) (w : World) (h0 : 0 ≤ x) (h1 : x ≤ 4294967295) (hn : 1 ≤ n) (hm : n ≤ 31) :
    Calls Try.prog 29 #[.int .u32 x, .int .i64 n] w fun e w' => e = .returned (.int .u32 (rr x n.toNat)) ∧ w' = w := by
  obtain ⟨m, rfl⟩ := Int.eq_ofNat_of_zero_le (show 0 ≤ n by omega)
  exact right_any x m w h0 h1 (by omega) (by omega)
set_option maxHeartbeats 400000 in
theorem turn_any (x : Int) (n : Nat) (w : World) (h0 : 0 ≤ x) (h1 : x ≤ 4294967295) (hn : 1 ≤ n) (hm : n ≤ 31) :
    Calls Try.prog 32 #[.int .u32 x, .int .i64 n] w fun e w' => e = .returned (.int .u32 (rr x n)) ∧ w' = w.drew := by
  have p0 : (0 : Int) ≤ 32 - (n : Int) := by omega
  have p1 : (0 : Int) ≤ (n : Int) := by omega
  have HD : Hid (0 ≤ x / 2 ^ n ∧ x / 2 ^ n < 4294967296) := div_pow_bd x n h0 h1
  go_enter Try.func32, Try.ntmps32
  go_wp2
  go_region
  go_wp2
  go_ret
  refine ⟨?_, rfl⟩
  unfold rr
  rw [or_comm32 (x / 2 ^ n) _ HD.out.1 HD.out.2 (by omega) (by omega)]
  rfl
theorem turn_i (x n : Int) (w : World) (h0 : 0 ≤ x) (h1 : x ≤ 4294967295) (hn : 1 ≤ n) (hm : n ≤ 31) :
    Calls Try.prog 32 #[.int .u32 x, .int .i64 n] w fun e w' => e = .returned (.int .u32 (rr x n.toNat)) ∧ w' = w.drew := by
  obtain ⟨m, rfl⟩ := Int.eq_ofNat_of_zero_le (show 0 ≤ n by omega)
  exact turn_any x m w h0 h1 (by omega) (by omega)
end Go.Proofs.Ytlephdpplfpliaa
