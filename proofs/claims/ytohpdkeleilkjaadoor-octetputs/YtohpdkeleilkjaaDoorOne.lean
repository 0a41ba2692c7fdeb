/-
  The contracts of octet.Ones and octet.IsHost.
-/
import Derived.Test.YtohpdkeleilkjaaDoorFold
import Derived.Test.YtohpdkeleilkjaaDoorShelf
namespace Go.Proofs.YtohpdkeleilkjaaDoor
open Go.RowKit
set_option linter.unusedVariables false

/-- how many ones stand ahead. -/
def lead (m : Int) : Int := 32 - (Lib.bitLen (4294967295 - m).toNat : Int)
def onesV (m : Int) : Int := if m * 2 ^ (lead m).toNat % 4294967296 = 0 then lead m else -1
theorem bitLenAux_le : ∀ f y, Lib.bitLenAux f y ≤ f
  | 0, y => by simp [Lib.bitLenAux]
  | f + 1, y => by
    unfold Lib.bitLenAux
    have := bitLenAux_le f (y / 2)
    split <;> omega
theorem bitLen_32 (x : Nat) (h : x < 4294967296) : Lib.bitLen x ≤ 32 := by
  unfold Lib.bitLen
  rw [Lib.bitLenAux_fuel 32 x (by omega) 64 (by omega)]
  exact bitLenAux_le 32 x
theorem xor_all (x : Nat) (h : x < 4294967296) : 4294967295 ^^^ x = 4294967295 - x := by
  have e1 : (4294967295 : Nat) = 2 ^ 32 - 1 := rfl
  have e2 : 4294967295 - x = 2 ^ 32 - (x + 1) := by omega
  rw [e2, e1]
  apply Nat.eq_of_testBit_eq
  intro i
  rw [Nat.testBit_two_pow_sub_succ (by omega), Nat.testBit_xor, Nat.testBit_two_pow_sub_one]
  by_cases hi : i < 32
  · simp [hi]
  · have : x.testBit i = false := Nat.testBit_lt_two_pow (Nat.lt_of_lt_of_le (show x < 2 ^ 32 by omega) (Nat.pow_le_pow_right (by omega) (by omega)))
    simp [hi, this]
theorem not_u32 (m : Int) (h0 : 0 ≤ m) (h1 : m ≤ 4294967295) : bits BinOp.xor IntKind.u32 IntKind.u32.max m = 4294967295 - m := by
  have e : IntKind.u32.max = 4294967295 := by decide
  rw [e, u32_xor _ _ (by omega) (by omega) h0 (by omega)]
  rw [show (4294967295 : Int).toNat = 4294967295 from rfl, xor_all _ (by omega)]
  omega

set_option maxHeartbeats 400000 in
theorem ones_any (m : Int) (w : World) (h0 : 0 ≤ m) (h1 : m ≤ 4294967295) :
    Calls Tryd.prog 15 #[.int .u32 m] w fun e w' => e = .returned (.int .i64 (onesV m)) ∧ w' = w := by
  have hx := not_u32 m h0 h1
  have hb := bitLen_32 (4294967295 - m).toNat (by omega)
  have HV : Hid (onesV m = if m * 2 ^ (lead m).toNat % 4294967296 = 0 then lead m else -1) := rfl
  have HL : Hid (32 - (Lib.bitLen (4294967295 - m).toNat : Int) = lead m) := rfl
  have hl : 0 ≤ lead m ∧ lead m ≤ 32 := by unfold lead; omega
  clear hb
  obtain ⟨n, hn⟩ := Int.eq_ofNat_of_zero_le hl.1
  rw [hn] at HV HL hl
  clear hn
  go_enter Tryd.func15, Tryd.ntmps15
  go_wp2_with (go_at_call 23; refine (Tryd.bits_LeadingZeros32 _ _ (by omega) (by omega)).mono ?_; rintro e w' ⟨rfl, rfl⟩; rw [HL.out])
  · have h2 : ¬ m * 2 ^ n % 4294967296 = 0 := by
      have h : (m * 2 ^ n % 4294967296 != 0) = true := by assumption
      simpa using h
    go_ret
    exact ⟨ret_int (by rw [HV.out, Int.toNat_natCast, if_neg h2]), rfl⟩
  · have h2 : m * 2 ^ n % 4294967296 = 0 := by
      have h : (m * 2 ^ n % 4294967296 != 0) = false := by assumption
      simpa using h
    go_ret
    exact ⟨ret_int (by rw [HV.out, Int.toNat_natCast, if_pos h2]), rfl⟩

/-- may it be one host's? -/
def hostB (m : Int) : Bool := decide (1 ≤ m / 16777216 ∧ m / 16777216 ≤ 223 ∧ ¬ m / 16777216 = 127)
theorem ret_bool {a b : Bool} (h : a = b) : Ending.returned (.bool a) = .returned (.bool b) := by rw [h]

set_option maxHeartbeats 400000 in
theorem isHost_any (m : Int) (w : World) (h0 : 0 ≤ m) (h1 : m ≤ 4294967295) :
    Calls Tryd.prog 16 #[.int .u32 m] w fun e w' => e = .returned (.bool (hostB m)) ∧ w' = w := by
  have HV : Hid (hostB m = decide (1 ≤ m / 16777216 ∧ m / 16777216 ≤ 223 ∧ ¬ m / 16777216 = 127)) := rfl
  go_enter Tryd.func16, Tryd.ntmps16
  go_wp2
  · go_ret
    exact ⟨ret_bool (by rw [HV.out, Bool.eq_iff_iff]; simp; omega), rfl⟩
  · go_ret
    exact ⟨ret_bool (by rw [HV.out]; simp; omega), rfl⟩
  · go_ret
    exact ⟨ret_bool (by rw [HV.out]; simp; omega), rfl⟩
end Go.Proofs.YtohpdkeleilkjaaDoor
