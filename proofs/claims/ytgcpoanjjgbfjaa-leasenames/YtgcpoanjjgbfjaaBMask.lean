/-
  Which numbers are masks, and how many ones they have: octet's and the document's own answer. For every seat (lay the shelf first).
-/
import Derived.Test.YtgcpoanjjgbfjaaBHost
import Derived.Test.YtgcpoanjjgbfjaaShelf
namespace Go.Proofs.Ytgcpoanjjgbfjaa
open Go.RowKit
set_option linter.all false

/-- how many ones stand ahead. -/
def lead (m : Int) : Int := 32 - (Lib.bitLen (4294967295 - m).toNat : Int)
def onesV (m : Int) : Int := if m * 2 ^ (lead m).toNat % 4294967296 = 0 then lead m else -1
theorem bitLenAux_le : ∀ f y, Lib.bitLenAux f y ≤ f
  | 0, y => by simp [Lib.bitLenAux]
  | f + 1, y => by
    unfold Lib.bitLenAux
    have := bitLenAux_le f (y / 2)
    split <;> omega
theorem bitLen_32 (x : Nat) (h : x < 4294967296) : Lib.bitLen x ≤ 32 := by
  unfold Lib.bitLen
  rw [Lib.bitLenAux_fuel 32 x (by omega) 64 (by omega)]
  exact bitLenAux_le 32 x
theorem xor_all (x : Nat) (h : x < 4294967296) : 4294967295 ^^^ x = 4294967295 - x := by
  have e1 : (4294967295 : Nat) = 2 ^ 32 - 1 := rfl
  have e2 : 4294967295 - x = 2 ^ 32 - (x + 1) := by omega
  rw [e2, e1]
  apply Nat.eq_of_testBit_eq
  intro i
  rw [Nat.testBit_two_pow_sub_succ (by omega), Nat.testBit_xor, Nat.testBit_two_pow_sub_one]
  by_cases hi : i < 32
  · simp [hi]
  · have : x.testBit i = false := Nat.testBit_lt_two_pow (Nat.lt_of_lt_of_le (show x < 2 ^ 32 by omega) (Nat.pow_le_pow_right (by omega) (by omega)))
    simp [hi, this]
theorem not_u32 (m : Int) (h0 : 0 ≤ m) (h1 : m ≤ 4294967295) : bits BinOp.xor IntKind.u32 IntKind.u32.max m = 4294967295 - m := by
  have e : IntKind.u32.max = 4294967295 := by decide
  rw [e, u32_xor _ _ (by omega) (by omega) h0 (by omega)]
  rw [show (4294967295 : Int).toNat = 4294967295 from rfl, xor_all _ (by omega)]
  omega

set_option maxHeartbeats 400000 in
theorem ones_any (m : Int) (w : World) (h0 : 0 ≤ m) (h1 : m ≤ 4294967295) :
    Calls Try.prog 83 #[.int .u32 m] w fun e w' => e = .returned (.int .i64 (onesV m)) ∧ w' = w := by
  have hx := not_u32 m h0 h1
  have hb := bitLen_32 (4294967295 - m).toNat (by omega)
  have HV : Hid (onesV m = if m * 2 ^ (lead m).toNat % 4294967296 = 0 then lead m else -1) := rfl
  have HL : Hid (32 - (Lib.bitLen (4294967295 - m).toNat : Int) = lead m) := rfl
  have hl : 0 ≤ lead m ∧ lead m ≤ 32 := by unfold lead; omega
  clear hb
  obtain ⟨n, hn⟩ := Int.eq_ofNat_of_zero_le hl.1
  rw [hn] at HV HL hl
  clear hn
  go_enter Try.func83, Try.ntmps83
  go_wp2_with (go_at_call 87; refine (Try.bits_LeadingZeros32 _ _ (by omega) (by omega)).mono ?_; rintro e w' ⟨rfl, rfl⟩; rw [HL.out])
  · have h2 : ¬ m * 2 ^ n % 4294967296 = 0 := by
      have h : (m * 2 ^ n % 4294967296 != 0) = true := by assumption
      simpa using h
    go_ret
    exact ⟨host_int (by rw [HV.out, Int.toNat_natCast, if_neg h2]), rfl⟩
  · have h2 : m * 2 ^ n % 4294967296 = 0 := by
      have h : (m * 2 ^ n % 4294967296 != 0) = false := by assumption
      simpa using h
    go_ret
    exact ⟨host_int (by rw [HV.out, Int.toNat_natCast, if_pos h2]), rfl⟩

/-- r is how many ones the mask m has; -1: m is none. -/
def IsOnes (m : Int) (r : Int) : Prop := (∃ n : Nat, n ≤ 32 ∧ m = 4294967296 - 2 ^ (32 - n) ∧ r = n) ∨ ((∀ n : Nat, n ≤ 32 → ¬ m = 4294967296 - 2 ^ (32 - n)) ∧ r = -1)
theorem mask_inj : ∀ a b : Fin 33, (4294967296 : Int) - 2 ^ (32 - a.val) = 4294967296 - 2 ^ (32 - b.val) → a = b := by decide +kernel
theorem IsOnes.one {m r s : Int} (h : IsOnes m r) (k : IsOnes m s) : r = s := by
  rcases h with ⟨n, hn, e, rfl⟩ | ⟨hn, rfl⟩
  · rcases k with ⟨n', hn', e', rfl⟩ | ⟨hn', rfl⟩
    · have := mask_inj ⟨n, by omega⟩ ⟨n', by omega⟩ (e.symm.trans e')
      simp at this
      omega
    · exact absurd e (hn' n hn)
  · rcases k with ⟨n', hn', e', rfl⟩ | ⟨hn', rfl⟩
    · exact absurd e' (hn n' hn')
    · rfl
theorem ones_mask : ∀ n : Fin 33, onesV (4294967296 - 2 ^ (32 - n.val)) = (n.val : Int) := by decide +kernel
theorem lt_bitLen : ∀ (f x : Nat), x < 2 ^ f → x < 18446744073709551616 → x < 2 ^ Lib.bitLen x
  | 0, x, h, _ => by
    have : x = 0 := by simp at h; exact h
    subst this; decide
  | f + 1, x, h, h2 => by
    by_cases h0 : x = 0
    · subst h0; decide
    · rw [Lib.bitLen_half x h0 (by omega), Nat.add_comm, Nat.pow_succ]
      have := lt_bitLen f (x / 2) (by rw [Nat.pow_succ] at h; omega) (by omega)
      omega
theorem mask_of (m x z : Nat) (hz : z ≤ 32) (hx : x < 2 ^ z) (he : m + x + 1 = 4294967296) (h : m * 2 ^ (32 - z) % 4294967296 = 0) : m = 4294967296 - 2 ^ z := by
  have hc : z = 0 ∨ z = 1 ∨ z = 2 ∨ z = 3 ∨ z = 4 ∨ z = 5 ∨ z = 6 ∨ z = 7 ∨ z = 8 ∨ z = 9 ∨ z = 10 ∨ z = 11 ∨ z = 12 ∨ z = 13 ∨ z = 14 ∨ z = 15 ∨ z = 16 ∨ z = 17 ∨ z = 18 ∨ z = 19 ∨ z = 20 ∨ z = 21 ∨ z = 22 ∨ z = 23 ∨ z = 24 ∨ z = 25 ∨ z = 26 ∨ z = 27 ∨ z = 28 ∨ z = 29 ∨ z = 30 ∨ z = 31 ∨ z = 32 := by omega
  rcases hc with rfl | rfl | rfl | rfl | rfl | rfl | rfl | rfl | rfl | rfl | rfl | rfl | rfl | rfl | rfl | rfl | rfl | rfl | rfl | rfl | rfl | rfl | rfl | rfl | rfl | rfl | rfl | rfl | rfl | rfl | rfl | rfl | rfl <;> simp only [Nat.reduceSub, Nat.reducePow] at hx h ⊢ <;> omega
theorem onesV_is (m : Int) (h0 : 0 ≤ m) (h1 : m ≤ 4294967295) : IsOnes m (onesV m) := by
  by_cases hm : ∃ n : Nat, n ≤ 32 ∧ m = 4294967296 - 2 ^ (32 - n)
  · obtain ⟨n, hn, rfl⟩ := hm
    exact Or.inl ⟨n, hn, rfl, ones_mask ⟨n, by omega⟩⟩
  · have hno : ∀ n : Nat, n ≤ 32 → ¬ m = 4294967296 - 2 ^ (32 - n) := fun n hn e => hm ⟨n, hn, e⟩
    refine Or.inr ⟨hno, ?_⟩
    unfold onesV
    rw [if_neg ?_]
    intro h
    have hb := bitLen_32 (4294967295 - m).toNat (by omega)
    have hl := lt_bitLen 32 (4294967295 - m).toNat (by omega) (by omega)
    unfold lead at h
    obtain ⟨z, hz⟩ : ∃ z, z = Lib.bitLen (4294967295 - m).toNat := ⟨_, rfl⟩
    rw [← hz] at hb hl h
    obtain ⟨M, rfl⟩ := Int.eq_ofNat_of_zero_le h0
    have e1 : (32 - (z : Int)).toNat = 32 - z := by omega
    rw [e1] at h
    have hp : ((2 ^ z : Nat) : Int) = (2 : Int) ^ z := by rw [Int.natCast_pow]; rfl
    have h' : M * 2 ^ (32 - z) % 4294967296 = 0 := by
      have h2 : ((M * 2 ^ (32 - z) % 4294967296 : Nat) : Int) = 0 := by
        rw [Int.natCast_emod, Int.natCast_mul, Int.natCast_pow]; exact h
      exact Int.natCast_eq_zero.1 h2
    have hM := mask_of M (4294967295 - (M : Int)).toNat z hb hl (by omega) h'
    have hle : 2 ^ z ≤ 4294967296 := Nat.pow_le_pow_right (n := 2) (by omega) (show z ≤ 32 from hb)
    refine hno (32 - z) (by omega) ?_
    rw [show 32 - (32 - z) = z from by omega, ← hp]
    omega

/-- what the document's loop has seen of m behind i rounds: n ones, then zeros. -/
theorem top_next (m i : Nat) (hi : i < 32) : m / 2 ^ (31 - i) = 2 * (m / 2 ^ (32 - i)) + m / 2 ^ (31 - i) % 2 := by
  have e : 32 - i = (31 - i) + 1 := by omega
  rw [e, Nat.pow_succ, ← Nat.div_div_eq_div_mul]
  omega
theorem pow_next (i n : Nat) (h : n ≤ i) : 2 * (2 ^ i - 2 ^ (i - n)) = 2 ^ (i + 1) - 2 ^ (i + 1 - n) := by
  have e : i + 1 - n = (i - n) + 1 := by omega
  rw [e, Nat.pow_succ, Nat.pow_succ]
  omega
theorem no_mask : ∀ i n k : Fin 33, i.val < 32 → n.val < i.val → (4294967296 - 2 ^ (32 - k.val)) / 2 ^ (32 - i.val) = 2 ^ i.val - 2 ^ (i.val - n.val) → ¬ (4294967296 - 2 ^ (32 - k.val)) / 2 ^ (31 - i.val) % 2 = 1 := by decide +kernel
theorem bit_form (m k : Nat) : ((m : Int) / 2 ^ k).tmod 2 = ((m / 2 ^ k % 2 : Nat) : Int) := by
  have e : ((m : Int) / 2 ^ k) = ((m / 2 ^ k : Nat) : Int) := by rw [Int.natCast_ediv, Int.natCast_pow]; rfl
  rw [e, Int.tmod_eq_emod_of_nonneg (Int.natCast_nonneg _)]
  rw [Int.natCast_emod]; rfl

set_option maxHeartbeats 400000 in
theorem isMask_any (m : Int) (w : World) (h0 : 0 ≤ m) (h1 : m ≤ 4294967295) :
    Calls Try.prog 81 #[.int .u32 m] w fun e w' => e = .returned (.bool (onesV m != -1)) ∧ w' = w := by
  go_enter Try.func81, Try.ntmps81
  go_wp2_with (go_at_call 83; refine (ones_any _ _ h0 h1).mono ?_; rintro e w' ⟨rfl, rfl⟩)
  go_ret
  exact ⟨rfl, rfl⟩


theorem onesV_bd (m : Int) (h0 : 0 ≤ m) (h1 : m ≤ 4294967295) : -1 ≤ onesV m ∧ onesV m ≤ 32 := by
  rcases onesV_is m h0 h1 with ⟨n, hn, _, e⟩ | ⟨_, e⟩ <;> rw [e] <;> omega
theorem mask_ge (m : Int) (h0 : 0 ≤ m) (h1 : m ≤ 4294967295) : (onesV m != -1) = decide (0 ≤ onesV m) := by
  have := onesV_bd m h0 h1
  rw [Bool.eq_iff_iff]
  simp only [bne_iff_ne, ne_eq, decide_eq_true_eq]
  omega
end Go.Proofs.Ytgcpoanjjgbfjaa
