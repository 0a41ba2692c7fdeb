/-
  levelOf, slotOf and startOf.
-/
import Derived.Test.YthgcjocjkeieaaaWMap
namespace Go.Proofs.Ythgcjocjkeieaaa
open Go.RowKit
set_option linter.all false

theorem bits_of (x : Nat) (hx : x < 18446744073709551616) : (BitVec.ofInt 64 (x : Int)).toNat = x := by
  rw [BitVec.toNat_ofInt]
  have : ((x : Int) % (2 ^ 64 : Nat)) = x := by
    rw [Int.emod_eq_of_lt] <;> omega
  rw [this]; simp
theorem and_high (x k : Nat) (hx : x < 2 ^ 64) (hk : k ≤ 64) : x &&& (2 ^ 64 - 1 - (2 ^ k - 1)) = x / 2 ^ k * 2 ^ k := by
  have hp : 2 ^ k ≤ 2 ^ 64 := Nat.pow_le_pow_right (by omega) hk
  have hp0 : 0 < 2 ^ k := Nat.two_pow_pos k
  rw [show 2 ^ 64 - 1 - (2 ^ k - 1) = 2 ^ 64 - ((2 ^ k - 1) + 1) from by omega]
  apply Nat.eq_of_testBit_eq
  intro i
  rw [Nat.testBit_and, Nat.testBit_two_pow_sub_succ (by omega), Nat.testBit_two_pow_sub_one, Nat.testBit_mul_two_pow, Nat.testBit_div_two_pow]
  by_cases h : k ≤ i
  · by_cases h2 : i < 64
    · simp [h, h2, show ¬ i < k from by omega, show i - k + k = i from by omega]
    · have h3 : x.testBit i = false := Nat.testBit_lt_two_pow (Nat.lt_of_lt_of_le hx (Nat.pow_le_pow_right (by omega) (by omega)))
      simp [h, h2, show i - k + k = i from by omega, h3]
  · simp [h, show i < k from by omega]
theorem wrap_i64_small (n : Int) (h0 : 0 ≤ n) (h1 : n < 9223372036854775808) : IntKind.i64.wrap n = n := by
  simp [IntKind.wrap, IntKind.bits, IntKind.signed]
  split <;> omega
theorem i64_andNot (x k : Nat) (hx : x < 9223372036854775808) (hk : k ≤ 62) : bits .andNot .i64 (x : Int) ((2 ^ k - 1 : Nat) : Int) = ((x / 2 ^ k * 2 ^ k : Nat) : Int) := by
  show IntKind.i64.wrap ((BitVec.ofInt 64 (x : Int) &&& ~~~BitVec.ofInt 64 ((2 ^ k - 1 : Nat) : Int)).toNat : Int) = _
  have hp : 2 ^ k ≤ 2 ^ 62 := Nat.pow_le_pow_right (by omega) hk
  rw [BitVec.toNat_and, BitVec.toNat_not, bits_of x (by omega), bits_of _ (by omega), and_high x k (by omega) (by omega)]
  have : x / 2 ^ k * 2 ^ k ≤ x := Nat.div_mul_le_self _ _
  exact wrap_i64_small _ (by omega) (by omega)
theorem andNot_lit (t : Int) (h0 : 0 ≤ t) (h1 : t < 9223372036854775808) (k : Nat) (hk : k ≤ 62) (c u : Int) (hc : ((2 ^ k - 1 : Nat) : Int) = c) (hu : ((2 ^ k : Nat) : Int) = u) : bits .andNot .i64 t c = t / u * u := by
  obtain ⟨x, rfl⟩ := Int.eq_ofNat_of_zero_le h0
  subst hc hu
  rw [i64_andNot x k (by omega) hk]
  rfl
set_option maxHeartbeats 1000000 in
theorem startOf_any (t : Int) (l : Nat) (hl : l ≤ 4) (h0 : 0 ≤ t) (h1 : t ≤ 1125899906842624) (w : World) :
    Calls Try.prog 32 #[.int .i64 t, .int .i64 l] w fun e w' => e = .returned (.int .i64 (stt t l)) ∧ w' = w := by
  have e0 := andNot_lit t h0 (by omega) 0 (by omega) 0 1 rfl rfl
  have e1 := andNot_lit t h0 (by omega) 6 (by omega) 63 64 rfl rfl
  have e2 := andNot_lit t h0 (by omega) 12 (by omega) 4095 4096 rfl rfl
  have e3 := andNot_lit t h0 (by omega) 18 (by omega) 262143 262144 rfl rfl
  have e4 := andNot_lit t h0 (by omega) 24 (by omega) 16777215 16777216 rfl rfl
  obtain rfl | rfl | rfl | rfl | rfl : l = 0 ∨ l = 1 ∨ l = 2 ∨ l = 3 ∨ l = 4 := by omega
  all_goals
    simp only [Int.natCast_zero, Int.cast_ofNat_Int, Int.ofNat_zero, Int.natCast_one]
    go_enter Try.func32, Try.ntmps32
    go_wp2
    go_ret
    refine ⟨?_, rfl⟩
    unfold stt unit
    first | rfl | simp_all
set_option maxHeartbeats 1000000 in
theorem slotOf_any (t : Int) (l : Nat) (hl : l ≤ 3) (h0 : 0 ≤ t) (h1 : t ≤ 1125899906842624) (w : World) :
    Calls Try.prog 35 #[.int .i64 t, .int .i64 l] w fun e w' => e = .returned (.int .i64 (slt t l)) ∧ w' = w := by
  obtain rfl | rfl | rfl | rfl : l = 0 ∨ l = 1 ∨ l = 2 ∨ l = 3 := by omega
  all_goals
    simp only [Int.natCast_zero, Int.cast_ofNat_Int, Int.ofNat_zero, Int.natCast_one]
    go_enter Try.func35, Try.ntmps35
    go_wp2
    go_ret
    refine ⟨?_, rfl⟩
    unfold slt unit
    exact ret_int (by simp only; omega)
theorem stt_iff (n t : Int) (k : Nat) (hk : k < 4) : stt n (k + 1) = stt t (k + 1) ↔ lev n t ≤ k := by
  unfold stt
  obtain rfl | rfl | rfl | rfl : k = 0 ∨ k = 1 ∨ k = 2 ∨ k = 3 := by omega
  all_goals
    simp only [unit]
    rcases lev_cases n t with ⟨e, h⟩ | ⟨e, h, i⟩ | ⟨e, h, i⟩ | ⟨e, h, i⟩ | ⟨e, h⟩ <;> omega
set_option maxHeartbeats 1000000 in
theorem levelOf_any (n t : Int) (h0 : 0 ≤ n) (h1 : n ≤ 1125899906842624) (h2 : 0 ≤ t) (h3 : t ≤ 1125899906842624) (w : World) :
    Calls Try.prog 38 #[.int .i64 n, .int .i64 t] w fun e w' => e = .returned (.int .i64 (lev n t)) ∧ w' = w := by
  have H1 := hid (fun (l : Nat) (hl : l ≤ 4) => startOf_any n l hl h0 h1 w)
  have H2 := hid (fun (l : Nat) (hl : l ≤ 4) => startOf_any t l hl h2 h3 w)
  have H3 := hid (stt_iff n t)
  have H4 := hid (lev_le n t)
  clear h0 h1 h2 h3
  generalize lev n t = L at *
  go_enter Try.func38, Try.ntmps38
  go_wp2
  go_loopw [5] (fun v wr => ∃ k : Nat, Hid (k ≤ L) ∧ v = .int .i64 k ∧ wr = w) (fun v _ => 4 - (intOf v).toNat)
  case atStart => exact ⟨0, Nat.zero_le _, rfl, rfl⟩
  case round =>
    obtain ⟨k, hk, rfl, rfl⟩ := hrel
    have hL := H4.out
    have hkL := hk.out
    by_cases hlt : k < 4
    · have hlt2 : (k : Int) < 4 := by omega
      have C1 := hid (H1.out (k + 1) (by omega))
      have C2 := hid (H2.out (k + 1) (by omega))
      rw [Int.natCast_add, Int.natCast_one] at C1 C2
      have hi := H3.out k hlt
      generalize stt n (k + 1) = A at *
      generalize stt t (k + 1) = B at *
      clear H1 H2 H3 H4 hL
      by_cases he : A = B
      · have e : k = L := by have := hi.1 he; omega
        subst e
        clear hi hkL
        subst he
        go_wp2_with (first | (go_at_call_of 32 #[.int .i64 n, _]; refine C1.out.mono ?_; rintro e w' ⟨rfl, rfl⟩) | (go_at_call 32; first | ((with_reducible refine C1.out.mono ?_); rintro e w' ⟨rfl, rfl⟩) | ((with_reducible refine C2.out.mono ?_); rintro e w' ⟨rfl, rfl⟩)))
        go_ret
        exact ⟨rfl, rfl⟩
      · have e : k + 1 ≤ L := by rcases Nat.lt_or_ge k L with h | h; · omega
                                 · exact absurd (hi.2 h) he
        clear hi hkL
        go_wp2_with (first | (go_at_call 32; first | ((with_reducible refine C1.out.mono ?_); rintro e w' ⟨rfl, rfl⟩) | ((with_reducible refine C2.out.mono ?_); rintro e w' ⟨rfl, rfl⟩)))
        go_roundw
        case rel => exact ⟨k + 1, e, by go_num, by trivial⟩
        case measure => simp [intOf]; omega
    · have e : k = L := by omega
      have e4 : L = 4 := by omega
      subst e
      subst e4
      clear H1 H2 H3 H4 hL hkL hlt
      go_wp2
      go_ret
      exact ⟨rfl, rfl⟩
end Go.Proofs.Ythgcjocjkeieaaa
