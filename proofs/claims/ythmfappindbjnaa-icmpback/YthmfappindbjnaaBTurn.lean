/-
  Sums of bytes of which one is changed; a byte of which one bit is turned. For every seat.
-/
import Derived.Test.YthmfappindbjnaaBSum
import Derived.Laws.BitsAllLaws
import Derived.Laws.Bits128
namespace Go.Proofs.Ythmfappindbjnaa
open Go.RowKit
set_option linter.all false

/-! ### Sums -/
theorem foldl_shift : ∀ (l : List Int) (a : Int) (b : Bool), (l.foldl step (a, b)).1 = a + (l.foldl step (0, b)).1
  | [], a, b => by simp
  | z :: l, a, b => by
    simp only [List.foldl_cons, step]
    rw [foldl_shift l (a + _) (!b), foldl_shift l (0 + _) (!b)]
    omega
theorem foldl_set : ∀ (l : List Int) (b : Bool) (j : Nat) (x : Int), j < l.length → ((l.set j x).foldl step (0, b)).1 = (l.foldl step (0, b)).1 + (x - l.getD j 0) * (if (j % 2 == 0) == b then 256 else 1)
  | [], b, j, x, h => by simp at h
  | z :: l, b, 0, x, h => by
    simp only [List.set_cons_zero, List.foldl_cons, step]
    rw [foldl_shift l (0 + _) (!b), foldl_shift l (0 + _) (!b)]
    cases b <;> simp <;> omega
  | z :: l, b, j + 1, x, h => by
    simp only [List.set_cons_succ, List.foldl_cons, step]
    rw [foldl_shift (l.set j x) (0 + _) (!b), foldl_shift l (0 + _) (!b), foldl_set l (!b) j x (by simpa using h)]
    have e : ((j % 2 == 0) == !b) = (((j + 1) % 2 == 0) == b) := by
      rcases Nat.mod_two_eq_zero_or_one j with h0 | h0
      · have : (j + 1) % 2 = 1 := by omega
        rw [h0, this]; cases b <;> rfl
      · have : (j + 1) % 2 = 0 := by omega
        rw [h0, this]; cases b <;> rfl
    rw [e]
    simp only [List.getD_eq_getElem?_getD, List.getElem?_cons_succ]
    omega
theorem run_set (l : List Int) (j : Nat) (x : Int) (h : j < l.length) : (run (l.set j x)).1 = (run l).1 + (x - l.getD j 0) * (if j % 2 = 0 then 256 else 1) := by
  have := foldl_set l true j x h
  unfold run
  rw [this]
  by_cases hj : j % 2 = 0 <;> simp [hj]
theorem bit_turned : ∀ z : Nat, z < 256 → ∀ k : Nat, k < 8 → z ^^^ 2 ^ k < 256 ∧ (z ^^^ 2 ^ k = z + 2 ^ k ∨ (z ^^^ 2 ^ k) + 2 ^ k = z) := by decide +kernel
theorem pow_cases (k : Nat) (h : k < 8) : (2 : Nat) ^ k = 1 ∨ (2 : Nat) ^ k = 2 ∨ (2 : Nat) ^ k = 4 ∨ (2 : Nat) ^ k = 8 ∨ (2 : Nat) ^ k = 16 ∨ (2 : Nat) ^ k = 32 ∨ (2 : Nat) ^ k = 64 ∨ (2 : Nat) ^ k = 128 := by
  match k, h with
  | 0, _ => decide
  | 1, _ => decide
  | 2, _ => decide
  | 3, _ => decide
  | 4, _ => decide
  | 5, _ => decide
  | 6, _ => decide
  | 7, _ => decide
theorem cs_apart (u v : Int) (h0 : 0 ≤ u) (h1 : 0 ≤ v) (h2 : ¬ u = v) (h3 : u - v < 65535) (h4 : v - u < 65535) : ¬ cs u = cs v := by
  unfold cs
  split <;> split <;> omega
theorem xor_turn (z : Int) (k : Nat) (h0 : 0 ≤ z) (h1 : z ≤ 255) (hk : k < 8) : bits BinOp.xor IntKind.u8 z (2 ^ k % 256) = ((z.toNat ^^^ 2 ^ k : Nat) : Int) := by
  have e : ((2 : Int) ^ k % 256) = ((2 ^ k : Nat) : Int) ∧ (2 : Nat) ^ k < 256 := by
    match k, hk with
    | 0, _ => decide
    | 1, _ => decide
    | 2, _ => decide
    | 3, _ => decide
    | 4, _ => decide
    | 5, _ => decide
    | 6, _ => decide
    | 7, _ => decide
  rw [e.1, u8_xor z _ h0 (by omega) (by omega) (by omega), Int.toNat_natCast]
theorem i64_and7 (n : Int) : bits .and .i64 n 7 = n % 8 := by
  have h7 : (BitVec.ofInt 64 7).toNat = 2 ^ 3 - 1 := by decide
  have key : (BitVec.ofInt 64 n &&& BitVec.ofInt 64 7).toNat = (n % ((2 ^ 64 : Nat) : Int)).toNat % 2 ^ 3 := by
    rw [BitVec.toNat_and, BitVec.toNat_ofInt, h7, Nat.and_two_pow_sub_one_eq_mod]
  show IntKind.i64.wrap ((BitVec.ofInt 64 n &&& BitVec.ofInt 64 7).toNat : Nat) = n % 8
  rw [key, IntKind.wrap_i64]
  omega
end Go.Proofs.Ythmfappindbjnaa
