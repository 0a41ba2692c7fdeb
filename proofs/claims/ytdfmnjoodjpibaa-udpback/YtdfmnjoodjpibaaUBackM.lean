/-
  Datagrams there and back, as numbers: sums, a bit of an address that is turned.
-/
import Derived.Test.YtdfmnjoodjpibaaULive
import Derived.Laws.BitsAllLaws
namespace Go.Proofs.Ytdfmnjoodjpibaa
open Go.RowKit
set_option linter.all false

/-! ### Sums -/
theorem foldl_shift : ∀ (l : List Int) (a : Int) (b : Bool), (l.foldl step (a, b)).1 = a + (l.foldl step (0, b)).1
  | [], a, b => by simp
  | z :: l, a, b => by
    simp only [List.foldl_cons, step]
    rw [foldl_shift l (a + _) (!b), foldl_shift l (0 + _) (!b)]
    omega
theorem foldl_set : ∀ (l : List Int) (b : Bool) (j : Nat) (x : Int), j < l.length → ((l.set j x).foldl step (0, b)).1 = (l.foldl step (0, b)).1 + (x - l.getD j 0) * (if (j % 2 == 0) == b then 256 else 1)
  | [], b, j, x, h => by simp at h
  | z :: l, b, 0, x, h => by
    simp only [List.set_cons_zero, List.foldl_cons, step]
    rw [foldl_shift l (0 + _) (!b), foldl_shift l (0 + _) (!b)]
    cases b <;> simp <;> omega
  | z :: l, b, j + 1, x, h => by
    simp only [List.set_cons_succ, List.foldl_cons, step]
    rw [foldl_shift (l.set j x) (0 + _) (!b), foldl_shift l (0 + _) (!b), foldl_set l (!b) j x (by simpa using h)]
    have e : ((j % 2 == 0) == !b) = (((j + 1) % 2 == 0) == b) := by
      rcases Nat.mod_two_eq_zero_or_one j with h0 | h0
      · have : (j + 1) % 2 = 1 := by omega
        rw [h0, this]; cases b <;> rfl
      · have : (j + 1) % 2 = 0 := by omega
        rw [h0, this]; cases b <;> rfl
    rw [e]
    simp only [List.getD_eq_getElem?_getD, List.getElem?_cons_succ]
    omega
theorem run_set (l : List Int) (j : Nat) (x : Int) (h : j < l.length) : (run (l.set j x)).1 = (run l).1 + (x - l.getD j 0) * (if j % 2 = 0 then 256 else 1) := by
  have := foldl_set l true j x h
  unfold run
  rw [this]
  by_cases hj : j % 2 = 0 <;> simp [hj]
theorem cs_65535 (u : Int) (h : 0 < u) : cs u = 65535 ↔ u % 65535 = 0 := by
  unfold cs; rw [if_neg (by omega)]; omega
theorem sumOf_zero (l : List Int) (hp : 0 < (run l).1) : sumOf l = 0 ↔ (run l).1 % 65535 = 0 := by
  unfold sumOf
  rw [← cs_65535 _ hp]
  omega
theorem run_20 (a0 a1 a2 a3 a4 a5 a6 a7 a8 a9 b0 b1 b2 b3 b4 b5 b6 b7 b8 b9 : Int) (zs : List Int) :
    (run ([a0, a1, a2, a3, a4, a5, a6, a7, a8, a9, b0, b1, b2, b3, b4, b5, b6, b7, b8, b9] ++ zs)).1 = a0 * 256 + a1 + a2 * 256 + a3 + a4 * 256 + a5 + a6 * 256 + a7 + a8 * 256 + a9 + b0 * 256 + b1 + b2 * 256 + b3 + b4 * 256 + b5 + b6 * 256 + b7 + b8 * 256 + b9 + (run zs).1 := by
  unfold run
  rw [List.foldl_append]
  simp only [List.foldl_cons, List.foldl_nil, step, if_true, Bool.not_true, Bool.not_false, Bool.false_eq_true, if_false]
  rw [foldl_shift]
  omega
/-- all that the sum goes over, with a sum in its place. -/
def over (src dst s d su : Int) (zs : List Int) : List Int := pre src dst (8 + zs.length) ++ datL s d su zs
theorem over_is (src dst s d su : Int) (zs : List Int) : over src dst s d su zs = [src / 16777216 % 256, src / 65536 % 256, src / 256 % 256, src % 256, dst / 16777216 % 256, dst / 65536 % 256, dst / 256 % 256, dst % 256, 0, 17, ((8 + zs.length : Nat) : Int) / 256 % 256, ((8 + zs.length : Nat) : Int) % 256, s / 256 % 256, s % 256, d / 256 % 256, d % 256, (8 + (zs.length : Int)) / 256 % 256, (8 + (zs.length : Int)) % 256, su / 256 % 256, su % 256] ++ zs := by
  simp [over, pre, datL, ip4, op2]
theorem usum_is (src dst s d su : Int) (zs : List Int) : usum src dst (datL s d su zs) = sumOf (over src dst s d su zs) := by
  unfold usum over; rw [datL_len]
theorem over_run (src dst s d su : Int) (zs : List Int) (hs : 0 ≤ su ∧ su ≤ 65535) : (run (over src dst s d su zs)).1 = (run (over src dst s d 0 zs)).1 + su := by
  rw [over_is, over_is, run_20, run_20]; omega
theorem over_pos (src dst s d su : Int) (zs : List Int) (hz : ∀ z, z ∈ zs → 0 ≤ z ∧ z ≤ 255) : 17 ≤ (run (over src dst s d su zs)).1 := by
  rw [over_is, run_20]
  have := (run_bd zs hz).1
  omega
theorem encS_bd (src dst s d : Int) (zs : List Int) (hz : ∀ z, z ∈ zs → 0 ≤ z ∧ z ≤ 255) : 1 ≤ encS src dst s d zs ∧ encS src dst s d zs ≤ 65535 := by
  have := usum_bd src dst (datL_bd s d 0 hz)
  unfold encS; split <;> omega
/-- the sum that fits is the one that Encode writes. -/
theorem sum_fits (src dst s d N : Int) (zs : List Int) (hz : ∀ z, z ∈ zs → 0 ≤ z ∧ z ≤ 255) (hN : 1 ≤ N ∧ N ≤ 65535) : usum src dst (datL s d N zs) = 0 ↔ N = encS src dst s d zs := by
  have hp := over_pos src dst s d N zs hz
  have hp0 := over_pos src dst s d 0 zs hz
  have hb := encS_bd src dst s d zs hz
  rw [usum_is, sumOf_zero _ (by omega), over_run _ _ _ _ _ _ (by omega)]
  have he : encS src dst s d zs = if sumOf (over src dst s d 0 zs) = 0 then 65535 else sumOf (over src dst s d 0 zs) := by unfold encS; rw [usum_is]
  rw [he] at hb ⊢
  unfold sumOf cs at hb ⊢
  rw [if_neg (show ¬ (run (over src dst s d 0 zs)).1 = 0 by omega)] at hb ⊢
  generalize (run (over src dst s d 0 zs)).1 = U at *
  by_cases h0 : 65535 - ((U - 1) % 65535 + 1) = 0
  · rw [if_pos h0] at hb ⊢
    omega
  · rw [if_neg h0] at hb ⊢
    omega

/-! ### A bit of an address -/
theorem bit_turned : ∀ z : Nat, z < 256 → ∀ k : Nat, k < 8 → z ^^^ 2 ^ k < 256 ∧ (z ^^^ 2 ^ k = z + 2 ^ k ∨ (z ^^^ 2 ^ k) + 2 ^ k = z) := by decide +kernel
theorem pow_cases (k : Nat) (h : k < 8) : (2 : Nat) ^ k = 1 ∨ (2 : Nat) ^ k = 2 ∨ (2 : Nat) ^ k = 4 ∨ (2 : Nat) ^ k = 8 ∨ (2 : Nat) ^ k = 16 ∨ (2 : Nat) ^ k = 32 ∨ (2 : Nat) ^ k = 64 ∨ (2 : Nat) ^ k = 128 := by
  match k, h with
  | 0, _ => decide
  | 1, _ => decide
  | 2, _ => decide
  | 3, _ => decide
  | 4, _ => decide
  | 5, _ => decide
  | 6, _ => decide
  | 7, _ => decide
theorem byte_xor (x t i : Nat) : (x ^^^ t) / 2 ^ (8 * i) % 256 = (x / 2 ^ (8 * i) % 256) ^^^ (t / 2 ^ (8 * i) % 256) := by
  rw [← Nat.shiftRight_eq_div_pow, ← Nat.shiftRight_eq_div_pow, ← Nat.shiftRight_eq_div_pow, Nat.shiftRight_xor_distrib, show (256 : Nat) = 2 ^ 8 from rfl, Nat.xor_mod_two_pow]
/-- which words a turned bit changes: what the sum of the two words becomes. -/
theorem word_turned (x j : Nat) (hx : x < 4294967296) (hj : j < 32) : x ^^^ 2 ^ j < 4294967296 ∧ ∃ D : Int, 1 ≤ D ∧ D ≤ 32768 ∧ (((x ^^^ 2 ^ j) / 16777216 % 256 * 256 + (x ^^^ 2 ^ j) / 65536 % 256 + (x ^^^ 2 ^ j) / 256 % 256 * 256 + (x ^^^ 2 ^ j) % 256 : Nat) : Int) = ((x / 16777216 % 256 * 256 + x / 65536 % 256 + x / 256 % 256 * 256 + x % 256 : Nat) : Int) + D ∨ 1 ≤ D ∧ D ≤ 32768 ∧ (((x ^^^ 2 ^ j) / 16777216 % 256 * 256 + (x ^^^ 2 ^ j) / 65536 % 256 + (x ^^^ 2 ^ j) / 256 % 256 * 256 + (x ^^^ 2 ^ j) % 256 : Nat) : Int) = ((x / 16777216 % 256 * 256 + x / 65536 % 256 + x / 256 % 256 * 256 + x % 256 : Nat) : Int) - D := by
  have h0 := byte_xor x (2 ^ j) 0
  have h1 := byte_xor x (2 ^ j) 1
  have h2 := byte_xor x (2 ^ j) 2
  have h3 := byte_xor x (2 ^ j) 3
  simp only [Nat.mul_zero, Nat.pow_zero, Nat.div_one, Nat.mul_one, Nat.reduceMul, Nat.reducePow] at h0 h1 h2 h3
  refine ⟨Nat.xor_lt_two_pow (n := 32) hx (by exact Nat.pow_lt_pow_right (by omega) hj), ?_⟩
  rw [h0, h1, h2, h3]
  have key : ∀ k i : Nat, k < 8 → i < 4 → j = 8 * i + k → ∀ m, m < 4 → 2 ^ j / 2 ^ (8 * m) % 256 = if m = i then 2 ^ k else 0 := by
    intro k i hk hi hji m hm
    subst hji
    match i, hi, m, hm with
    | 0, _, 0, _ => rw [if_pos rfl]; match k, hk with | 0, _ => rfl | 1, _ => rfl | 2, _ => rfl | 3, _ => rfl | 4, _ => rfl | 5, _ => rfl | 6, _ => rfl | 7, _ => rfl
    | 0, _, 1, _ => rw [if_neg (by decide)]; match k, hk with | 0, _ => rfl | 1, _ => rfl | 2, _ => rfl | 3, _ => rfl | 4, _ => rfl | 5, _ => rfl | 6, _ => rfl | 7, _ => rfl
    | 0, _, 2, _ => rw [if_neg (by decide)]; match k, hk with | 0, _ => rfl | 1, _ => rfl | 2, _ => rfl | 3, _ => rfl | 4, _ => rfl | 5, _ => rfl | 6, _ => rfl | 7, _ => rfl
    | 0, _, 3, _ => rw [if_neg (by decide)]; match k, hk with | 0, _ => rfl | 1, _ => rfl | 2, _ => rfl | 3, _ => rfl | 4, _ => rfl | 5, _ => rfl | 6, _ => rfl | 7, _ => rfl
    | 1, _, 0, _ => rw [if_neg (by decide)]; match k, hk with | 0, _ => rfl | 1, _ => rfl | 2, _ => rfl | 3, _ => rfl | 4, _ => rfl | 5, _ => rfl | 6, _ => rfl | 7, _ => rfl
    | 1, _, 1, _ => rw [if_pos rfl]; match k, hk with | 0, _ => rfl | 1, _ => rfl | 2, _ => rfl | 3, _ => rfl | 4, _ => rfl | 5, _ => rfl | 6, _ => rfl | 7, _ => rfl
    | 1, _, 2, _ => rw [if_neg (by decide)]; match k, hk with | 0, _ => rfl | 1, _ => rfl | 2, _ => rfl | 3, _ => rfl | 4, _ => rfl | 5, _ => rfl | 6, _ => rfl | 7, _ => rfl
    | 1, _, 3, _ => rw [if_neg (by decide)]; match k, hk with | 0, _ => rfl | 1, _ => rfl | 2, _ => rfl | 3, _ => rfl | 4, _ => rfl | 5, _ => rfl | 6, _ => rfl | 7, _ => rfl
    | 2, _, 0, _ => rw [if_neg (by decide)]; match k, hk with | 0, _ => rfl | 1, _ => rfl | 2, _ => rfl | 3, _ => rfl | 4, _ => rfl | 5, _ => rfl | 6, _ => rfl | 7, _ => rfl
    | 2, _, 1, _ => rw [if_neg (by decide)]; match k, hk with | 0, _ => rfl | 1, _ => rfl | 2, _ => rfl | 3, _ => rfl | 4, _ => rfl | 5, _ => rfl | 6, _ => rfl | 7, _ => rfl
    | 2, _, 2, _ => rw [if_pos rfl]; match k, hk with | 0, _ => rfl | 1, _ => rfl | 2, _ => rfl | 3, _ => rfl | 4, _ => rfl | 5, _ => rfl | 6, _ => rfl | 7, _ => rfl
    | 2, _, 3, _ => rw [if_neg (by decide)]; match k, hk with | 0, _ => rfl | 1, _ => rfl | 2, _ => rfl | 3, _ => rfl | 4, _ => rfl | 5, _ => rfl | 6, _ => rfl | 7, _ => rfl
    | 3, _, 0, _ => rw [if_neg (by decide)]; match k, hk with | 0, _ => rfl | 1, _ => rfl | 2, _ => rfl | 3, _ => rfl | 4, _ => rfl | 5, _ => rfl | 6, _ => rfl | 7, _ => rfl
    | 3, _, 1, _ => rw [if_neg (by decide)]; match k, hk with | 0, _ => rfl | 1, _ => rfl | 2, _ => rfl | 3, _ => rfl | 4, _ => rfl | 5, _ => rfl | 6, _ => rfl | 7, _ => rfl
    | 3, _, 2, _ => rw [if_neg (by decide)]; match k, hk with | 0, _ => rfl | 1, _ => rfl | 2, _ => rfl | 3, _ => rfl | 4, _ => rfl | 5, _ => rfl | 6, _ => rfl | 7, _ => rfl
    | 3, _, 3, _ => rw [if_pos rfl]; match k, hk with | 0, _ => rfl | 1, _ => rfl | 2, _ => rfl | 3, _ => rfl | 4, _ => rfl | 5, _ => rfl | 6, _ => rfl | 7, _ => rfl
  have hk8 : j % 8 < 8 := Nat.mod_lt _ (by omega)
  have hi4 : j / 8 < 4 := by omega
  have kk := key (j % 8) (j / 8) hk8 hi4 (by omega)
  have t0 := kk 0 (by omega)
  have t1 := kk 1 (by omega)
  have t2 := kk 2 (by omega)
  have t3 := kk 3 (by omega)
  simp only [Nat.mul_zero, Nat.pow_zero, Nat.div_one, Nat.mul_one, Nat.reduceMul, Nat.reducePow] at t0 t1 t2 t3
  rw [t0, t1, t2, t3]
  have hp := pow_cases (j % 8) hk8
  have b0 := bit_turned (x % 256) (Nat.mod_lt _ (by omega)) (j % 8) hk8
  have b1 := bit_turned (x / 256 % 256) (Nat.mod_lt _ (by omega)) (j % 8) hk8
  have b2 := bit_turned (x / 65536 % 256) (Nat.mod_lt _ (by omega)) (j % 8) hk8
  have b3 := bit_turned (x / 16777216 % 256) (Nat.mod_lt _ (by omega)) (j % 8) hk8
  generalize (2 : Nat) ^ (j % 8) = P at *
  have hPb : 1 ≤ P ∧ P ≤ 128 := by omega
  clear hp t0 t1 t2 t3 kk key h0 h1 h2 h3
  generalize hq0 : x % 256 ^^^ P = X0 at *
  generalize hq1 : x / 256 % 256 ^^^ P = X1 at *
  generalize hq2 : x / 65536 % 256 ^^^ P = X2 at *
  generalize hq3 : x / 16777216 % 256 ^^^ P = X3 at *
  have hi : j / 8 = 0 ∨ j / 8 = 1 ∨ j / 8 = 2 ∨ j / 8 = 3 := by omega
  clear hk8 hi4 hj hx
  rcases hi with h | h | h | h <;> simp only [h, if_true, if_false, Nat.xor_zero, hq0, hq1, hq2, hq3, show ¬ (0 : Nat) = 1 from by decide, show ¬ (0 : Nat) = 2 from by decide, show ¬ (0 : Nat) = 3 from by decide, show ¬ (1 : Nat) = 0 from by decide, show ¬ (1 : Nat) = 2 from by decide, show ¬ (1 : Nat) = 3 from by decide, show ¬ (2 : Nat) = 0 from by decide, show ¬ (2 : Nat) = 1 from by decide, show ¬ (2 : Nat) = 3 from by decide, show ¬ (3 : Nat) = 0 from by decide, show ¬ (3 : Nat) = 1 from by decide, show ¬ (3 : Nat) = 2 from by decide]
  · obtain ⟨_, h' | h'⟩ := b0
    · clear b1 b2 b3 hq0 hq1 hq2 hq3
      generalize x / 16777216 % 256 = B3 at *
      generalize x / 65536 % 256 = B2 at *
      generalize x / 256 % 256 = B1 at *
      generalize x % 256 = B0 at *
      exact ⟨P, by omega⟩
    · clear b1 b2 b3 hq0 hq1 hq2 hq3
      generalize x / 16777216 % 256 = B3 at *
      generalize x / 65536 % 256 = B2 at *
      generalize x / 256 % 256 = B1 at *
      generalize x % 256 = B0 at *
      exact ⟨P, by omega⟩
  · obtain ⟨_, h' | h'⟩ := b1
    · clear b0 b2 b3 hq0 hq1 hq2 hq3
      generalize x / 16777216 % 256 = B3 at *
      generalize x / 65536 % 256 = B2 at *
      generalize x / 256 % 256 = B1 at *
      generalize x % 256 = B0 at *
      exact ⟨(P : Int) * 256, by omega⟩
    · clear b0 b2 b3 hq0 hq1 hq2 hq3
      generalize x / 16777216 % 256 = B3 at *
      generalize x / 65536 % 256 = B2 at *
      generalize x / 256 % 256 = B1 at *
      generalize x % 256 = B0 at *
      exact ⟨(P : Int) * 256, by omega⟩
  · obtain ⟨_, h' | h'⟩ := b2
    · clear b0 b1 b3 hq0 hq1 hq2 hq3
      generalize x / 16777216 % 256 = B3 at *
      generalize x / 65536 % 256 = B2 at *
      generalize x / 256 % 256 = B1 at *
      generalize x % 256 = B0 at *
      exact ⟨P, by omega⟩
    · clear b0 b1 b3 hq0 hq1 hq2 hq3
      generalize x / 16777216 % 256 = B3 at *
      generalize x / 65536 % 256 = B2 at *
      generalize x / 256 % 256 = B1 at *
      generalize x % 256 = B0 at *
      exact ⟨P, by omega⟩
  · obtain ⟨_, h' | h'⟩ := b3
    · clear b0 b1 b2 hq0 hq1 hq2 hq3
      generalize x / 16777216 % 256 = B3 at *
      generalize x / 65536 % 256 = B2 at *
      generalize x / 256 % 256 = B1 at *
      generalize x % 256 = B0 at *
      exact ⟨(P : Int) * 256, by omega⟩
    · clear b0 b1 b2 hq0 hq1 hq2 hq3
      generalize x / 16777216 % 256 = B3 at *
      generalize x / 65536 % 256 = B2 at *
      generalize x / 256 % 256 = B1 at *
      generalize x % 256 = B0 at *
      exact ⟨(P : Int) * 256, by omega⟩

/-- an address as two words, added. -/
def wds (x : Int) : Int := x / 16777216 % 256 * 256 + x / 65536 % 256 + x / 256 % 256 * 256 + x % 256
def rest (s d su : Int) (zs : List Int) : Int := 17 + ((8 + zs.length : Nat) : Int) / 256 % 256 * 256 + ((8 + zs.length : Nat) : Int) % 256 + s / 256 % 256 * 256 + s % 256 + d / 256 % 256 * 256 + d % 256 + (8 + (zs.length : Int)) / 256 % 256 * 256 + (8 + (zs.length : Int)) % 256 + su / 256 % 256 * 256 + su % 256 + (run zs).1
theorem over_w (src dst s d su : Int) (zs : List Int) : (run (over src dst s d su zs)).1 = wds src + wds dst + rest s d su zs := by
  rw [over_is, run_20]
  unfold wds rest
  generalize (run zs).1 = R
  omega
set_option maxRecDepth 20000 in
theorem wds_turned (x : Int) (j : Nat) (h0 : 0 ≤ x ∧ x ≤ 4294967295) (hj : j < 32) : ∃ D : Int, 1 ≤ D ∧ D ≤ 32768 ∧ (wds ((x.toNat ^^^ 2 ^ j : Nat) : Int) = wds x + D ∨ wds ((x.toNat ^^^ 2 ^ j : Nat) : Int) = wds x - D) := by
  obtain ⟨x, rfl⟩ := Int.eq_ofNat_of_zero_le h0.1
  simp only [Int.toNat_natCast]
  obtain ⟨_, D, hD⟩ := word_turned x j (by omega) hj
  generalize x ^^^ 2 ^ j = y at *
  have e : ∀ z : Nat, wds (z : Int) = ((z / 16777216 % 256 * 256 + z / 65536 % 256 + z / 256 % 256 * 256 + z % 256 : Nat) : Int) := fun z => by unfold wds; omega
  rw [e, e]
  generalize y / 16777216 % 256 * 256 + y / 65536 % 256 + y / 256 % 256 * 256 + y % 256 = A at *
  generalize x / 16777216 % 256 * 256 + x / 65536 % 256 + x / 256 % 256 * 256 + x % 256 = B at *
  exact ⟨D, by omega⟩
/-- a datagram is not taken for an address of which one bit is another one. -/
theorem turned_src (src dst s d : Int) (zs : List Int) (j : Nat) (hz : ∀ z, z ∈ zs → 0 ≤ z ∧ z ≤ 255) (s0 : 0 ≤ src ∧ src ≤ 4294967295) (hj : j < 32) : ¬ usum (((src.toNat ^^^ 2 ^ j : Nat) : Int)) dst (datL s d (encS src dst s d zs) zs) = 0 := by
  have hb := encS_bd src dst s d zs hz
  have h0 := (sum_fits src dst s d (encS src dst s d zs) zs hz hb).2 rfl
  generalize encS src dst s d zs = su at *
  have hp := over_pos src dst s d su zs hz
  have hp' := over_pos (((src.toNat ^^^ 2 ^ j : Nat) : Int)) dst s d su zs hz
  rw [usum_is, sumOf_zero _ (by omega)] at h0
  rw [usum_is, sumOf_zero _ (by omega)]
  rw [over_w] at h0 ⊢
  obtain ⟨D, hD⟩ := wds_turned src j s0 hj
  omega
theorem turned_dst (src dst s d : Int) (zs : List Int) (j : Nat) (hz : ∀ z, z ∈ zs → 0 ≤ z ∧ z ≤ 255) (s0 : 0 ≤ dst ∧ dst ≤ 4294967295) (hj : j < 32) : ¬ usum src (((dst.toNat ^^^ 2 ^ j : Nat) : Int)) (datL s d (encS src dst s d zs) zs) = 0 := by
  have hb := encS_bd src dst s d zs hz
  have h0 := (sum_fits src dst s d (encS src dst s d zs) zs hz hb).2 rfl
  generalize encS src dst s d zs = su at *
  have hp := over_pos src dst s d su zs hz
  have hp' := over_pos src (((dst.toNat ^^^ 2 ^ j : Nat) : Int)) s d su zs hz
  rw [usum_is, sumOf_zero _ (by omega)] at h0
  rw [usum_is, sumOf_zero _ (by omega)]
  rw [over_w] at h0 ⊢
  obtain ⟨D, hD⟩ := wds_turned dst j s0 hj
  omega

/-! ### There and back -/
theorem dat_getD (s d su : Int) (zs B : List Int) (i : Nat) (hi : i < 8) : (datL s d su zs ++ B).getD i 0 = (op2 s ++ op2 d ++ op2 (8 + (zs.length : Int)) ++ op2 su).getD i 0 := by
  have e : datL s d su zs ++ B = (op2 s ++ op2 d ++ op2 (8 + (zs.length : Int)) ++ op2 su) ++ (zs ++ B) := by simp [datL]
  rw [e, List.getD_eq_getElem?_getD, List.getElem?_append_left (by simpa [op2] using hi), ← List.getD_eq_getElem?_getD]
theorem dat_num (s d su : Int) (zs B : List Int) (hs : 0 ≤ s ∧ s ≤ 65535) (hd : 0 ≤ d ∧ d ≤ 65535) (hu : 0 ≤ su ∧ su ≤ 65535) (hl : zs.length ≤ 65527) :
    numAt (datL s d su zs ++ B) 0 = s ∧ numAt (datL s d su zs ++ B) 2 = d ∧ numAt (datL s d su zs ++ B) 4 = 8 + (zs.length : Int) ∧ numAt (datL s d su zs ++ B) 6 = su := by
  unfold numAt
  rw [dat_getD _ _ _ _ _ 0 (by omega), dat_getD _ _ _ _ _ (0 + 1) (by omega), dat_getD _ _ _ _ _ 2 (by omega), dat_getD _ _ _ _ _ (2 + 1) (by omega), dat_getD _ _ _ _ _ 4 (by omega), dat_getD _ _ _ _ _ (4 + 1) (by omega), dat_getD _ _ _ _ _ 6 (by omega), dat_getD _ _ _ _ _ (6 + 1) (by omega)]
  simp [op2]
  omega
theorem dat_take (s d su : Int) (zs B : List Int) : (datL s d su zs ++ B).take (8 + zs.length) = datL s d su zs := by
  rw [List.take_append_of_le_length (by rw [datL_len]; omega), List.take_of_length_le (by rw [datL_len]; omega)]
/-- what was laid is read as it was, whatever is laid behind it. -/
theorem back_laid (src dst s d : Int) (zs B : List Int) (hz : ∀ z, z ∈ zs → 0 ≤ z ∧ z ≤ 255) (hs : 0 ≤ s ∧ s ≤ 65535) (hd : 0 ≤ d ∧ d ≤ 65535) (h0 : ¬ d = 0) (hl : zs.length ≤ 1472) :
    decE src dst (datL s d (encS src dst s d zs) zs ++ B) = 0 ∧ decS src dst (datL s d (encS src dst s d zs) zs ++ B) = s ∧ decT src dst (datL s d (encS src dst s d zs) zs ++ B) = d ∧ decD src dst (datL s d (encS src dst s d zs) zs ++ B) = zs := by
  have hb := encS_bd src dst s d zs hz
  have hu := (sum_fits src dst s d (encS src dst s d zs) zs hz hb).2 rfl
  generalize encS src dst s d zs = su at *
  obtain ⟨n0, n2, n4, n6⟩ := dat_num s d su zs B hs hd (by omega) (by omega)
  have htk := dat_take s d su zs B
  have hlen : (datL s d su zs ++ B).length = 8 + zs.length + B.length := by rw [List.length_append, datL_len]
  have ht : (8 + (zs.length : Int)).toNat = 8 + zs.length := by omega
  have hE : decE src dst (datL s d su zs ++ B) = 0 := by
    unfold decE
    rw [n4, n6, n2, hlen, ht, htk, if_neg (by omega), if_neg (by omega), if_neg (by rw [hu]; simp), if_neg h0]
  unfold decS decT decD datD
  rw [if_pos hE, if_pos hE, if_pos hE, n4, ht, htk]
  refine ⟨hE, n0, n2, ?_⟩
  have e : datL s d su zs = (op2 s ++ op2 d ++ op2 (8 + (zs.length : Int)) ++ op2 su) ++ zs := rfl
  rw [e, List.drop_append_of_le_length (by simp [op2]), List.drop_eq_nil_of_le (by simp [op2]), List.nil_append]
/-- for no other address. -/
theorem back_not (src dst src' dst' s d : Int) (zs B : List Int) (hz : ∀ z, z ∈ zs → 0 ≤ z ∧ z ≤ 255) (hs : 0 ≤ s ∧ s ≤ 65535) (hd : 0 ≤ d ∧ d ≤ 65535) (hl : zs.length ≤ 1472) (hn : ¬ usum src' dst' (datL s d (encS src dst s d zs) zs) = 0) :
    decE src' dst' (datL s d (encS src dst s d zs) zs ++ B) = 93 := by
  have hb := encS_bd src dst s d zs hz
  generalize encS src dst s d zs = su at *
  obtain ⟨n0, n2, n4, n6⟩ := dat_num s d su zs B hs hd (by omega) (by omega)
  have htk := dat_take s d su zs B
  have hlen : (datL s d su zs ++ B).length = 8 + zs.length + B.length := by rw [List.length_append, datL_len]
  have ht : (8 + (zs.length : Int)).toNat = 8 + zs.length := by omega
  unfold decE
  rw [n4, n6, hlen, ht, htk, if_neg (by omega), if_neg (by omega), if_pos ⟨by omega, hn⟩]
theorem take8 : ∀ (zs : List Int), 8 ≤ zs.length → zs.take 8 = [zs.getD 0 0, zs.getD 1 0, zs.getD 2 0, zs.getD 3 0, zs.getD 4 0, zs.getD 5 0, zs.getD 6 0, zs.getD 7 0]
  | a :: b :: c :: d :: e :: f :: g :: h :: r, _ => rfl
/-- what was read is laid as it was. -/
theorem read_back (src dst : Int) (zs : List Int) (hz : ∀ z, z ∈ zs → 0 ≤ z ∧ z ≤ 255) (hE : decE src dst zs = 0) :
    portB (numAt zs 0) = true ∧ portB (numAt zs 2) = true ∧ ¬ numAt zs 2 = 0 ∧ 8 ≤ zs.length ∧ 8 + (datD zs).length ≤ zs.length ∧ numAt zs 4 = 8 + ((datD zs).length : Int) ∧ zs.take (8 + (datD zs).length) = datL (numAt zs 0) (numAt zs 2) (numAt zs 6) (datD zs) ∧ (numAt zs 6 = 0 ∨ numAt zs 6 = encS src dst (numAt zs 0) (numAt zs 2) (datD zs)) := by
  unfold decE at hE
  split at hE
  · omega
  rename_i h8
  split at hE
  · omega
  rename_i hL
  split at hE
  · omega
  rename_i hS
  split at hE
  · omega
  rename_i hD
  have b0 := numAt_bd hz 0
  have b2 := numAt_bd hz 2
  have b4 := numAt_bd hz 4
  have b6 := numAt_bd hz 6
  obtain ⟨L, hLL⟩ := Int.eq_ofNat_of_zero_le b4.1
  have hdl : (datD zs).length = L - 8 := by unfold datD; rw [hLL]; simp; omega
  have hL8 : 8 + (datD zs).length = L := by omega
  have htk : zs.take L = datL (numAt zs 0) (numAt zs 2) (numAt zs 6) (datD zs) := by
    have e1 : zs.take L = (zs.take L).take 8 ++ (zs.take L).drop 8 := (List.take_append_drop 8 _).symm
    have e2 : (zs.take L).take 8 = zs.take 8 := by rw [List.take_take, Nat.min_eq_left (by omega)]
    have e3 : (zs.take L).drop 8 = datD zs := by unfold datD; rw [hLL]; rfl
    have e4 : zs.take 8 = [zs.getD 0 0, zs.getD 1 0, zs.getD 2 0, zs.getD 3 0, zs.getD 4 0, zs.getD 5 0, zs.getD 6 0, zs.getD 7 0] := by
      exact take8 zs (by omega)
    have e5 : ∀ a, op2 (numAt zs a) = [zs.getD a 0, zs.getD (a + 1) 0] := fun a => by
      have h1 := getD_mem_bd hz a
      have h2 := getD_mem_bd hz (a + 1)
      unfold op2 numAt
      congr 1
      · omega
      · congr 1; omega
    have e6 : (8 + ((datD zs).length : Int)) = numAt zs 4 := by omega
    rw [e1, e2, e3, e4]
    unfold datL
    rw [e6, e5, e5, e5, e5]
    rfl
  refine ⟨by simp [portB]; omega, by simp [portB]; omega, hD, by omega, by omega, by omega, by rw [hL8]; exact htk, ?_⟩
  by_cases h6 : numAt zs 6 = 0
  · exact Or.inl h6
  · right
    have hs : usum src dst (zs.take L) = 0 := by
      rw [hLL, Int.toNat_natCast] at hS
      omega
    rw [htk] at hs
    exact (sum_fits src dst _ _ _ _ (fun z h => hz z (by unfold datD at h; exact List.mem_of_mem_take (List.mem_of_mem_drop h))) (by omega)).1 hs
end Go.Proofs.Ytdfmnjoodjpibaa
