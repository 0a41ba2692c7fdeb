/-
  Heads there and back, as numbers: sums, a bit that is turned.
-/
import Derived.Test.YtccmkljbedddiaaILive
namespace Go.Proofs.Ytccmkljbedddiaa
open Go.RowKit
set_option linter.all false

theorem run_20 (a0 a1 a2 a3 a4 a5 a6 a7 a8 a9 b0 b1 b2 b3 b4 b5 b6 b7 b8 b9 : Int) :
    (run [a0, a1, a2, a3, a4, a5, a6, a7, a8, a9, b0, b1, b2, b3, b4, b5, b6, b7, b8, b9]).1 = a0 * 256 + a1 + a2 * 256 + a3 + a4 * 256 + a5 + a6 * 256 + a7 + a8 * 256 + a9 + b0 * 256 + b1 + b2 * 256 + b3 + b4 * 256 + b5 + b6 * 256 + b7 + b8 * 256 + b9 := by
  simp [run, step]
theorem headL_is (h : Ip) (n s : Int) : headL h n s = [69, h.tos % 256, n / 256 % 256, n % 256, h.id / 256 % 256, h.id % 256, fl h.keep / 256 % 256, fl h.keep % 256, h.ttl % 256, h.proto % 256, s / 256 % 256, s % 256, h.src / 16777216 % 256, h.src / 65536 % 256, h.src / 256 % 256, h.src % 256, h.dst / 16777216 % 256, h.dst / 65536 % 256, h.dst / 256 % 256, h.dst % 256] := rfl
theorem run_head (h : Ip) (n s : Int) (hs : 0 ≤ s ∧ s ≤ 65535) : (run (headL h n s)).1 = (run (headL h n 0)).1 + s := by
  rw [headL_is, headL_is, run_20, run_20]; omega
theorem run_pos (h : Ip) (n s : Int) : 17664 ≤ (run (headL h n s)).1 := by
  rw [headL_is, run_20]; omega
theorem cs_65535 (u : Int) (h : 0 < u) : cs u = 65535 ↔ u % 65535 = 0 := by
  unfold cs; rw [if_neg (by omega)]; omega
theorem sumOf_zero (l : List Int) (hp : 0 < (run l).1) : sumOf l = 0 ↔ (run l).1 % 65535 = 0 := by
  unfold sumOf
  rw [← cs_65535 _ hp]
  omega
theorem head_sum (h : Ip) (n : Int) : sumOf (headL h n (sumH h n)) = 0 := by
  have hb := sumOf_bd (headL h n 0) (headL_bd _ _ _)
  have hp := run_pos h n 0
  rw [sumOf_zero _ (by have := run_pos h n (sumH h n); omega), run_head h n (sumH h n) hb]
  unfold sumH sumOf cs
  rw [if_neg (by omega)]
  omega
theorem getTo_1 (zs : List Int) (a : Nat) : numAt zs a 1 = zs.getD a 0 := by simp [numAt, getTo]
theorem getTo_2 (zs : List Int) (a : Nat) : numAt zs a 2 = zs.getD a 0 * 256 + zs.getD (a + 1) 0 := by simp [numAt, getTo]
theorem getTo_4 (zs : List Int) (a : Nat) : numAt zs a 4 = ((zs.getD a 0 * 256 + zs.getD (a + 1) 0) * 256 + zs.getD (a + 2) 0) * 256 + zs.getD (a + 3) 0 := by simp [numAt, getTo]
theorem lay_bd {h : Ip} (hh : layB h = true) : (0 ≤ h.tos ∧ h.tos ≤ 255) ∧ (0 ≤ h.proto ∧ h.proto ≤ 255) ∧ (0 ≤ h.id ∧ h.id ≤ 65535) ∧ (1 ≤ h.ttl ∧ h.ttl ≤ 255) := by simpa [layB, inB, and_assoc] using hh
theorem fl_keep (k : Bool) : fl k % 16384 = 0 ∧ keepB (fl k) = k := by cases k <;> decide

/-- what was laid is read as it was, whatever is laid behind it. -/
theorem back_laid (h : Ip) (zs B : List Int) (hok : h.ok) (hh : layB h = true) (hl : zs.length ≤ 1480) : decE (encL h zs ++ B) = 0 ∧ decA (encL h zs ++ B) = h ∧ decD (encL h zs ++ B) = zs := by
  have hbd := lay_bd hh
  obtain ⟨-, -, -, -, hsr, hds⟩ := hok
  unfold U32 at hsr hds
  obtain ⟨n, hn⟩ : ∃ n : Int, n = 20 + (zs.length : Int) := ⟨_, rfl⟩
  obtain ⟨s, hs⟩ : ∃ s, s = sumH h n := ⟨_, rfl⟩
  have e : encL h zs ++ B = headL h n s ++ (zs ++ B) := by rw [encL, hs, hn, List.append_assoc]
  have hsum := head_sum h n
  rw [← hs] at hsum
  have hfl := fl_bd h.keep
  have hfk := fl_keep h.keep
  have hk : ∀ i, i < 20 → (headL h n s ++ (zs ++ B)).getD i 0 = (headL h n s).getD i 0 := fun i hi => by
    rw [List.getD_eq_getElem?_getD, List.getElem?_append_left (by rw [headL_len]; exact hi), ← List.getD_eq_getElem?_getD]
  have htk : (headL h n s ++ (zs ++ B)).take 20 = headL h n s := by
    rw [List.take_append_of_le_length (by rw [headL_len]; omega), List.take_of_length_le (by rw [headL_len]; omega)]
  have hdr : (headL h n s ++ (zs ++ B)).drop 20 = zs ++ B := by
    rw [List.drop_append_of_le_length (by rw [headL_len]; omega), List.drop_eq_nil_of_le (by rw [headL_len]; omega), List.nil_append]
  have hlen : (headL h n s ++ (zs ++ B)).length = 20 + zs.length + B.length := by simp [headL_len]; omega
  rw [e]
  have e0 : (headL h n s ++ (zs ++ B)).getD 0 0 = 69 := by rw [hk 0 (by omega)]; rfl
  have e2 : numAt (headL h n s ++ (zs ++ B)) 2 2 = n := by rw [getTo_2, hk 2 (by omega), hk 3 (by omega), headL_is]; simp; omega
  have e6 : numAt (headL h n s ++ (zs ++ B)) 6 2 = fl h.keep := by rw [getTo_2, hk 6 (by omega), hk 7 (by omega), headL_is]; simp; omega
  have e8 : numAt (headL h n s ++ (zs ++ B)) 8 1 = h.ttl := by rw [getTo_1, hk 8 (by omega), headL_is]; simp; omega
  have e1 : numAt (headL h n s ++ (zs ++ B)) 1 1 = h.tos := by rw [getTo_1, hk 1 (by omega), headL_is]; simp; omega
  have e9 : numAt (headL h n s ++ (zs ++ B)) 9 1 = h.proto := by rw [getTo_1, hk 9 (by omega), headL_is]; simp; omega
  have e4 : numAt (headL h n s ++ (zs ++ B)) 4 2 = h.id := by rw [getTo_2, hk 4 (by omega), hk 5 (by omega), headL_is]; simp; omega
  have e12 : numAt (headL h n s ++ (zs ++ B)) 12 4 = h.src := by rw [getTo_4, hk 12 (by omega), hk 13 (by omega), hk 14 (by omega), hk 15 (by omega), headL_is]; simp; omega
  have e16 : numAt (headL h n s ++ (zs ++ B)) 16 4 = h.dst := by rw [getTo_4, hk 16 (by omega), hk 17 (by omega), hk 18 (by omega), hk 19 (by omega), headL_is]; simp; omega
  have eL : lenE (headL h n s ++ (zs ++ B)) = 0 := by
    unfold lenE
    rw [e0, e2, hlen, if_neg (by omega), if_neg (by decide), if_neg (by decide), if_neg (by decide), if_neg (by omega)]
  have eF : fldE (headL h n s ++ (zs ++ B)) = 0 := by
    unfold fldE fragE ttlE
    rw [e6, e8, if_pos hfk.1, if_pos rfl, if_neg (by omega)]
  have eE : decE (headL h n s ++ (zs ++ B)) = 0 := by
    unfold decE
    rw [if_pos eL, htk, if_pos hsum, eF]
  refine ⟨eE, ?_, ?_⟩
  · unfold decA decP
    rw [if_pos eE, e1, e4, e8, e9, e6, e12, e16, hfk.2]
  · unfold decD
    rw [if_pos eE, e2, hdr, hn]
    rw [show (20 + (zs.length : Int)).toNat - 20 = zs.length by omega, List.take_append_of_le_length (by omega), List.take_of_length_le (by omega)]

/-! ### A bit that is turned -/
theorem foldl_shift : ∀ (l : List Int) (a : Int) (b : Bool), (l.foldl step (a, b)).1 = a + (l.foldl step (0, b)).1
  | [], a, b => by simp
  | z :: l, a, b => by
    simp only [List.foldl_cons, step]
    rw [foldl_shift l (a + _) (!b), foldl_shift l (0 + _) (!b)]
    omega
theorem foldl_set : ∀ (l : List Int) (b : Bool) (j : Nat) (x : Int), j < l.length → ((l.set j x).foldl step (0, b)).1 = (l.foldl step (0, b)).1 + (x - l.getD j 0) * (if (j % 2 == 0) == b then 256 else 1)
  | [], b, j, x, h => by simp at h
  | z :: l, b, 0, x, h => by
    simp only [List.set_cons_zero, List.foldl_cons, step]
    rw [foldl_shift l (0 + _) (!b), foldl_shift l (0 + _) (!b)]
    cases b <;> simp <;> omega
  | z :: l, b, j + 1, x, h => by
    simp only [List.set_cons_succ, List.foldl_cons, step]
    rw [foldl_shift (l.set j x) (0 + _) (!b), foldl_shift l (0 + _) (!b), foldl_set l (!b) j x (by simpa using h)]
    have e : ((j % 2 == 0) == !b) = (((j + 1) % 2 == 0) == b) := by
      rcases Nat.mod_two_eq_zero_or_one j with h0 | h0
      · have : (j + 1) % 2 = 1 := by omega
        rw [h0, this]; cases b <;> rfl
      · have : (j + 1) % 2 = 0 := by omega
        rw [h0, this]; cases b <;> rfl
    rw [e]
    simp only [List.getD_eq_getElem?_getD, List.getElem?_cons_succ]
    omega
theorem run_set (l : List Int) (j : Nat) (x : Int) (h : j < l.length) : (run (l.set j x)).1 = (run l).1 + (x - l.getD j 0) * (if j % 2 = 0 then 256 else 1) := by
  have := foldl_set l true j x h
  unfold run
  rw [this]
  by_cases hj : j % 2 = 0 <;> simp [hj]
/-- a bit of a byte. -/
theorem bit_turned : ∀ z : Nat, z < 256 → ∀ k : Nat, k < 8 → z ^^^ 2 ^ k < 256 ∧ (z ^^^ 2 ^ k = z + 2 ^ k ∨ (z ^^^ 2 ^ k) + 2 ^ k = z) := by decide +kernel
theorem pow_cases (k : Nat) (h : k < 8) : (2 : Nat) ^ k = 1 ∨ (2 : Nat) ^ k = 2 ∨ (2 : Nat) ^ k = 4 ∨ (2 : Nat) ^ k = 8 ∨ (2 : Nat) ^ k = 16 ∨ (2 : Nat) ^ k = 32 ∨ (2 : Nat) ^ k = 64 ∨ (2 : Nat) ^ k = 128 := by
  match k, h with
  | 0, _ => decide
  | 1, _ => decide
  | 2, _ => decide
  | 3, _ => decide
  | 4, _ => decide
  | 5, _ => decide
  | 6, _ => decide
  | 7, _ => decide
/-- a head in which one bit was turned is not taken. -/
theorem told (h : Ip) (zs : List Int) (j k : Nat) (hj : j < 20) (hk : k < 8) (hz : ∀ z, z ∈ zs → 0 ≤ z ∧ z ≤ 255) :
    ¬ decE ((encL h zs).set j ((((encL h zs).getD j 0).toNat ^^^ 2 ^ k : Nat) : Int)) = 0 := by
  intro hE
  obtain ⟨n, hn⟩ : ∃ n : Int, n = 20 + (zs.length : Int) := ⟨_, rfl⟩
  have e : encL h zs = headL h n (sumH h n) ++ zs := by rw [encL, hn]
  have hbd := encL_bd h zs hz
  have hsum := head_sum h n
  have hp := run_pos h n (sumH h n)
  rw [sumOf_zero _ (by omega)] at hsum
  have hzb := getD_mem_bd hbd j
  have hlt : ((encL h zs).getD j 0).toNat < 256 := by omega
  obtain ⟨hx, hb⟩ := bit_turned _ hlt k hk
  obtain ⟨x, hxx⟩ : ∃ x : Int, x = ((((encL h zs).getD j 0).toNat ^^^ 2 ^ k : Nat) : Int) := ⟨_, rfl⟩
  rw [← hxx] at hE
  have htk : ((encL h zs).set j x).take 20 = (headL h n (sumH h n)).set j x := by
    rw [e, List.set_append_left _ _ (by rw [headL_len]; exact hj), List.take_append_of_le_length (by rw [List.length_set, headL_len]; omega), List.take_of_length_le (by rw [List.length_set, headL_len]; omega)]
  have hg : (encL h zs).getD j 0 = (headL h n (sumH h n)).getD j 0 := by
    rw [e, List.getD_eq_getElem?_getD, List.getElem?_append_left (by rw [headL_len]; exact hj), ← List.getD_eq_getElem?_getD]
  have hs0 : sumOf (((encL h zs).set j x).take 20) = 0 := by
    unfold decE at hE
    split at hE
    · split at hE
      · assumption
      · omega
    · exact absurd hE (by assumption)
  rw [htk] at hs0
  have hr := run_set (headL h n (sumH h n)) j x (by rw [headL_len]; exact hj)
  rw [← hg] at hr
  have hbx : ∀ z, z ∈ (headL h n (sumH h n)).set j x → 0 ≤ z ∧ z ≤ 255 := fun z hm => by
    rcases List.mem_or_eq_of_mem_set hm with hm | rfl
    · exact headL_bd _ _ _ z hm
    · omega
  have hpos := (run_bd _ hbx).1
  have hnz : 0 < (run ((headL h n (sumH h n)).set j x)).1 := by
    rcases Int.lt_or_eq_of_le hpos with h1 | h1
    · exact h1
    · exfalso
      unfold sumOf cs at hs0
      rw [if_pos h1.symm] at hs0
      omega
  rw [sumOf_zero _ hnz, hr] at hs0
  have hpk := pow_cases k hk
  generalize ((encL h zs).getD j 0).toNat ^^^ 2 ^ k = X at *
  generalize hZ : (encL h zs).getD j 0 = Zz at *
  generalize (2 : Nat) ^ k = W at *
  generalize (run (headL h n (sumH h n))).1 = RR at *
  split at hs0 <;> omega
end Go.Proofs.Ytccmkljbedddiaa
