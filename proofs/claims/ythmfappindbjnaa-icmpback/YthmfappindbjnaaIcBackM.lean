/-
  Messages there and back, as numbers.
-/
import Derived.Test.YthmfappindbjnaaIcEnsW
import Derived.Test.YthmfappindbjnaaIcMsg
import Derived.Test.YthmfappindbjnaaBTurn
namespace Go.Proofs.Ythmfappindbjnaa
open Go.RowKit
set_option linter.all false

theorem encE_zero {k c : Int} {n : Nat} (h : encE k c n = 0) : kindB k = true ∧ (0 ≤ c ∧ c ≤ 255) ∧ n ≤ 1472 := by
  unfold encE at h
  split at h
  · omega
  rename_i h1
  split at h
  · omega
  rename_i h2
  split at h
  · omega
  exact ⟨by simpa using h1, by omega, by omega⟩
theorem encE_is {k c : Int} {n : Nat} (h1 : kindB k = true) (h2 : 0 ≤ c ∧ c ≤ 255) (h3 : n ≤ 1472) : encE k c n = 0 := by
  unfold encE
  rw [h1, if_neg (by decide), if_neg (by omega), if_neg (by omega)]
theorem encS_bd (k c r : Int) (zs : List Int) (hk : 0 ≤ k ∧ k ≤ 255) (hc : 0 ≤ c ∧ c ≤ 255) (hz : ∀ z, z ∈ zs → 0 ≤ z ∧ z ≤ 255) : 0 ≤ encS k c r zs ∧ encS k c r zs ≤ 65535 := isum_bd (msgL_bd 0 r hk hc hz)
theorem msg_num2 (k c s r : Int) (zs : List Int) (hs : 0 ≤ s ∧ s ≤ 65535) : numAt (msgL k c s r zs) 2 = s := by
  simp [numAt, msgL, op2]; omega
theorem msg_num4 (k c s r : Int) (zs : List Int) (hr : 0 ≤ r ∧ r ≤ 4294967295) : num4 (msgL k c s r zs) 4 = r := by
  simp [num4, msgL, op2, ip4]; omega
/-- what was laid is read. -/
theorem back_laid (k c r : Int) (zs : List Int) (hk : kindB k = true) (hc : 0 ≤ c ∧ c ≤ 255) (hr : 0 ≤ r ∧ r ≤ 4294967295) (hz : ∀ z, z ∈ zs → 0 ≤ z ∧ z ≤ 255) (hl : zs.length ≤ 1472) :
    decE (msgL k c (encS k c r zs) r zs) = 0 ∧ decK (msgL k c (encS k c r zs) r zs) = k ∧ decC (msgL k c (encS k c r zs) r zs) = c ∧ decR (msgL k c (encS k c r zs) r zs) = r ∧ decD (msgL k c (encS k c r zs) r zs) = zs := by
  have hs := encS_bd k c r zs (kind_bd hk) hc hz
  have e : decE (msgL k c (encS k c r zs) r zs) = 0 := by
    unfold decE
    rw [msgL_len, if_neg (by omega), if_neg (by omega), msg_num2 _ _ _ _ _ hs, if_neg (by rw [msgL_isum k c _ 0 r zs]; exact fun h => h rfl)]
    have : (msgL k c (encS k c r zs) r zs).getD 0 0 = k := rfl
    rw [this, hk, if_neg (by decide)]
  refine ⟨e, ?_, ?_, ?_, ?_⟩
  · unfold decK; rw [if_pos e]; rfl
  · unfold decC; rw [if_pos e]; rfl
  · unfold decR; rw [if_pos e]; exact msg_num4 _ _ _ _ _ hr
  · unfold decD; rw [if_pos e]; simp [msgL, op2, ip4]
/-- what was read is laid. -/
theorem read_back (zs : List Int) (hz : ∀ z, z ∈ zs → 0 ≤ z ∧ z ≤ 255) (hE : decE zs = 0) :
    encE (decK zs) (decC zs) (decD zs).length = 0 ∧ encB (decK zs) (decC zs) (decR zs) (decD zs) = zs := by
  have h0 := hE
  unfold decE at h0
  split at h0
  · omega
  split at h0
  · omega
  rename_i h8 h1480
  split at h0
  · omega
  rename_i hs
  split at h0
  · omega
  rename_i hk
  have eK : decK zs = zs.getD 0 0 := by unfold decK; rw [if_pos hE]
  have eC : decC zs = zs.getD 1 0 := by unfold decC; rw [if_pos hE]
  have eR : decR zs = num4 zs 4 := by unfold decR; rw [if_pos hE]
  have eD : decD zs = zs.drop 8 := by unfold decD; rw [if_pos hE]
  rw [eK, eC, eR, eD]
  have e : encE (zs.getD 0 0) (zs.getD 1 0) (zs.drop 8).length = 0 := encE_is (by simpa using hk) (getD_mem_bd hz 1) (by simp; omega)
  refine ⟨e, ?_⟩
  unfold encB
  rw [if_pos e, encS_back zs hz (by omega)]
  have hs' : numAt zs 2 = isum zs := by omega
  rw [← hs']
  exact (msg_back zs hz (by omega)).symm
/-- a bit is turned. -/
theorem turned_told (zs : List Int) (hz : ∀ z, z ∈ zs → 0 ≤ z ∧ z ≤ 255) (h8 : 8 ≤ zs.length) (hl : zs.length ≤ 1480) (hs : numAt zs 2 = isum zs) (j k : Nat) (hj : j < zs.length) (hk : k < 8) :
    decE (zs.set j (((zs.getD j 0).toNat ^^^ 2 ^ k : Nat) : Int)) = 93 := by
  have hb := getD_mem_bd hz j
  have ht := bit_turned (zs.getD j 0).toNat (by omega) k hk
  have hp := pow_cases k hk
  obtain ⟨x, hx⟩ : ∃ x, x = (((zs.getD j 0).toNat ^^^ 2 ^ k : Nat) : Int) := ⟨_, rfl⟩
  have hxb : 0 ≤ x ∧ x ≤ 255 := by omega
  have hd : ∃ D : Int, 1 ≤ D ∧ D ≤ 128 ∧ (x = zs.getD j 0 + D ∨ x = zs.getD j 0 - D) := by
    refine ⟨((2 ^ k : Nat) : Int), ?_, ?_, ?_⟩
    · omega
    · omega
    · omega
  rw [← hx]
  have hne : ¬ numAt (zs.set j x) 2 = isum (zs.set j x) := by
    have hi := isum_bd hz
    by_cases h23 : j = 2 ∨ j = 3
    · have e1 : isum (zs.set j x) = isum zs := by
        unfold isum
        rw [List.take_set_of_le (by omega), List.drop_set_of_lt (by omega)]
      rw [e1, ← hs]
      obtain ⟨D, d1, d2, d3⟩ := hd
      unfold numAt
      rcases h23 with rfl | rfl
      · simp [List.getD_eq_getElem?_getD, List.getElem?_set, hj] at *
        omega
      · simp [List.getD_eq_getElem?_getD, List.getElem?_set, hj] at *
        omega
    · have e2 : numAt (zs.set j x) 2 = numAt zs 2 := by
        unfold numAt
        simp only [List.getD_eq_getElem?_getD]
        rw [List.getElem?_set_ne (by omega), List.getElem?_set_ne (by omega)]
      rw [e2, hs]
      -- the list that is summed
      obtain ⟨i, hiL, hset, hget⟩ : ∃ i, i < (zs.take 2 ++ zs.drop 4).length ∧ (zs.set j x).take 2 ++ (zs.set j x).drop 4 = (zs.take 2 ++ zs.drop 4).set i x ∧ (zs.take 2 ++ zs.drop 4).getD i 0 = zs.getD j 0 := by
        by_cases hj2 : j < 2
        · refine ⟨j, by simp; omega, ?_, ?_⟩
          · rw [List.drop_set_of_lt (by omega), List.take_set, List.set_append_left _ _ (by simp; omega)]
          · simp only [List.getD_eq_getElem?_getD]
            rw [List.getElem?_append_left (by simp; omega), List.getElem?_take, if_pos hj2]
        · refine ⟨j - 2, by simp; omega, ?_, ?_⟩
          · rw [List.take_set_of_le (by omega), List.drop_set, if_neg (by omega), List.set_append_right _ _ (by simp; omega)]
            congr 2
            simp
            omega
          · have hl2 : (zs.take 2).length = 2 := by simp; omega
            simp only [List.getD_eq_getElem?_getD]
            rw [List.getElem?_append_right (by rw [hl2]; omega), hl2, List.getElem?_drop]
            congr 2
            omega
      unfold isum
      rw [hset]
      have hm := isum_mem hz
      have hm' : ∀ z, z ∈ (zs.take 2 ++ zs.drop 4).set i x → 0 ≤ z ∧ z ≤ 255 := fun z h => by
        rcases List.mem_or_eq_of_mem_set h with h | rfl
        · exact hm z h
        · exact hxb
      have r1 := run_set (zs.take 2 ++ zs.drop 4) i x hiL
      have p1 := run_bd _ hm
      have p2 := run_bd _ hm'
      rw [hget] at r1
      obtain ⟨D, d1, d2, d3⟩ := hd
      have hap : ¬ cs (run (zs.take 2 ++ zs.drop 4)).1 = cs (run ((zs.take 2 ++ zs.drop 4).set i x)).1 := by
        refine cs_apart _ _ p1.1 p2.1 ?_ ?_ ?_
        · rw [r1]; split at r1 <;> split <;> omega
        · rw [r1]; split <;> omega
        · rw [r1]; split <;> omega
      unfold sumOf
      omega
  unfold decE
  rw [List.length_set, if_neg (by omega), if_neg (by omega), if_pos hne]
end Go.Proofs.Ythmfappindbjnaa
