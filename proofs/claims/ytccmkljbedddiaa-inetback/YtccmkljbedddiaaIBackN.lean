/-
  What was read is laid as it was, as numbers.
-/
import Derived.Test.YtccmkljbedddiaaIBackM
namespace Go.Proofs.Ytccmkljbedddiaa
open Go.RowKit
set_option linter.all false

theorem decE_zero {zs : List Int} (h : decE zs = 0) : lenE zs = 0 ∧ sumOf (zs.take 20) = 0 ∧ fldE zs = 0 := by
  unfold decE at h
  split at h
  · rename_i h1
    split at h
    · rename_i h2
      exact ⟨h1, h2, h⟩
    · omega
  · exact absurd h (by assumption)
theorem lenE_zero {zs : List Int} (h : lenE zs = 0) (hz : ∀ z, z ∈ zs → 0 ≤ z ∧ z ≤ 255) : zs.getD 0 0 = 69 := by
  have hb := getD_mem_bd hz 0
  unfold lenE at h
  split at h
  · omega
  split at h
  · omega
  split at h
  · omega
  split at h
  · omega
  rename_i h1 h2 h3 h4
  have : zs.getD 0 0 / 16 = 4 := by simpa using h2
  omega
theorem fldE_zero {zs : List Int} (h : fldE zs = 0) : numAt zs 6 2 % 16384 = 0 ∧ ¬ numAt zs 8 1 = 0 := by
  unfold fldE fragE ttlE at h
  by_cases h1 : numAt zs 6 2 % 16384 = 0
  · rw [if_pos h1, if_pos rfl] at h
    refine ⟨h1, fun h2 => ?_⟩
    rw [if_pos h2] at h
    omega
  · rw [if_neg h1, if_neg (by decide)] at h
    omega
theorem fl_back (F : Int) (h0 : 0 ≤ F) (h1 : F < 32768) (h2 : F % 16384 = 0) : fl (keepB F) = F := by
  have : F = 0 ∨ F = 16384 := by omega
  rcases this with rfl | rfl <;> decide
/-- the first twenty of some bytes. -/
theorem take_20 (zs : List Int) (h : 20 ≤ zs.length) : zs.take 20 = [zs.getD 0 0, zs.getD 1 0, zs.getD 2 0, zs.getD 3 0, zs.getD 4 0, zs.getD 5 0, zs.getD 6 0, zs.getD 7 0, zs.getD 8 0, zs.getD 9 0, zs.getD 10 0, zs.getD 11 0, zs.getD 12 0, zs.getD 13 0, zs.getD 14 0, zs.getD 15 0, zs.getD 16 0, zs.getD 17 0, zs.getD 18 0, zs.getD 19 0] := by
  have e : zs.take 20 = (List.range 20).map fun i => zs.getD i 0 := by
    apply List.ext_getElem
    · simp; omega
    · intro i h1 h2
      have hi : i < zs.length := by simp at h1; omega
      simp [List.getD_eq_getElem?_getD, hi]
  rw [e]
  rfl

/-- what Encode makes of what Decode tells. -/
theorem read_lay (zs : List Int) (hz : ∀ z, z ∈ zs → 0 ≤ z ∧ z ≤ 255) (hE : decE zs = 0) :
    layB (decA zs) = true ∧ (decD zs).length = (numAt zs 2 2).toNat - 20 := by
  obtain ⟨h1, h2, h3⟩ := decE_zero hE
  have hl := lenE_len h1
  have hf := fldE_zero h3
  have b1 := (numAt_bd hz 1).1
  have b4 := (numAt_bd hz 4).2.1
  have b8 := (numAt_bd hz 8).1
  have b9 := (numAt_bd hz 9).1
  unfold decA decD
  rw [if_pos hE, if_pos hE]
  constructor
  · unfold layB inB decP
    simp
    omega
  · simp; omega
/-- what was read is laid as it was. -/
theorem read_back (zs : List Int) (hz : ∀ z, z ∈ zs → 0 ≤ z ∧ z ≤ 255) (hE : decE zs = 0) (N : Nat) (hN : (numAt zs 2 2).toNat = N) :
    encL (decA zs) (decD zs) = headL (decP zs) N (sumH (decP zs) N) ++ (zs.drop 20).take (N - 20) ∧ (20 ≤ N ∧ N ≤ zs.length) ∧
    (zs.getD 6 0 < 128 → (headL (decP zs) N (sumH (decP zs) N) ++ (zs.drop 20).take (N - 20) = zs.take N ∧ ¬ (zs.getD 10 0 = 255 ∧ zs.getD 11 0 = 255 ∧ (headL (decP zs) N (sumH (decP zs) N) ++ (zs.drop 20).take (N - 20)).getD 10 0 = 0 ∧ (headL (decP zs) N (sumH (decP zs) N) ++ (zs.drop 20).take (N - 20)).getD 11 0 = 0)) ∨
      (zs.getD 10 0 = 255 ∧ zs.getD 11 0 = 255 ∧ (headL (decP zs) N (sumH (decP zs) N) ++ (zs.drop 20).take (N - 20)).getD 10 0 = 0 ∧ (headL (decP zs) N (sumH (decP zs) N) ++ (zs.drop 20).take (N - 20)).getD 11 0 = 0 ∧ headL (decP zs) N (sumH (decP zs) N) ++ (zs.drop 20).take (N - 20) = ((zs.take N).set 10 0).set 11 0)) := by
  obtain ⟨h1, h2, h3⟩ := decE_zero hE
  obtain ⟨l20, n20, nl⟩ := lenE_len h1
  have hf := fldE_zero h3
  have e69 := lenE_zero h1 hz
  have hd := (read_lay zs hz hE).2
  have eA : decA zs = decP zs := by unfold decA; rw [if_pos hE]
  have eD : decD zs = (zs.drop 20).take (N - 20) := by unfold decD; rw [if_pos hE, hN]
  have hN20 : 20 ≤ N ∧ N ≤ zs.length := by omega
  have hNi : (N : Int) = numAt zs 2 2 := by omega
  refine ⟨?_, hN20, ?_⟩
  · rw [encL, hd, eA, eD, hN, show (20 + ((N - 20 : Nat) : Int)) = (N : Int) by omega]
  intro h6
  have ht : zs.take N = zs.take 20 ++ (zs.drop 20).take (N - 20) := by
    have := List.take_add (l := zs) (i := 20) (j := N - 20)
    rw [show 20 + (N - 20) = N by omega] at this
    exact this
  have htk := take_20 zs l20
  have hb := fun j => getD_mem_bd hz j
  have hb1 := hb 1; have hb2 := hb 2; have hb3 := hb 3; have hb4 := hb 4; have hb5 := hb 5; have hb6 := hb 6; have hb7 := hb 7; have hb8 := hb 8; have hb9 := hb 9; have hb10 := hb 10; have hb11 := hb 11
  have hb12 := hb 12; have hb13 := hb 13; have hb14 := hb 14; have hb15 := hb 15; have hb16 := hb 16; have hb17 := hb 17; have hb18 := hb 18; have hb19 := hb 19
  have hF : fl (decP zs).keep = zs.getD 6 0 * 256 + zs.getD 7 0 := by
    have e6 : numAt zs 6 2 = zs.getD 6 0 * 256 + zs.getD 7 0 := getTo_2 zs 6
    simp only [decP]
    rw [e6]
    exact fl_back _ (by omega) (by omega) (by rw [← e6]; exact hf.1)
  -- the head's bytes but the sum
  have hh : ∀ s, headL (decP zs) N s = [zs.getD 0 0, zs.getD 1 0, zs.getD 2 0, zs.getD 3 0, zs.getD 4 0, zs.getD 5 0, zs.getD 6 0, zs.getD 7 0, zs.getD 8 0, zs.getD 9 0, s / 256 % 256, s % 256, zs.getD 12 0, zs.getD 13 0, zs.getD 14 0, zs.getD 15 0, zs.getD 16 0, zs.getD 17 0, zs.getD 18 0, zs.getD 19 0] := fun s => by
    rw [headL_is, hF, hNi]
    simp only [decP, getTo_1, getTo_2, getTo_4, Nat.reduceAdd]
    simp only [List.cons.injEq, and_true, true_and]
    omega
  obtain ⟨S, hS⟩ : ∃ S, S = zs.getD 10 0 * 256 + zs.getD 11 0 := ⟨_, rfl⟩
  have hS2 : zs.take 20 = headL (decP zs) N S := by
    rw [hh, htk]
    simp only [List.cons.injEq, and_true, true_and]
    omega
  have hSb : 0 ≤ S ∧ S ≤ 65535 := by omega
  rw [hS2, sumOf_zero _ (by have := run_pos (decP zs) N S; omega), run_head _ _ _ hSb] at h2
  have hT := run_pos (decP zs) N 0
  have hsum : sumH (decP zs) N = 65535 - ((run (headL (decP zs) N 0)).1 - 1) % 65535 - 1 := by
    unfold sumH sumOf cs
    rw [if_neg (by omega)]; omega
  generalize (run (headL (decP zs) N 0)).1 = T at *
  generalize sumH (decP zs) N = s' at *
  have hcase : S = s' ∨ (S = 65535 ∧ s' = 0) := by omega
  have g10 : (headL (decP zs) N s' ++ (zs.drop 20).take (N - 20)).getD 10 0 = s' / 256 % 256 := by rw [hh]; rfl
  have g11 : (headL (decP zs) N s' ++ (zs.drop 20).take (N - 20)).getD 11 0 = s' % 256 := by rw [hh]; rfl
  rw [g10, g11, ht, hS2]
  rcases hcase with h | ⟨ha, hb'⟩
  · left
    refine ⟨by rw [h], ?_⟩
    rintro ⟨c1, c2, c3, c4⟩
    omega
  · right
    subst hb'
    refine ⟨by omega, by omega, by omega, by omega, ?_⟩
    rw [hh, hh]
    rfl
end Go.Proofs.Ytccmkljbedddiaa
