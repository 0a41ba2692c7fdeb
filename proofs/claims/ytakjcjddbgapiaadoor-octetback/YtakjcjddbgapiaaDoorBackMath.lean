/-
  Numbers as bytes and back: what Put and Get come to.
-/
import Derived.Test.YtakjcjddbgapiaaDoorBeyond
import Derived.Deep.QuietTactic
import Derived.BigQuiet
namespace Go.Proofs.YtakjcjddbgapiaaDoor
open Go.RowKit
set_option linter.unusedVariables false

/-- the bytes that Put lays. -/
def putL (n : Int) (m : Nat) : List Int := (List.range m).map fun j => byteAt n (m - 1 - j)
theorem putL_len (n : Int) (m : Nat) : (putL n m).length = m := by simp [putL]
theorem putL_bd (n : Int) (m : Nat) : ∀ z, z ∈ putL n m → 0 ≤ z ∧ z ≤ 255 := fun z hz => by
  obtain ⟨j, _, rfl⟩ := List.mem_map.1 hz
  exact byteAt_bd n _
theorem putTo_at (n : Int) (m : Nat) : ∀ k, k ≤ m → ∀ j, j < m → (putTo n m k)[j]? = some (if m - 1 - j < k then .int .u8 (byteAt n (m - 1 - j)) else .int .u8 0)
  | 0, _, j, hj => by simp [putTo, made_eq, hj]
  | k + 1, hk, j, hj => by
    have ih := putTo_at n m k (by omega) j hj
    rw [putTo]
    by_cases e : m - 1 - k = j
    · subst e
      rw [Array.getElem?_setIfInBounds_self_of_lt (by rw [putTo_size]; omega), if_pos (by omega)]
      congr 3; omega
    · rw [Array.getElem?_setIfInBounds_ne e, ih]
      congr 1
      by_cases h : m - 1 - j < k
      · rw [if_pos h, if_pos (by omega)]
      · rw [if_neg h, if_neg (by omega)]
theorem putTo_is (n : Int) (m : Nat) : putTo n m m = (u8s (putL n m)).toArray := by
  apply Array.ext_getElem?
  intro j
  by_cases hj : j < m
  · rw [putTo_at n m m (Nat.le_refl _) j hj, if_pos (by omega)]
    simp [u8s, putL, hj]
  · rw [Array.getElem?_eq_none (by rw [putTo_size]; omega)]
    rw [Array.getElem?_eq_none (by simp [u8s, putL]; omega)]

/-- Put of m bytes as a part. -/
theorem put_part (n : Int) (m : Nat) (w : World) : (⟨some ⟨w.heap.size, 0, none⟩, m, putL n m⟩ : Part).ok (w.alloc (.cells (putTo n m m) 5)) :=
  ⟨putL_bd n m, Or.inr ⟨w.heap.size, 0, rfl, fun j hj => by
    have hj' : j < m := by simpa [putL_len] using hj
    rw [World.cell?_alloc_at _ _ _ _ rfl, Nat.zero_add, putTo_is]
    simp [u8s, putL, hj']⟩⟩

/-- the number that bytes make, by their list. -/
def num (zs : List Int) : Int := zs.foldl (fun a z => a * 256 + z) 0
theorem getTo_num (zs : List Int) (a : Nat) : ∀ k, a + k ≤ zs.length → getTo zs a k = num ((zs.drop a).take k)
  | 0, _ => by simp [getTo, num]
  | k + 1, h => by
    have hd : k < (zs.drop a).length := by simp; omega
    rw [getTo, getTo_num zs a k (by omega), List.take_succ_eq_append_getElem hd]
    simp only [num, List.foldl_append, List.foldl_cons, List.foldl_nil]
    congr 1
    rw [List.getD_eq_getElem?_getD, List.getElem?_eq_getElem (by omega)]
    simp
theorem byteAt_shift (n : Int) (k : Nat) : byteAt (n / 256) k = byteAt n (k + 1) := by
  unfold byteAt
  rw [show 8 * (k + 1) = 8 + 8 * k from by omega, Int.pow_add, Int.ediv_ediv_of_nonneg (by decide)]
  rfl
theorem putL_succ (n : Int) (m : Nat) : putL n (m + 1) = putL (n / 256) m ++ [byteAt n 0] := by
  unfold putL
  rw [List.range_succ, List.map_append]
  congr 1
  · apply List.map_congr_left
    intro j hj
    have hj' : j < m := by simpa using hj
    rw [byteAt_shift]; congr 1; omega
  · simp
theorem num_putL : ∀ (m : Nat) (n : Int), 0 ≤ n → num (putL n m) = n % 256 ^ m
  | 0, n, _ => by simp [putL, num]
  | m + 1, n, h => by
    rw [putL_succ]
    simp only [num, List.foldl_append, List.foldl_cons, List.foldl_nil]
    have ih := num_putL m (n / 256) (by omega)
    simp only [num] at ih
    rw [ih]
    have hb : byteAt n 0 = n % 256 := by simp [byteAt]
    rw [hb, Int.pow_succ, Int.mul_comm (256 ^ m) 256]
    have := Int.emod_emod_of_dvd n (Int.dvd_mul_right 256 (256 ^ m))
    have h2 := Int.mul_ediv_add_emod n (256 * 256 ^ m)
    have e1 : n / (256 * 256 ^ m) = n / 256 / 256 ^ m := by rw [Int.ediv_ediv_of_nonneg (by decide)]
    have h3 := Int.mul_ediv_add_emod (n / 256) (256 ^ m)
    have h4 := Int.mul_ediv_add_emod n 256
    rw [e1] at h2
    have e2 : 256 * 256 ^ m * (n / 256 / 256 ^ m) = 256 * (256 ^ m * (n / 256 / 256 ^ m)) := by rw [Int.mul_assoc]
    rw [e2] at h2
    omega
theorem putL_num_aux : ∀ (k : Nat) (zs : List Int), zs.length = k → (∀ z, z ∈ zs → 0 ≤ z ∧ z ≤ 255) → putL (num zs) k = zs
  | 0, zs, hl, _ => by
    rw [List.eq_nil_of_length_eq_zero hl]; simp [putL]
  | k + 1, zs, hl, hz => by
    rcases List.eq_nil_or_concat zs with h | ⟨l, z, h⟩
    · rw [h] at hl; simp at hl
    · rw [List.concat_eq_append] at h
      subst h
      have hz0 := hz z (by simp)
      have hl' : l.length = k := by simpa using hl
      have e : num (l ++ [z]) = num l * 256 + z := by simp [num, List.foldl_append]
      rw [putL_succ, e]
      have e1 : (num l * 256 + z) / 256 = num l := by omega
      rw [e1, putL_num_aux k l hl' (fun y hy => hz y (by simp [hy]))]
      congr 2
      simp [byteAt]; omega
theorem putL_num (zs : List Int) (hz : ∀ z, z ∈ zs → 0 ≤ z ∧ z ≤ 255) : putL (num zs) zs.length = zs := putL_num_aux _ zs rfl hz
end Go.Proofs.YtakjcjddbgapiaaDoor
