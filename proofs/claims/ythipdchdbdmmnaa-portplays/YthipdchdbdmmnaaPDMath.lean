/-
  What is made of a draw: the rest by a number, numbers doubled; the small functions of dice.
-/
import Derived.Test.YthipdchdbdmmnaaPDMem
namespace Go.Proofs.Ythipdchdbdmmnaa
open Go.RowKit
set_option linter.all false

/-- the rest of a draw by gap + 1. -/
def restI (d gap : Int) : Int := d % (gap + 1)
theorem restI_bd {d gap : Int} (hd : 0 ≤ d ∧ d ≤ 4294967295) (hg : 0 ≤ gap) : 0 ≤ restI d gap ∧ restI d gap ≤ gap ∧ restI d gap ≤ 4294967295 := by
  unfold restI
  have h1 := Int.emod_nonneg d (show gap + 1 ≠ 0 by omega)
  have h2 := Int.emod_lt_of_pos d (show 0 < gap + 1 by omega)
  have h3 : d % (gap + 1) ≤ d := by
    rcases Int.lt_or_le d (gap + 1) with h | h
    · rw [Int.emod_eq_of_lt hd.1 h]; exact Int.le_refl _
    · omega
  omega
/-- a number as Backoff takes it. -/
def timeI (n : Int) : Int := min (max n 1) 1125899906842624
theorem timeI_bd (n : Int) : 1 ≤ timeI n ∧ timeI n ≤ 1125899906842624 := by unfold timeI; omega
/-- doubled n times, as long as it is below m; at most m. -/
def dbl : Nat → Int → Int → Int
  | 0, b, m => min b m
  | n + 1, b, m => if b < m then dbl n (b * 2) m else min b m
theorem dbl_stop {n : Nat} {b m : Int} (h : ¬ b < m) : dbl n b m = min b m := by cases n <;> simp [dbl, h]
theorem dbl_bd : ∀ (n : Nat) (b m : Int), 1 ≤ b → 1 ≤ m → 1 ≤ dbl n b m ∧ dbl n b m ≤ m
  | 0, b, m, h, k => by simp only [dbl]; omega
  | n + 1, b, m, h, k => by
    simp only [dbl]
    split
    · exact dbl_bd n (b * 2) m (by omega) k
    · omega
/-- the number that a wait is about. -/
def aboutI (base most try_ : Int) : Int := dbl (try_ - 1).toNat (timeI base) (timeI most)
theorem aboutI_bd (base most try_ : Int) : 1 ≤ aboutI base most try_ ∧ aboutI base most try_ ≤ 1125899906842624 := by
  have h1 := timeI_bd base
  have h2 := timeI_bd most
  have h3 := dbl_bd (try_ - 1).toNat (timeI base) (timeI most) (by omega) (by omega)
  unfold aboutI
  omega
end Go.Proofs.Ythipdchdbdmmnaa
