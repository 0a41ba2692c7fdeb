/-
  The walk of the statement CardPlays, whole.
-/
import Derived.Test.YtclmmncadlbaiaaCPlaysN
import Derived.Test.YtclmmncadlbaiaaCPlaysW
namespace Go.Proofs.Ytclmmncadlbaiaa
open Go.RowKit
set_option linter.all false

theorem fits_nat {n : Int} (h : fitsB n = true) : ∃ k : Nat, n = k ∧ 1 ≤ k ∧ k ≤ 64 := ⟨n.toNat, by simp [fitsB] at h; omega, by simp [fitsB] at h; omega, by simp [fitsB] at h; omega⟩
theorem cardPlays_walk (rx tx r2 t2 : Int) (xs : List OpR) (a : Option Addr) (cc : Nat) (w : World) (b1 : -9223372036854775808 ≤ rx ∧ rx ≤ 9223372036854775807) (b2 : -9223372036854775808 ≤ tx ∧ tx ≤ 9223372036854775807) (b3 : -9223372036854775808 ≤ r2 ∧ r2 ≤ 9223372036854775807) (b4 : -9223372036854775808 ≤ t2 ∧ t2 ≤ 9223372036854775807) (hops : OpsAt w a xs) (hsz : xs.length * 40 ≤ 140737488351232 ∧ ∀ i, i < xs.length → (xs.getD i OpR.nil).pt.zs.length ≤ 140737488351232) :
    Calls Try.prog 5 #[.int .i64 rx, .int .i64 tx, .int .i64 r2, .int .i64 t2, .slice a xs.length cc] w fun e w' => e = .returned (.bool true) ∧ Below w.heap.size w w' := by
  by_cases h : fitsB rx = false ∨ fitsB tx = false
  · by_cases h2 : fitsB r2 = false ∨ fitsB t2 = false
    · exact plays_nn rx tx r2 t2 _ w h h2
    · obtain ⟨n2, rfl, x1, x2⟩ := fits_nat (n := r2) (by simpa using fun e => h2 (Or.inl e))
      obtain ⟨m2, rfl, y1, y2⟩ := fits_nat (n := t2) (by simpa using fun e => h2 (Or.inr e))
      exact plays_ny rx tx n2 m2 _ w h x1 x2 y1 y2
  · obtain ⟨n, rfl, x1, x2⟩ := fits_nat (n := rx) (by simpa using fun e => h (Or.inl e))
    obtain ⟨m, rfl, y1, y2⟩ := fits_nat (n := tx) (by simpa using fun e => h (Or.inr e))
    by_cases h2 : fitsB r2 = false ∨ fitsB t2 = false
    · exact plays_yn n m r2 t2 _ w h2 x1 x2 y1 y2
    · obtain ⟨n2, rfl, z1, z2⟩ := fits_nat (n := r2) (by simpa using fun e => h2 (Or.inl e))
      obtain ⟨m2, rfl, u1, u2⟩ := fits_nat (n := t2) (by simpa using fun e => h2 (Or.inr e))
      exact plays_yy n m n2 m2 a cc xs w x1 x2 y1 y2 z1 z2 u1 u2 hops hsz
end Go.Proofs.Ytclmmncadlbaiaa
