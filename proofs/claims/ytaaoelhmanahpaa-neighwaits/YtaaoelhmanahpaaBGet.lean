/-
  The contract of octet.Get. For every seat.
-/
import Derived.Test.YtaaoelhmanahpaaBWidth
import Derived.Laws.BitsAllLaws
namespace Go.Proofs.Ytaaoelhmanahpaa
open Go.RowKit
set_option linter.all false

/-- the number that some bytes make, the highest first. -/
def getTo (zs : List Int) (a : Nat) : Nat → Int
  | 0 => 0
  | k + 1 => getTo zs a k * 256 + zs.getD (a + k) 0

theorem getTo_bd (zs : List Int) (hz : ∀ j, 0 ≤ zs.getD j 0 ∧ zs.getD j 0 ≤ 255) (a : Nat) : ∀ k, 0 ≤ getTo zs a k ∧ getTo zs a k < 256 ^ k
  | 0 => by simp [getTo]
  | k + 1 => by
    have h := getTo_bd zs hz a k
    have := hz (a + k)
    simp only [getTo, Int.pow_succ]
    omega

theorem or_join (x y : Int) (h0 : 0 ≤ x) (h1 : x < 72057594037927936) (h2 : 0 ≤ y) (h3 : y ≤ 255) :
    bits BinOp.or IntKind.u64 (x * 256) (IntKind.u64.wrap y) = x * 256 + y := by
  rw [IntKind.wrap_u64, Int.emod_eq_of_lt (by omega) (by omega)]
  rw [u64_or _ _ (by omega) (by omega) (by omega) (by omega), nat_join 8 _ _ (by omega) (by omega)]
  omega

theorem pow_le56 (k : Nat) (h : k ≤ 7) : (256 : Int) ^ k ≤ 72057594037927936 := by
  match k, h with
  | 0, _ => decide
  | 1, _ => decide
  | 2, _ => decide
  | 3, _ => decide
  | 4, _ => decide
  | 5, _ => decide
  | 6, _ => decide
  | 7, _ => decide

/-- what Get answers. -/
def getAns (zs : List Int) (a m : Int) : Int × Int := if m < 1 ∨ 8 < m ∨ a < 0 then (0, 1) else if (zs.length : Int) - m < a then (0, 5) else (getTo zs a.toNat m.toNat, 0)

end Go.Proofs.Ytaaoelhmanahpaa
