/-
  The walk of the statement DiceAdds, at all its arguments.
-/
import Derived.Test.YtdfefhiajleejaaDiAddW
namespace Go.Proofs.Ytdfefhiajleejaa
open Go.RowKit
set_option linter.all false
theorem diceAdds_walk (a : Option Addr) (c : Nat) (za : List Int) (b : Option Addr) (d : Nat) (zb : List Int) (ahead : Int) (w : World) (hpa : PartU w a c za) (hpb : PartU w b d zb) (la : za.length ≤ 1048576) (lb : zb.length ≤ 1048576) :
    Calls Try.prog 5 #[.slice a za.length c, .slice b zb.length d, .int .i64 ahead] w fun e w' => e = .returned (.bool true) ∧ Below w.heap.size w w' := by
  rcases Int.lt_or_le 0 ahead with h | h
  · rcases Int.lt_or_le (za.length : Int) ahead with h1 | h1
    · exact adds_d a c za b d zb ahead w hpa hpb la lb h h1
    · rcases Int.lt_or_eq_of_le h1 with h2 | h2
      · obtain ⟨n, rfl⟩ : ∃ n : Nat, ahead = n := ⟨ahead.toNat, by omega⟩
        exact adds_b a c za b d zb n w hpa hpb la lb (by omega) (by omega)
      · subst h2
        exact adds_c a c za b d zb w hpa hpb la lb (by omega)
  · exact adds_a a c za b d zb ahead w hpa hpb la lb h
end Go.Proofs.Ytdfefhiajleejaa
