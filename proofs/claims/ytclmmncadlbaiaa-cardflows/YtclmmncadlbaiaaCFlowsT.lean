/-
  The walk of the statement CardFlows, whole.
-/
import Derived.Test.YtclmmncadlbaiaaCFlowsN
import Derived.Test.YtclmmncadlbaiaaCFlowsW
namespace Go.Proofs.Ytclmmncadlbaiaa
open Go.RowKit
set_option linter.all false

theorem cardFlows_walk (rx tx : Int) (xs : List OpR) (a : Option Addr) (cc : Nat) (w : World) (b1 : -9223372036854775808 ≤ rx ∧ rx ≤ 9223372036854775807) (b2 : -9223372036854775808 ≤ tx ∧ tx ≤ 9223372036854775807) (hops : OpsAt w a xs) (hsz : xs.length * 40 ≤ 140737488351232 ∧ ∀ i, i < xs.length → (xs.getD i OpR.nil).pt.zs.length ≤ 140737488351232) :
    Calls Try.prog 6 #[.int .i64 rx, .int .i64 tx, .slice a xs.length cc] w fun e w' => e = .returned (.bool true) ∧ Below w.heap.size w w' := by
  by_cases h : fitsB rx = false ∨ fitsB tx = false
  · exact flows_no rx tx _ w h
  · obtain ⟨n, rfl, hn1, hn⟩ : ∃ n : Nat, rx = n ∧ 1 ≤ n ∧ n ≤ 64 := ⟨rx.toNat, by simp [fitsB] at h; omega, by simp [fitsB] at h; omega, by simp [fitsB] at h; omega⟩
    obtain ⟨m, rfl, hm1, hm⟩ : ∃ m : Nat, tx = m ∧ 1 ≤ m ∧ m ≤ 64 := ⟨tx.toNat, by simp [fitsB] at h; omega, by simp [fitsB] at h; omega, by simp [fitsB] at h; omega⟩
    exact flows_yes n m a cc xs w hn1 hn hm1 hm hops hsz
end Go.Proofs.Ytclmmncadlbaiaa
