/-
  The walk of the statement PortQueues, whole.
-/
import Derived.Test.YtkgjlfbnjccckaaPQW
namespace Go.Proofs.Ytkgjlfbnjccckaa
open Go.RowKit
set_option linter.all false

theorem portQueues_walk (D : Int) (da : Option Addr) (dc : Nat) (zs : List Int) (xs : List OpP) (oa : Option Addr) (oc : Nat) (w : World) (hD : -9223372036854775808 ≤ D ∧ D ≤ 9223372036854775807) (hp : PartU w da dc zs) (hz : zs.length * 4 ≤ 140737488355328) (hops : OpsP w oa xs) (hsz : xs.length * 64 ≤ 140737488351232 ∧ ∀ i, i < xs.length → (xs.getD i OpP.nil).pt.zs.length ≤ 140737488351232) :
    Calls Try.prog 6 #[.int .i64 D, .slice da zs.length dc, .slice oa xs.length oc] w fun e w' => e = .returned (.bool true) ∧ Below w.heap.size w w' := by
  by_cases h : 1 ≤ D ∧ D ≤ 32
  · exact queues_yes D da dc zs xs oa oc w h.1 h.2 hp hz hops hsz
  · exact queues_no D da dc zs _ w h hp hz
end Go.Proofs.Ytkgjlfbnjccckaa
