/-
  The walk of the statement DicePlays, at all its arguments.
-/
import Derived.Test.YtdfefhiajleejaaDiPlayW
namespace Go.Proofs.Ytdfefhiajleejaa
open Go.RowKit
set_option linter.all false
theorem dicePlays_walk (aa : Option Addr) (ca : Nat) (za : List Int) (ab : Option Addr) (cb : Nat) (zb : List Int) (xs : List OpU) (ax : Option Addr) (cx : Nat) (w : World) (hpa : PartU w aa ca za) (hpb : PartU w ab cb zb) (hops : OpsAt w ax xs) (hl : za.length + zb.length + total xs + xs.length ≤ 1048576) :
    Calls Try.prog 3 #[.slice aa za.length ca, .slice ab zb.length cb, .slice ax xs.length cx] w fun e w' => e = .returned (.bool true) ∧ Below w.heap.size w w' :=
  dicePlays_go aa ca za ab cb zb xs ax cx w hpa hpb hops hl
end Go.Proofs.Ytdfefhiajleejaa
