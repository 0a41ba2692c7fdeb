/-
  The walk of the statement DiceBounds, at all its arguments.
-/
import Derived.Test.YtdfefhiajleejaaDiBndW
namespace Go.Proofs.Ytdfefhiajleejaa
open Go.RowKit
set_option linter.all false
abbrev IntB (n : Int) : Prop := -9223372036854775808 ≤ n ∧ n ≤ 9223372036854775807
theorem diceBounds_walk (a : Option Addr) (c : Nat) (zs : List Int) (lo hi base most try_ : Int) (w : World) (hp : PartU w a c zs) (hl : zs.length * 4 ≤ 140737488355328) (h1 : IntB lo) (h2 : IntB hi) (_ : IntB base) (_ : IntB most) (h3 : IntB try_) :
    Calls Try.prog 4 #[.slice a zs.length c, .int .i64 lo, .int .i64 hi, .int .i64 base, .int .i64 most, .int .i64 try_] w fun e w' => e = .returned (.bool true) ∧ Below w.heap.size w w' :=
  diceBounds_go a c zs lo hi base most try_ w hp hl h1 h2 h3
end Go.Proofs.Ytdfefhiajleejaa
