/-
  The statements' book, where it is made behind all the lists that it takes. For every seat.
-/
import Derived.Test.YtgcpoanjjgbfjaaBOwned
namespace Go.Proofs.Ytgcpoanjjgbfjaa
open Go.RowKit
set_option linter.all false

theorem Row.low {w w' : World} {e : TypeId} {v : Value} {vs : List Value} {N : Nat} (h : Row w e v vs) (hk : ∀ k, k < N → w'.heap[k]? = w.heap[k]?) (hv : ∀ b, v.ownBlock = some b → b < N) : Row w' e v vs := h.keep fun b hb => hk b (hv b hb)
end Go.Proofs.Ytgcpoanjjgbfjaa
