/-
  The statements' book: Owned. For every seat.
-/
import Derived.Test.YtgcpoanjjgbfjaaBBookP
import Derived.Deep.DeepCutAuto
namespace Go.Proofs.Ytgcpoanjjgbfjaa
open Go.RowKit
set_option linter.all false

theorem str_same (s : ByteArray) : (s != s) = false := by
  have : (s == s) = true := by
    cases s with | mk d => show (d == d) = true; simp
  show (!(s == s)) = false
  rw [this]; rfl

end Go.Proofs.Ytgcpoanjjgbfjaa
