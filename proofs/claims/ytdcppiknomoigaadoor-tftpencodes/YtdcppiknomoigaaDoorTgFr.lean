/-
  Tftp: what the rows of this seat share: the listed tables and errors, a start that holds them.
-/
import Derived.Test.YtdcppiknomoigaaDoorBOpen
import Derived.Test.YtdcppiknomoigaaDoorTgE
import Derived.Test.YtdcppiknomoigaaDoorTie
import Derived.ProofKit
import Derived.LaidMore
import Derived.OpenShut
import Derived.Stop.Joined
import Derived.Stop.LaidErr
import Derived.SevenTiedAt
namespace Go.Proofs.YtdcppiknomoigaaDoor
open Go.ChangeShapes Go.WideShapes Go.ChangeAt Go.RowKit
set_option linter.all false


def laid5 : List (String × DataW Unit) := [("math/bits.deBruijn32tab", Rows.laid_math_bits_deBruijn32tab), ("math/bits.deBruijn64tab", Rows.laid_math_bits_deBruijn64tab), ("internal/strconv.uint64pow10", Rows.laid_internal_strconv_uint64pow10), ("strconv.ErrRange", Rows.laid_strconv_ErrRange), ("strconv.ErrSyntax", Rows.laid_strconv_ErrSyntax)]
set_option maxRecDepth 100000 in
theorem door_met (os : Os) (args : Array Value) : laidMetH Tryd.prog laid5 ((World.doorLaid Tryd.prog 400 os).forCall (fun _ _ => 0) ⟨#[], args, []⟩).memory :=
  laidMetH_of_parts3 (fuel := 8) (laidMet_of_run' 8 (by kernel_rfl) (by kernel_rfl)) (by kernel_rfl) (by kernel_rfl)
theorem gPow : Tryd.prog.globalNamed "internal/strconv.uint64pow10" = some 1 := by kernel_rfl
theorem tPow : (Tryd.prog.globals[1]?).map (·.type) = some 117 := by kernel_rfl
theorem cPow : Tryd.prog.cellsOf 59 = 1 := by kernel_rfl
theorem cPows : Tryd.prog.cellsOf 117 = 20 := by kernel_rfl
theorem gRng : Tryd.prog.globalNamed "strconv.ErrRange" = some 3 := by kernel_rfl
theorem gSyn : Tryd.prog.globalNamed "strconv.ErrSyntax" = some 2 := by kernel_rfl
theorem tRng : (Tryd.prog.globals[3]?).map (·.type) = some 96 := by kernel_rfl
theorem tSyn : (Tryd.prog.globals[2]?).map (·.type) = some 96 := by kernel_rfl
theorem starEr : "*" ++ "errors.errorString" = "*errors.errorString" := by decide
theorem rowEr (u : TypeId) (h : Tryd.prog.typeName? 3 u = some "*errors.errorString") : u = 131 :=
  typeName_ptr_named (nm := "errors.errorString") (by rw [starEr]; kernel_rfl) (by kernel_rfl) (by decide) u (by rw [starEr]; exact h)
theorem cEs : Tryd.prog.cellsOf 133 = 1 := by kernel_rfl
theorem cSt : Tryd.prog.cellsOf 9 = 1 := by kernel_rfl
theorem env_of_laid {W : World} (h : laidMetH Tryd.prog laid5 W) : Env W := by
  rw [MakeChecks.laidMetH_plain _ _ _ (by kernel_rfl)] at h
  have h2 := laidMet.tail (laidMet.tail h)
  have h3 := laidMet.tail h2
  have h4 := laidMet.tail h3
  refine ⟨Lib.tabIs_of_head gPow tPow Tryd.underlying117 Tryd.underlying59 cPow cPows h2, ?_, ?_⟩
  · obtain ⟨a, s, hv, _⟩ := laid_sentinel h4 gSyn tSyn Tryd.underlying96 rowEr Tryd.underlying131 Tryd.underlying133 rfl rfl Tryd.underlying9 cEs cSt
    exact ⟨_, _, hv⟩
  · obtain ⟨a, s, hv, _⟩ := laid_sentinel h3 gRng tRng Tryd.underlying96 rowEr Tryd.underlying131 Tryd.underlying133 rfl rfl Tryd.underlying9 cEs cSt
    exact ⟨_, _, hv⟩
end Go.Proofs.YtdcppiknomoigaaDoor
