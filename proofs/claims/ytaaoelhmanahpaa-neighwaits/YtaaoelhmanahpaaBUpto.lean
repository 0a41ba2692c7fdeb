/-
  The second form's bound, and what it says of lists. For every seat.
-/
import Derived.Test.YtaaoelhmanahpaaRows
import Derived.ProofKit
import Derived.OpenShut
import Derived.JoinedCond
import Derived.Deep.Slices
namespace Go.Proofs.Ytaaoelhmanahpaa
open Go.ChangeShapes Go.WideShapes Go.ChangeAt Go.RowKit Go.Deep
set_option linter.all false
theorem upto_one {H : Type} (d : DataW H) : 1 ≤ Rows.uptoBulk d := by
  cases d with
  | lit l => cases l <;> simp [Rows.uptoBulk]
  | nil => simp [Rows.uptoBulk]
  | ptr d => simp [Rows.uptoBulk]
  | slice elems spare => simp [Rows.uptoBulk]
  | agg parts => simp [Rows.uptoBulk]
  | iface t d => simp [Rows.uptoBulk]
  | map entries => simp [Rows.uptoBulk]
  | held h => simp [Rows.uptoBulk]
theorem upto_len {H : Type} : ∀ (l : List (DataW H)), l.length ≤ Rows.uptoBulkAll l
  | [] => by simp [Rows.uptoBulkAll]
  | x :: r => by have h1 := upto_one x; have h2 := upto_len r; simp only [Rows.uptoBulkAll, List.length_cons]; omega
theorem upto_lits {H : Type} {k : IntKind} {d : DataW H} {zs : List Int} (h : d = .nil ∧ zs = [] ∨ ∃ spare, d = .slice (lits k zs) spare) : zs.length ≤ Rows.uptoBulk d := by
  rcases h with ⟨_, h⟩ | ⟨sp, rfl⟩
  · subst h; simp
  · have h1 := upto_len (lits k zs : List (DataW H))
    have h2 : (lits k zs : List (DataW H)).length = zs.length := by simp [lits]
    simp only [Rows.uptoBulk]
    omega
/-- one of a list's, and all. -/
theorem upto_mem {H : Type} : ∀ (l : List (DataW H)) (x : DataW H), x ∈ l → Rows.uptoBulk x ≤ Rows.uptoBulkAll l
  | [], x, h => by simp at h
  | y :: r, x, h => by
    simp only [Rows.uptoBulkAll]
    rcases List.mem_cons.1 h with rfl | h
    · omega
    · have := upto_mem r x h; omega
end Go.Proofs.Ytaaoelhmanahpaa
