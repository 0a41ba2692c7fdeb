/-
  NeighWaits: a whole call of the script laid in a box.
-/
import Derived.Test.YtaaoelhmanahpaaNwN
import Derived.Test.YtaaoelhmanahpaaBBig
import Derived.Deep.MidRow
namespace Go.Proofs.Ytaaoelhmanahpaa
open Go.RowKit
set_option linter.all false
theorem wpList_store_rowH {ops : Array Oper} {rest : List Oper} {o : Oper} {a : Act} {w : World} {Q : Exit → Act → World → Prop} (hgd : o.guard = none) (ty : TypeId) (x y : Operand) (ho : o.op = .store ty x y)
    (g : Nat) (cells : Array Value) (hx : a.eval x = .pointer (some ⟨g, 0, none⟩)) (hy : a.eval y = .agg cells)
    (t : TypeId) (old : Array Value) (hg : w.heap[g]? = some (.cells old t (0, 0))) (hi : (Try.prog.info? ty).map (·.size) = some cells.size)
    (hold : old.size = cells.size) (h1 : cells.all (·.oneCell') = true)
    (h : ∀ w', Hid (w'.heap[g]? = some (.cells cells t (0, 0))) → Hid (But g w w') → wpList Try.prog ops Q rest (a.put o.dst undef) w') : wpList Try.prog ops Q (o :: rest) a w :=
  wpList_store_row hgd ty x y ho g cells hx hy t old hg hi hold h1 (h _ (setRow_heap w g _ _ t _ hg) (But.setRow g w _))
def zeroOp : Array Value := #[.int .i64 0, .int .i64 0, .int .u32 0, .int .u32 0, .slice none 0 0, .int .i64 0, .int .u8 0, .int .u8 0, .int .u8 0, .int .u8 0, .int .u8 0, .int .u8 0, .int .u32 0, .int .u8 0, .int .u8 0, .int .u8 0, .int .u8 0, .int .u8 0, .int .u8 0, .int .u32 0, .int .u32 0]
theorem zeroOp_info : (Try.prog.info? 44).map (·.zero) = some (some (.agg zeroOp)) := by kernel_rfl
theorem sizeOpW : (Try.prog.info? 44).map (·.size) = some 21 := by kernel_rfl
theorem wpList_alloc_op {ops : Array Oper} {rest : List Oper} {o : Oper} {a : Act} {w : World} {Q : Exit → Act → World → Prop} (hgd : o.guard = none) (ho : o.op = .alloc 44)
    (h : ∀ w', Hid (w' = w.alloc (.cells zeroOp 44)) → wpList Try.prog ops Q rest (a.put o.dst (.pointer (some ⟨w.heap.size, 0, none⟩))) w') : wpList Try.prog ops Q (o :: rest) a w :=
  wpList_alloc_to hgd 44 ho zeroOp zeroOp_info (h _ rfl)
end Go.Proofs.Ytaaoelhmanahpaa
