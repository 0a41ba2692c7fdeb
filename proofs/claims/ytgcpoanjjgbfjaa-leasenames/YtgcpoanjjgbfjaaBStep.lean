/-
  Stores as steps of a region that draws. For every seat.
-/
import Derived.Test.YtgcpoanjjgbfjaaBMem
import Derived.Deep.RegionHeld3
namespace Go.Proofs.Ytgcpoanjjgbfjaa
open Go.RowKit
set_option linter.all false

/-- a whole struct stored. -/
theorem step_store_row {ops : Array Oper} {o : Oper} {a : Act} {w : World} {K : Act → World → Prop} {Q : Exit → Act → World → Prop} {E : Prop} (hgd : o.guard = none) (ty : TypeId) (x y : Operand) (ho : o.op = .store ty x y)
    (g : Nat) (cells : Array Value) (hx : a.eval x = .pointer (some ⟨g, 0, none⟩)) (hy : a.eval y = .agg cells)
    (t : TypeId) (old : Array Value) (hg : w.heap[g]? = some (.cells old t (0, 0))) (hi : (Try.prog.info? ty).map (·.size) = some cells.size)
    (hold : old.size = cells.size) (h1 : cells.all (·.oneCell') = true)
    (h : ∀ w', Hid (w'.heap[g]? = some (.cells cells t (0, 0))) → Hid (But g w w') → K (a.put o.dst undef) w') :
    if Region.wanted o (yielded ops a.tmps) = true then Oper.wp Try.prog o a w K Q else E := by
  have hw : Region.wanted o (yielded ops a.tmps) = true := by simp [Region.wanted, hgd]
  rw [if_pos hw]
  exact wp_store_row ty x y ho g cells hx hy t old hg hi hold h1 (h _ (setRow_heap w g _ _ t _ hg) (But.setRow g w _))
/-- one cell stored. -/
theorem step_store_one {ops : Array Oper} {o : Oper} {a : Act} {w : World} {K : Act → World → Prop} {Q : Exit → Act → World → Prop} {E : Prop} (hgd : o.guard = none) (ty : TypeId) (x y : Operand) (ho : o.op = .store ty x y)
    (g : Nat) (v u : Value) (hx : a.eval x = .pointer (some ⟨g, 0, none⟩)) (hy : a.eval y = v) (hr : ∀ wx : World, wx.cell? ⟨g, 0, none⟩ = some u → wx.frozen? ⟨g, 0, none⟩ = false → (Instr.storeAt ty (.pointer (some ⟨g, 0, none⟩)) v).run Try.prog wx = Result.ok () (wx.setCell ⟨g, 0, none⟩ v))
    (t : TypeId) (hg : w.heap[g]? = some (.cells #[u] t (0, 0)))
    (h : ∀ w', Hid (w'.heap[g]? = some (.cells #[v] t (0, 0))) → Hid (But g w w') → K (a.put o.dst undef) w') :
    if Region.wanted o (yielded ops a.tmps) = true then Oper.wp Try.prog o a w K Q else E := by
  have hw : Region.wanted o (yielded ops a.tmps) = true := by simp [Region.wanted, hgd]
  rw [if_pos hw]
  have hc : w.cell? ⟨g, 0, none⟩ = some u := cell_of_heap hg 0
  have hf : w.frozen? ⟨g, 0, none⟩ = false := frozen_of_heap hg 0
  have hn : (w.setCell ⟨g, 0, none⟩ v).heap[g]? = some (.cells #[v] t (0, 0)) := by
    have := heap_setCell (v := v) (j := 0) hg
    simpa using this
  unfold Oper.wp
  simp only [execOp, ho, Sem.run_bind, Sem.run_pure, Result.andThen_ok, hx, hy, hr w hc hf]
  exact h _ hn (But.setCell g w 0 v)
theorem store_slice (ty : TypeId) (hs : (Try.prog.info? ty).map (·.size) = some 1) (g : Nat) (u : Value) (a : Option Addr) (n c : Nat) (wx : World) (hc : wx.cell? ⟨g, 0, none⟩ = some u) (hf : wx.frozen? ⟨g, 0, none⟩ = false) : (Instr.storeAt ty (.pointer (some ⟨g, 0, none⟩)) (.slice a n c)).run Try.prog wx = Result.ok () (wx.setCell ⟨g, 0, none⟩ (.slice a n c)) := by
  cases hq : Try.prog.info? ty with
  | none => simp [hq] at hs
  | some i =>
    simp [hq] at hs
    simp [go_sem, sizeOf, typeInfo, hq, hs, hc, hf]
theorem store_int (ty : TypeId) (hs : (Try.prog.info? ty).map (·.size) = some 1) (g : Nat) (u : Value) (k : IntKind) (n : Int) (wx : World) (hc : wx.cell? ⟨g, 0, none⟩ = some u) (hf : wx.frozen? ⟨g, 0, none⟩ = false) : (Instr.storeAt ty (.pointer (some ⟨g, 0, none⟩)) (.int k n)).run Try.prog wx = Result.ok () (wx.setCell ⟨g, 0, none⟩ (.int k n)) := by
  cases hq : Try.prog.info? ty with
  | none => simp [hq] at hs
  | some i =>
    simp [hq] at hs
    simp [go_sem, sizeOf, typeInfo, hq, hs, hc, hf]
end Go.Proofs.Ytgcpoanjjgbfjaa
