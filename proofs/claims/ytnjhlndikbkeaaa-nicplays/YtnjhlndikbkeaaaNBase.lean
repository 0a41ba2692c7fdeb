/-
  A driver in memory; its small functions.
-/
import Derived.Test.YtnjhlndikbkeaaaCNew2
import Derived.Test.YtnjhlndikbkeaaaFRefOpen
namespace Go.Proofs.Ytnjhlndikbkeaaa
open Go.RowKit
set_option linter.all false

/-- what a driver counts, and where it looks next. -/
structure NS where
  tk : Nat
  th : Nat
  sn : Nat
  rf : Nat
  rt : Nat
  tt : Nat
def NS.box (N : NS) (own : Mac) (c n m : Nat) : Array Value := #[.int .i64 N.tk, .int .i64 N.th, .int .i64 N.sn, .int .i64 N.rf, .pointer (some ⟨c, 0, none⟩), .int .u8 own.b0, .int .u8 own.b1, .int .u8 own.b2, .int .u8 own.b3, .int .u8 own.b4, .int .u8 own.b5, .int .i64 N.rt, .int .i64 n, .int .i64 N.tt, .int .i64 m]
structure NicC (w : World) (q : Nat) (own : Mac) (c n m : Nat) (N : NS) : Prop where
  c0 : w.cell? ⟨q, 0, none⟩ = some (.int .i64 N.tk)
  c1 : w.cell? ⟨q, 1, none⟩ = some (.int .i64 N.th)
  c2 : w.cell? ⟨q, 2, none⟩ = some (.int .i64 N.sn)
  c3 : w.cell? ⟨q, 3, none⟩ = some (.int .i64 N.rf)
  c4 : w.cell? ⟨q, 4, none⟩ = some (.pointer (some ⟨c, 0, none⟩))
  c5 : w.cell? ⟨q, 5, none⟩ = some (.int .u8 own.b0)
  c6 : w.cell? ⟨q, 6, none⟩ = some (.int .u8 own.b1)
  c7 : w.cell? ⟨q, 7, none⟩ = some (.int .u8 own.b2)
  c8 : w.cell? ⟨q, 8, none⟩ = some (.int .u8 own.b3)
  c9 : w.cell? ⟨q, 9, none⟩ = some (.int .u8 own.b4)
  c10 : w.cell? ⟨q, 10, none⟩ = some (.int .u8 own.b5)
  c11 : w.cell? ⟨q, 11, none⟩ = some (.int .i64 N.rt)
  c12 : w.cell? ⟨q, 12, none⟩ = some (.int .i64 n)
  c13 : w.cell? ⟨q, 13, none⟩ = some (.int .i64 N.tt)
  c14 : w.cell? ⟨q, 14, none⟩ = some (.int .i64 m)
  fz : ∀ j, w.frozen? ⟨q, j, none⟩ = false
  lt : q < w.heap.size
theorem nicC {w : World} {q : Nat} {own : Mac} {c n m : Nat} {N : NS} (h : w.heap[q]? = some (.cells (N.box own c n m) 88 (0, 0))) : NicC w q own c n m N :=
  ⟨cellHeap h 0 rfl, cellHeap h 1 rfl, cellHeap h 2 rfl, cellHeap h 3 rfl, cellHeap h 4 rfl, cellHeap h 5 rfl, cellHeap h 6 rfl, cellHeap h 7 rfl, cellHeap h 8 rfl, cellHeap h 9 rfl, cellHeap h 10 rfl, cellHeap h 11 rfl, cellHeap h 12 rfl, cellHeap h 13 rfl, cellHeap h 14 rfl, fun j => frozen_of_heap h j, heap_lt h⟩
set_option maxHeartbeats 400000 in
theorem nturn_any (q o a m : Nat) (C : Array Value) (t : TypeId) (w : World) (hc : w.heap[q]? = some (.cells C t (0, 0))) (c1 : C[o]? = some (.int .i64 a)) (c2 : C[o + 1]? = some (.int .i64 m)) (h3 : a < m) (h4 : m ≤ 64) :
    Calls Try.prog 50 #[.pointer (some ⟨q, o, none⟩)] w fun e w' => e = .returned (.tuple #[]) ∧ w'.heap[q]? = some (.cells (C.setIfInBounds o (.int .i64 ((a + 1) % m : Nat))) t (0, 0)) ∧ But q w w' := by
  have h1 := cellHeap hc o c1
  have h2 := cellHeap hc (o + 1) c2
  have hf := frozen_of_heap hc o
  have h5 : ¬ m = 0 := by omega
  have h6 : ((a : Int) + 1).tmod m = ((a + 1) % m : Nat) := by
    rw [Int.tmod_eq_emod_of_nonneg (by omega)]; rfl
  have h7 : ((a : Int) + 1) % (m : Int) = ((a + 1) % m : Nat) := rfl
  have h8 : 0 < m := by omega
  have HC := hid hc
  clear hc c1 c2
  obtain ⟨r, hr⟩ : ∃ r, r = (a + 1) % m := ⟨_, rfl⟩
  rw [← hr] at h6 h7 ⊢
  clear hr
  go_enter Try.func50, Try.ntmps50
  go_wp2
  go_region
  go_wp2
  all_goals exact bodyPost_end (v := .tuple #[]) (by simp [results, Try.results50, go_sem]) rfl ⟨rfl, heap_setCell HC.out, (But.setCell _ _ _ _).trans (But.drew _ _)⟩
/-- is it a frame for the station? -/
def goodB (own : Mac) (zs : List Int) : Bool := decide ((openR zs).er = 0) && mineB own (openR zs).d (openR zs).s
def NS.took (N : NS) : NS := { N with tk := N.tk + 1 }
def NS.threw (N : NS) : NS := { N with th := N.th + 1 }
theorem box_took (N : NS) (own : Mac) (c n m : Nat) : (N.box own c n m).setIfInBounds 0 (.int .i64 (N.tk + 1 : Nat)) = N.took.box own c n m := by simp [NS.box, NS.took]
theorem box_threw (N : NS) (own : Mac) (c n m : Nat) : (N.box own c n m).setIfInBounds 1 (.int .i64 (N.th + 1 : Nat)) = N.threw.box own c n m := by simp [NS.box, NS.threw]
end Go.Proofs.Ytnjhlndikbkeaaa
