/-
  The numbers of a message: how each is taken and put.
-/
import Derived.Test.YtoifblndpcelkaaBoMsg
import Derived.Test.YtoifblndpcelkaaBNumJ
namespace Go.Proofs.Ytoifblndpcelkaa
open Go.RowKit
set_option linter.all false

abbrev fn (n : Nat) : Value := .func (.func n) #[] #[]

set_option maxHeartbeats 1000000 in
theorem take_op (m : Bp) (v : Value) (w : World) (h : 0 ≤ m.op ∧ m.op ≤ 9223372036854775807) :
    Calls Try.prog 73 #[m.val v] w fun e w' => e = .returned (.int .u64 m.op) ∧ Hid (Below w.heap.size w w') := by
  obtain ⟨op, hops, xid, secs, all, ci, yi, si, gi, ⟨b0, b1, b2, b3, b4, b5⟩, sname, file⟩ := m
  simp only [Bp.val, Bp.cells] at *
  have hw : IntKind.u64.wrap op = op := by simp only [IntKind.wrap_u64]; omega
  go_enter Try.func73, Try.ntmps73
  go_wp2
  go_ret
  exact ⟨by first | rfl | simp_all, bpush (Below.refl _ _) _⟩
set_option maxHeartbeats 1000000 in
theorem put_op (g : Nat) (X : Array Value) (n : Int) (w : World) (hg : w.heap[g]? = some (.cells X 28 (0, 0))) (hX : X.size = 18) (h : 0 ≤ n ∧ n ≤ 9223372036854775807) :
    Calls Try.prog 74 #[.pointer (some ⟨g, 0, none⟩), .int .u64 n] w fun e w' => e = .returned (.tuple #[]) ∧ Hid (w' = w.setCell ⟨g, 0, none⟩ (.int .i64 n)) := by
  obtain ⟨u, hu⟩ : ∃ u, X[0]? = some u := ⟨_, Array.getElem?_eq_getElem (by omega)⟩
  have hc : w.cell? ⟨g, 0, none⟩ = some u := by rw [cell_of_heap hg]; exact hu
  have hf : w.frozen? ⟨g, 0, none⟩ = false := frozen_of_heap hg _
  have hw : IntKind.i64.wrap n = n := by simp only [IntKind.wrap_i64]; omega
  clear hg
  go_enter Try.func74, Try.ntmps74
  go_wp2
  go_end0
  exact ⟨rfl, rfl⟩
set_option maxHeartbeats 1000000 in
theorem take_hops (m : Bp) (v : Value) (w : World) (h : 0 ≤ m.hops ∧ m.hops ≤ 9223372036854775807) :
    Calls Try.prog 75 #[m.val v] w fun e w' => e = .returned (.int .u64 m.hops) ∧ Hid (Below w.heap.size w w') := by
  obtain ⟨op, hops, xid, secs, all, ci, yi, si, gi, ⟨b0, b1, b2, b3, b4, b5⟩, sname, file⟩ := m
  simp only [Bp.val, Bp.cells] at *
  have hw : IntKind.u64.wrap hops = hops := by simp only [IntKind.wrap_u64]; omega
  go_enter Try.func75, Try.ntmps75
  go_wp2
  go_ret
  exact ⟨by first | rfl | simp_all, bpush (Below.refl _ _) _⟩
set_option maxHeartbeats 1000000 in
theorem put_hops (g : Nat) (X : Array Value) (n : Int) (w : World) (hg : w.heap[g]? = some (.cells X 28 (0, 0))) (hX : X.size = 18) (h : 0 ≤ n ∧ n ≤ 9223372036854775807) :
    Calls Try.prog 76 #[.pointer (some ⟨g, 0, none⟩), .int .u64 n] w fun e w' => e = .returned (.tuple #[]) ∧ Hid (w' = w.setCell ⟨g, 1, none⟩ (.int .i64 n)) := by
  obtain ⟨u, hu⟩ : ∃ u, X[1]? = some u := ⟨_, Array.getElem?_eq_getElem (by omega)⟩
  have hc : w.cell? ⟨g, 1, none⟩ = some u := by rw [cell_of_heap hg]; exact hu
  have hf : w.frozen? ⟨g, 1, none⟩ = false := frozen_of_heap hg _
  have hw : IntKind.i64.wrap n = n := by simp only [IntKind.wrap_i64]; omega
  clear hg
  go_enter Try.func76, Try.ntmps76
  go_wp2
  go_end0
  exact ⟨rfl, rfl⟩
set_option maxHeartbeats 1000000 in
theorem take_xid (m : Bp) (v : Value) (w : World) (h : 0 ≤ m.xid ∧ m.xid ≤ 4294967295) :
    Calls Try.prog 77 #[m.val v] w fun e w' => e = .returned (.int .u64 m.xid) ∧ Hid (Below w.heap.size w w') := by
  obtain ⟨op, hops, xid, secs, all, ci, yi, si, gi, ⟨b0, b1, b2, b3, b4, b5⟩, sname, file⟩ := m
  simp only [Bp.val, Bp.cells] at *
  have hw : IntKind.u64.wrap xid = xid := by simp only [IntKind.wrap_u64]; omega
  go_enter Try.func77, Try.ntmps77
  go_wp2
  go_ret
  exact ⟨by first | rfl | simp_all, bpush (Below.refl _ _) _⟩
set_option maxHeartbeats 1000000 in
theorem put_xid (g : Nat) (X : Array Value) (n : Int) (w : World) (hg : w.heap[g]? = some (.cells X 28 (0, 0))) (hX : X.size = 18) (h : 0 ≤ n ∧ n ≤ 4294967295) :
    Calls Try.prog 78 #[.pointer (some ⟨g, 0, none⟩), .int .u64 n] w fun e w' => e = .returned (.tuple #[]) ∧ Hid (w' = w.setCell ⟨g, 2, none⟩ (.int .u32 n)) := by
  obtain ⟨u, hu⟩ : ∃ u, X[2]? = some u := ⟨_, Array.getElem?_eq_getElem (by omega)⟩
  have hc : w.cell? ⟨g, 2, none⟩ = some u := by rw [cell_of_heap hg]; exact hu
  have hf : w.frozen? ⟨g, 2, none⟩ = false := frozen_of_heap hg _
  have hw : IntKind.u32.wrap n = n := by simp only [IntKind.wrap_u32]; omega
  clear hg
  go_enter Try.func78, Try.ntmps78
  go_wp2
  go_end0
  exact ⟨rfl, rfl⟩
set_option maxHeartbeats 1000000 in
theorem take_secs (m : Bp) (v : Value) (w : World) (h : 0 ≤ m.secs ∧ m.secs ≤ 9223372036854775807) :
    Calls Try.prog 79 #[m.val v] w fun e w' => e = .returned (.int .u64 m.secs) ∧ Hid (Below w.heap.size w w') := by
  obtain ⟨op, hops, xid, secs, all, ci, yi, si, gi, ⟨b0, b1, b2, b3, b4, b5⟩, sname, file⟩ := m
  simp only [Bp.val, Bp.cells] at *
  have hw : IntKind.u64.wrap secs = secs := by simp only [IntKind.wrap_u64]; omega
  go_enter Try.func79, Try.ntmps79
  go_wp2
  go_ret
  exact ⟨by first | rfl | simp_all, bpush (Below.refl _ _) _⟩
set_option maxHeartbeats 1000000 in
theorem put_secs (g : Nat) (X : Array Value) (n : Int) (w : World) (hg : w.heap[g]? = some (.cells X 28 (0, 0))) (hX : X.size = 18) (h : 0 ≤ n ∧ n ≤ 9223372036854775807) :
    Calls Try.prog 80 #[.pointer (some ⟨g, 0, none⟩), .int .u64 n] w fun e w' => e = .returned (.tuple #[]) ∧ Hid (w' = w.setCell ⟨g, 3, none⟩ (.int .i64 n)) := by
  obtain ⟨u, hu⟩ : ∃ u, X[3]? = some u := ⟨_, Array.getElem?_eq_getElem (by omega)⟩
  have hc : w.cell? ⟨g, 3, none⟩ = some u := by rw [cell_of_heap hg]; exact hu
  have hf : w.frozen? ⟨g, 3, none⟩ = false := frozen_of_heap hg _
  have hw : IntKind.i64.wrap n = n := by simp only [IntKind.wrap_i64]; omega
  clear hg
  go_enter Try.func80, Try.ntmps80
  go_wp2
  go_end0
  exact ⟨rfl, rfl⟩
set_option maxHeartbeats 1000000 in
theorem take_ci (m : Bp) (v : Value) (w : World) (h : 0 ≤ m.ci ∧ m.ci ≤ 4294967295) :
    Calls Try.prog 83 #[m.val v] w fun e w' => e = .returned (.int .u64 m.ci) ∧ Hid (Below w.heap.size w w') := by
  obtain ⟨op, hops, xid, secs, all, ci, yi, si, gi, ⟨b0, b1, b2, b3, b4, b5⟩, sname, file⟩ := m
  simp only [Bp.val, Bp.cells] at *
  have hw : IntKind.u64.wrap ci = ci := by simp only [IntKind.wrap_u64]; omega
  go_enter Try.func83, Try.ntmps83
  go_wp2
  go_ret
  exact ⟨by first | rfl | simp_all, bpush (Below.refl _ _) _⟩
set_option maxHeartbeats 1000000 in
theorem put_ci (g : Nat) (X : Array Value) (n : Int) (w : World) (hg : w.heap[g]? = some (.cells X 28 (0, 0))) (hX : X.size = 18) (h : 0 ≤ n ∧ n ≤ 4294967295) :
    Calls Try.prog 84 #[.pointer (some ⟨g, 0, none⟩), .int .u64 n] w fun e w' => e = .returned (.tuple #[]) ∧ Hid (w' = w.setCell ⟨g, 5, none⟩ (.int .u32 n)) := by
  obtain ⟨u, hu⟩ : ∃ u, X[5]? = some u := ⟨_, Array.getElem?_eq_getElem (by omega)⟩
  have hc : w.cell? ⟨g, 5, none⟩ = some u := by rw [cell_of_heap hg]; exact hu
  have hf : w.frozen? ⟨g, 5, none⟩ = false := frozen_of_heap hg _
  have hw : IntKind.u32.wrap n = n := by simp only [IntKind.wrap_u32]; omega
  clear hg
  go_enter Try.func84, Try.ntmps84
  go_wp2
  go_end0
  exact ⟨rfl, rfl⟩
set_option maxHeartbeats 1000000 in
theorem take_yi (m : Bp) (v : Value) (w : World) (h : 0 ≤ m.yi ∧ m.yi ≤ 4294967295) :
    Calls Try.prog 85 #[m.val v] w fun e w' => e = .returned (.int .u64 m.yi) ∧ Hid (Below w.heap.size w w') := by
  obtain ⟨op, hops, xid, secs, all, ci, yi, si, gi, ⟨b0, b1, b2, b3, b4, b5⟩, sname, file⟩ := m
  simp only [Bp.val, Bp.cells] at *
  have hw : IntKind.u64.wrap yi = yi := by simp only [IntKind.wrap_u64]; omega
  go_enter Try.func85, Try.ntmps85
  go_wp2
  go_ret
  exact ⟨by first | rfl | simp_all, bpush (Below.refl _ _) _⟩
set_option maxHeartbeats 1000000 in
theorem put_yi (g : Nat) (X : Array Value) (n : Int) (w : World) (hg : w.heap[g]? = some (.cells X 28 (0, 0))) (hX : X.size = 18) (h : 0 ≤ n ∧ n ≤ 4294967295) :
    Calls Try.prog 86 #[.pointer (some ⟨g, 0, none⟩), .int .u64 n] w fun e w' => e = .returned (.tuple #[]) ∧ Hid (w' = w.setCell ⟨g, 6, none⟩ (.int .u32 n)) := by
  obtain ⟨u, hu⟩ : ∃ u, X[6]? = some u := ⟨_, Array.getElem?_eq_getElem (by omega)⟩
  have hc : w.cell? ⟨g, 6, none⟩ = some u := by rw [cell_of_heap hg]; exact hu
  have hf : w.frozen? ⟨g, 6, none⟩ = false := frozen_of_heap hg _
  have hw : IntKind.u32.wrap n = n := by simp only [IntKind.wrap_u32]; omega
  clear hg
  go_enter Try.func86, Try.ntmps86
  go_wp2
  go_end0
  exact ⟨rfl, rfl⟩
set_option maxHeartbeats 1000000 in
theorem take_si (m : Bp) (v : Value) (w : World) (h : 0 ≤ m.si ∧ m.si ≤ 4294967295) :
    Calls Try.prog 87 #[m.val v] w fun e w' => e = .returned (.int .u64 m.si) ∧ Hid (Below w.heap.size w w') := by
  obtain ⟨op, hops, xid, secs, all, ci, yi, si, gi, ⟨b0, b1, b2, b3, b4, b5⟩, sname, file⟩ := m
  simp only [Bp.val, Bp.cells] at *
  have hw : IntKind.u64.wrap si = si := by simp only [IntKind.wrap_u64]; omega
  go_enter Try.func87, Try.ntmps87
  go_wp2
  go_ret
  exact ⟨by first | rfl | simp_all, bpush (Below.refl _ _) _⟩
set_option maxHeartbeats 1000000 in
theorem put_si (g : Nat) (X : Array Value) (n : Int) (w : World) (hg : w.heap[g]? = some (.cells X 28 (0, 0))) (hX : X.size = 18) (h : 0 ≤ n ∧ n ≤ 4294967295) :
    Calls Try.prog 88 #[.pointer (some ⟨g, 0, none⟩), .int .u64 n] w fun e w' => e = .returned (.tuple #[]) ∧ Hid (w' = w.setCell ⟨g, 7, none⟩ (.int .u32 n)) := by
  obtain ⟨u, hu⟩ : ∃ u, X[7]? = some u := ⟨_, Array.getElem?_eq_getElem (by omega)⟩
  have hc : w.cell? ⟨g, 7, none⟩ = some u := by rw [cell_of_heap hg]; exact hu
  have hf : w.frozen? ⟨g, 7, none⟩ = false := frozen_of_heap hg _
  have hw : IntKind.u32.wrap n = n := by simp only [IntKind.wrap_u32]; omega
  clear hg
  go_enter Try.func88, Try.ntmps88
  go_wp2
  go_end0
  exact ⟨rfl, rfl⟩
set_option maxHeartbeats 1000000 in
theorem take_gi (m : Bp) (v : Value) (w : World) (h : 0 ≤ m.gi ∧ m.gi ≤ 4294967295) :
    Calls Try.prog 89 #[m.val v] w fun e w' => e = .returned (.int .u64 m.gi) ∧ Hid (Below w.heap.size w w') := by
  obtain ⟨op, hops, xid, secs, all, ci, yi, si, gi, ⟨b0, b1, b2, b3, b4, b5⟩, sname, file⟩ := m
  simp only [Bp.val, Bp.cells] at *
  have hw : IntKind.u64.wrap gi = gi := by simp only [IntKind.wrap_u64]; omega
  go_enter Try.func89, Try.ntmps89
  go_wp2
  go_ret
  exact ⟨by first | rfl | simp_all, bpush (Below.refl _ _) _⟩
set_option maxHeartbeats 1000000 in
theorem put_gi (g : Nat) (X : Array Value) (n : Int) (w : World) (hg : w.heap[g]? = some (.cells X 28 (0, 0))) (hX : X.size = 18) (h : 0 ≤ n ∧ n ≤ 4294967295) :
    Calls Try.prog 90 #[.pointer (some ⟨g, 0, none⟩), .int .u64 n] w fun e w' => e = .returned (.tuple #[]) ∧ Hid (w' = w.setCell ⟨g, 8, none⟩ (.int .u32 n)) := by
  obtain ⟨u, hu⟩ : ∃ u, X[8]? = some u := ⟨_, Array.getElem?_eq_getElem (by omega)⟩
  have hc : w.cell? ⟨g, 8, none⟩ = some u := by rw [cell_of_heap hg]; exact hu
  have hf : w.frozen? ⟨g, 8, none⟩ = false := frozen_of_heap hg _
  have hw : IntKind.u32.wrap n = n := by simp only [IntKind.wrap_u32]; omega
  clear hg
  go_enter Try.func90, Try.ntmps90
  go_wp2
  go_end0
  exact ⟨rfl, rfl⟩
theorem and_top (n : Int) (h0 : 0 ≤ n) (h1 : n ≤ 65535) : (bits BinOp.and IntKind.u64 n 32768 != 0) = decide (32768 ≤ n) := by
  rw [u64_and n 32768 h0 (by omega) (by omega) (by omega)]
  rw [show (32768 : Int).toNat = 2 ^ 15 from rfl]
  by_cases h : 32768 ≤ n
  · have ht : (n.toNat &&& 2 ^ 15).testBit 15 = true := by
      rw [Nat.testBit_and, Nat.testBit_two_pow_self, Bool.and_true, Nat.testBit_eq_decide_div_mod_eq]
      simp only [decide_eq_true_eq]
      omega
    have hne : n.toNat &&& 2 ^ 15 ≠ 0 := fun e => by rw [e] at ht; simp at ht
    generalize n.toNat &&& 2 ^ 15 = K at *
    simp only [h, decide_true, bne_iff_ne, ne_eq]
    omega
  · have hz : n.toNat &&& 2 ^ 15 = 0 := by
      apply Nat.eq_of_testBit_eq
      intro i
      rw [Nat.testBit_and, Nat.testBit_two_pow, Nat.zero_testBit]
      by_cases hi : 15 = i
      · subst hi
        rw [Nat.testBit_lt_two_pow (by omega)]
        rfl
      · simp [hi]
    rw [hz]
    simp [h]
def flagN (b : Bool) : Int := if b then 32768 else 0
set_option maxHeartbeats 1000000 in
theorem take_flags (m : Bp) (v : Value) (w : World) :
    Calls Try.prog 81 #[m.val v] w fun e w' => e = .returned (.int .u64 (flagN m.all)) ∧ Hid (Below w.heap.size w w') := by
  obtain ⟨op, hops, xid, secs, all, ci, yi, si, gi, ⟨b0, b1, b2, b3, b4, b5⟩, sname, file⟩ := m
  simp only [Bp.val, Bp.cells] at *
  cases all
  all_goals
    go_enter Try.func81, Try.ntmps81
    go_wp2
    go_ret
    exact ⟨rfl, bpush (Below.refl _ _) _⟩
set_option maxHeartbeats 1000000 in
theorem put_flags (g : Nat) (X : Array Value) (n : Int) (w : World) (hg : w.heap[g]? = some (.cells X 28 (0, 0))) (hX : X.size = 18) (h : 0 ≤ n ∧ n ≤ 65535) :
    Calls Try.prog 82 #[.pointer (some ⟨g, 0, none⟩), .int .u64 n] w fun e w' => e = .returned (.tuple #[]) ∧ Hid (w' = w.setCell ⟨g, 4, none⟩ (.bool (decide (32768 ≤ n)))) := by
  obtain ⟨u, hu⟩ : ∃ u, X[4]? = some u := ⟨_, Array.getElem?_eq_getElem (by omega)⟩
  have hc : w.cell? ⟨g, 4, none⟩ = some u := by rw [cell_of_heap hg]; exact hu
  have hf : w.frozen? ⟨g, 4, none⟩ = false := frozen_of_heap hg _
  clear hg
  go_enter Try.func82, Try.ntmps82
  have hx : (bits BinOp.and IntKind.u64 n 32768 != 0) = decide (32768 ≤ n) := and_top n h.1 h.2
  generalize decide (32768 ≤ n) = B at *
  go_wp2
  go_end0
  exact ⟨rfl, rfl⟩

def numC : Array Value := #[.int .i64 0, .int .i64 1, fn 73, fn 74, .int .i64 3, .int .i64 1, fn 75, fn 76, .int .i64 4, .int .i64 4, fn 77, fn 78, .int .i64 8, .int .i64 2, fn 79, fn 80, .int .i64 10, .int .i64 2, fn 81, fn 82, .int .i64 12, .int .i64 4, fn 83, fn 84, .int .i64 16, .int .i64 4, fn 85, fn 86, .int .i64 20, .int .i64 4, fn 87, fn 88, .int .i64 24, .int .i64 4, fn 89, fn 90]
set_option maxRecDepth 20000 in
set_option maxHeartbeats 2000000 in
theorem numbers_any (w : World) :
    Calls Try.prog 43 #[] w fun e w' => e = .returned (.slice (some ⟨w.heap.size, 0, none⟩) 9 9) ∧ Hid (w' = w.alloc (.cells numC 78)) := by
  go_enter Try.func43, Try.ntmps43
  go_wp2
  go_ret
  exact ⟨rfl, rfl⟩
end Go.Proofs.Ytoifblndpcelkaa
