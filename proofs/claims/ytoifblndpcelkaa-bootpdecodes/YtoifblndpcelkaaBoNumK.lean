/-
  The list of numbers, one by one.
-/
import Derived.Test.YtoifblndpcelkaaBoEnc
namespace Go.Proofs.Ytoifblndpcelkaa
open Go.RowKit
set_option linter.all false

/-- the k-th of the numbers. -/
structure NumK (k pl wd fk fp : Nat) : Prop where
  c0 : numC[k * 4]? = some (.int .i64 pl)
  c1 : numC[k * 4 + 1]? = some (.int .i64 wd)
  c2 : numC[k * 4 + 2]? = some (fn fk)
  c3 : numC[k * 4 + 3]? = some (fn fp)
  w124 : wd = 1 ∨ wd = 2 ∨ wd = 4
  inn : pl + wd ≤ 28
  ent : ∀ (args : Array Value) (w : World), (callFunc fk args).run Try.prog w = .ok (.enter fk args) w
  enp : ∀ (args : Array Value) (w : World), (callFunc fp args).run Try.prog w = .ok (.enter fp args) w
/-- how it is taken, and what stands where behind it. -/
structure NumT (m : Bp) (v : Value) (k pl wd fk : Nat) (nv : Int) : Prop where
  tk : ∀ W, Calls Try.prog fk #[m.val v] W fun e w' => e = .returned (.int .u64 nv) ∧ Hid (Below W.heap.size W w')
  bd : 0 ≤ nv ∧ nv ≤ 4294967295
  seg : ∀ (H : List Int) (T : List (List Int)), H.length = 2 → splice (segN k m H T).flatten pl (byN nv wd) = (segN (k + 1) m H T).flatten
theorem seg_k {m : Bp} {k i pl wd : Nat} {nv : Int} (h : ∀ (H : List Int) (T : List (List Int)), H.length = 2 → (((segN k m H T).take i).map List.length).sum = pl ∧ i < (segN k m H T).length ∧ (byN nv wd).length = ((segN k m H T).getD i []).length ∧ (segN k m H T).set i (byN nv wd) = segN (k + 1) m H T) :
    ∀ (H : List Int) (T : List (List Int)), H.length = 2 → splice (segN k m H T).flatten pl (byN nv wd) = (segN (k + 1) m H T).flatten := fun H T hH => by
  obtain ⟨h1, h2, h3, h4⟩ := h H T hH
  rw [splice_seg _ i _ _ h1 h2 h3, h4]
theorem num_k (m : Bp) (v : Value) (hm : m.ok) (h1 : 0 ≤ m.op ∧ m.op ≤ 255) (h2 : 0 ≤ m.hops ∧ m.hops ≤ 255) (h3 : 0 ≤ m.secs ∧ m.secs ≤ 65535) (k : Nat) (hk : k < 9) : ∃ pl wd fk fp nv, NumK k pl wd fk fp ∧ NumT m v k pl wd fk nv := by
  have fl : 0 ≤ flagN m.all ∧ flagN m.all ≤ 4294967295 := by unfold flagN; split <;> omega
  rcases (show k = 0 ∨ k = 1 ∨ k = 2 ∨ k = 3 ∨ k = 4 ∨ k = 5 ∨ k = 6 ∨ k = 7 ∨ k = 8 by omega) with rfl | rfl | rfl | rfl | rfl | rfl | rfl | rfl | rfl
  · exact ⟨0, 1, 73, 74, m.op, ⟨rfl, rfl, rfl, rfl, by omega, by omega, enters_of Try.func73 (by kernel_rfl) rfl, enters_of Try.func74 (by kernel_rfl) rfl⟩, ⟨fun W => take_op m v W (by omega), by omega, seg_k (i := 0) fun H T hH => ⟨by simp [segN, hH, byN, op1, op2, ip4], by simp [segN], by rfl, by rfl⟩⟩⟩
  · exact ⟨3, 1, 75, 76, m.hops, ⟨rfl, rfl, rfl, rfl, by omega, by omega, enters_of Try.func75 (by kernel_rfl) rfl, enters_of Try.func76 (by kernel_rfl) rfl⟩, ⟨fun W => take_hops m v W (by omega), by omega, seg_k (i := 2) fun H T hH => ⟨by simp [segN, hH, byN, op1, op2, ip4], by simp [segN], by rfl, by rfl⟩⟩⟩
  · exact ⟨4, 4, 77, 78, m.xid, ⟨rfl, rfl, rfl, rfl, by omega, by omega, enters_of Try.func77 (by kernel_rfl) rfl, enters_of Try.func78 (by kernel_rfl) rfl⟩, ⟨fun W => take_xid m v W hm.xid, hm.xid, seg_k (i := 3) fun H T hH => ⟨by simp [segN, hH, byN, op1, op2, ip4], by simp [segN], by rfl, by rfl⟩⟩⟩
  · exact ⟨8, 2, 79, 80, m.secs, ⟨rfl, rfl, rfl, rfl, by omega, by omega, enters_of Try.func79 (by kernel_rfl) rfl, enters_of Try.func80 (by kernel_rfl) rfl⟩, ⟨fun W => take_secs m v W (by omega), by omega, seg_k (i := 4) fun H T hH => ⟨by simp [segN, hH, byN, op1, op2, ip4], by simp [segN], by rfl, by rfl⟩⟩⟩
  · exact ⟨10, 2, 81, 82, flagN m.all, ⟨rfl, rfl, rfl, rfl, by omega, by omega, enters_of Try.func81 (by kernel_rfl) rfl, enters_of Try.func82 (by kernel_rfl) rfl⟩, ⟨fun W => take_flags m v W, fl, seg_k (i := 5) fun H T hH => ⟨by simp [segN, hH, byN, op1, op2, ip4], by simp [segN], by rfl, by rfl⟩⟩⟩
  · exact ⟨12, 4, 83, 84, m.ci, ⟨rfl, rfl, rfl, rfl, by omega, by omega, enters_of Try.func83 (by kernel_rfl) rfl, enters_of Try.func84 (by kernel_rfl) rfl⟩, ⟨fun W => take_ci m v W hm.ci, hm.ci, seg_k (i := 6) fun H T hH => ⟨by simp [segN, hH, byN, op1, op2, ip4], by simp [segN], by rfl, by rfl⟩⟩⟩
  · exact ⟨16, 4, 85, 86, m.yi, ⟨rfl, rfl, rfl, rfl, by omega, by omega, enters_of Try.func85 (by kernel_rfl) rfl, enters_of Try.func86 (by kernel_rfl) rfl⟩, ⟨fun W => take_yi m v W hm.yi, hm.yi, seg_k (i := 7) fun H T hH => ⟨by simp [segN, hH, byN, op1, op2, ip4], by simp [segN], by rfl, by rfl⟩⟩⟩
  · exact ⟨20, 4, 87, 88, m.si, ⟨rfl, rfl, rfl, rfl, by omega, by omega, enters_of Try.func87 (by kernel_rfl) rfl, enters_of Try.func88 (by kernel_rfl) rfl⟩, ⟨fun W => take_si m v W hm.si, hm.si, seg_k (i := 8) fun H T hH => ⟨by simp [segN, hH, byN, op1, op2, ip4], by simp [segN], by rfl, by rfl⟩⟩⟩
  · exact ⟨24, 4, 89, 90, m.gi, ⟨rfl, rfl, rfl, rfl, by omega, by omega, enters_of Try.func89 (by kernel_rfl) rfl, enters_of Try.func90 (by kernel_rfl) rfl⟩, ⟨fun W => take_gi m v W hm.gi, hm.gi, seg_k (i := 9) fun H T hH => ⟨by simp [segN, hH, byN, op1, op2, ip4], by simp [segN], by rfl, by rfl⟩⟩⟩
/-- a whole struct's load, wherever it lies as it is. -/
theorem yields_row {ops : Array Oper} {S : World → Prop} {o : Oper} {a : Act} (hgd : o.guard = none) (ty : TypeId) (x : Operand) (ho : o.op = .load ty x)
    (g : Nat) (hx : a.eval x = .pointer (some ⟨g, 0, none⟩)) (cs : Array Value) (hg : ∀ w, S w → (loadVar ty ⟨g, 0, none⟩).run Try.prog w = .ok (.agg cs) w) : YieldsIf Try.prog ops S o (.agg cs) a := by
  refine Or.inl ⟨by simp [Region.wanted, hgd], fun w hS => ?_⟩
  unfold execOp
  simp only [ho, hx, Instr.loadAt, Instr.sureAddr, Sem.run_bind, Sem.run_pure, Result.andThen_ok, hg w hS]
theorem load_bp (w : World) (g : Nat) (C : Array Value) (h : w.heap[g]? = some (.cells C 28 (0, 0))) (hC : C.size = 18) : (loadVar 28 ⟨g, 0, none⟩).run Try.prog w = .ok (.agg C) w :=
  run_loadVar_row w g 28 28 C (0, 0) _ h Try.underlying28 rfl (by rw [hC]; exact sizeBp)
end Go.Proofs.Ytoifblndpcelkaa
