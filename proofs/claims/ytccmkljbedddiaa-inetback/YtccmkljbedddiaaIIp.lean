/-
  Heads of packets as values, held against one another.
-/
import Derived.Test.YtccmkljbedddiaaBMem
import Derived.DeepKeys
import Derived.Deep.RegionHeld3
namespace Go.Proofs.Ytccmkljbedddiaa
open Go.RowKit
set_option linter.all false

theorem cellsU8 : Try.prog.cellsOf 5 = 1 := by kernel_rfl
theorem cellsU32 : Try.prog.cellsOf 25 = 1 := by kernel_rfl
theorem cellsInt : Try.prog.cellsOf 3 = 1 := by kernel_rfl
theorem cellsBool : Try.prog.cellsOf 4 = 1 := by kernel_rfl
theorem cellsIp : Try.prog.cellsOf 27 = 7 := by kernel_rfl
theorem keyIp : Try.prog.keyTypeAt 3 27 = true := by kernel_rfl
theorem wf_u32 (b : Int) (h : 0 ≤ b ∧ b ≤ 4294967295) : (Lit.int .u32 b).wf = true := by
  simp [Lit.wf, IntKind.min, IntKind.max, IntKind.bits, IntKind.signed]; omega
theorem wf_i64 (b : Int) (h : -9223372036854775808 ≤ b ∧ b ≤ 9223372036854775807) : (Lit.int .i64 b).wf = true := by
  simp [Lit.wf, IntKind.min, IntKind.max, IntKind.bits, IntKind.signed]; omega
/-- a packet's head. -/
structure Ip where
  tos : Int
  id : Int
  ttl : Int
  proto : Int
  keep : Bool
  src : Int
  dst : Int
deriving DecidableEq
def Ip.cells (p : Ip) : Array Value := #[.int .i64 p.tos, .int .i64 p.id, .int .i64 p.ttl, .int .i64 p.proto, .bool p.keep, .int .u32 p.src, .int .u32 p.dst]
def Ip.val (p : Ip) : Value := .agg #[.int .i64 p.tos, .int .i64 p.id, .int .i64 p.ttl, .int .i64 p.proto, .bool p.keep, .int .u32 p.src, .int .u32 p.dst]
def I64 (n : Int) : Prop := -9223372036854775808 ≤ n ∧ n ≤ 9223372036854775807
def U32 (n : Int) : Prop := 0 ≤ n ∧ n ≤ 4294967295
def Ip.ok (p : Ip) : Prop := I64 p.tos ∧ I64 p.id ∧ I64 p.ttl ∧ I64 p.proto ∧ U32 p.src ∧ U32 p.dst
def zeroIp : Ip := ⟨0, 0, 0, 0, false, 0, 0⟩
theorem zeroIp_ok : zeroIp.ok := by simp [Ip.ok, zeroIp, I64, U32]
set_option maxRecDepth 20000 in
theorem ip_eq (a b : Ip) (ha : a.ok) (hb : b.ok) (w : World) : (Op.equalIn 10000 27 a.val b.val).run Try.prog w = .ok (decide (a = b)) w := by
  have hk : ∀ m : Ip, m.ok → Try.prog.keyLits 4 27 (Value.cells m.val).toList = some [.int .i64 m.tos, .int .i64 m.id, .int .i64 m.ttl, .int .i64 m.proto, .bool m.keep, .int .u32 m.src, .int .u32 m.dst] := fun m hm => by
    obtain ⟨h0, h1, h2, h3, h4, h5⟩ := hm
    simp [Ip.val, Program.keyLits, Try.underlying27, Try.underlying3, Try.underlying4, Try.underlying25, cellsIp, cellsInt, cellsBool, cellsU32, Value.cells, List.range_succ, wf_i64 _ h0, wf_i64 _ h1, wf_i64 _ h2, wf_i64 _ h3, wf_u32 _ h4, wf_u32 _ h5]
  have hf : ∀ m : Ip, (Value.formed Try.prog 27 m.val) = true := fun m => by
    simp [Value.formed, Try.underlying27, cellsIp, Ip.val]
  obtain ⟨r, hr, hi⟩ := run_equalIn_deep (P := Try.prog) 9997 3 27 keyIp w 4 4 _ _ _ _ (hf a) (hf b) (hk a ha) (hk b hb)
  rw [hr]
  congr 1
  cases a; cases b
  by_cases he : r = true
  · subst he
    have := hi.1 rfl
    simp only [List.cons.injEq, Lit.int.injEq, Lit.bool.injEq, true_and, and_true] at this
    simp [this]
  · have hr' : r = false := by simpa using he
    subst hr'
    symm
    rw [decide_eq_false_iff_not]
    intro h
    exact he (hi.2 (by simp only [Ip.mk.injEq] at h; simp [h]))
end Go.Proofs.Ytccmkljbedddiaa
