/-
  Messages of bootp as values. (The head of BoMsg.)
-/
import Derived.Test.YtgcpoanjjgbfjaaAMac
import Derived.Test.YtgcpoanjjgbfjaaOMem
import Derived.Deep.RegionHeld3
namespace Go.Proofs.Ytgcpoanjjgbfjaa
open Go.RowKit
set_option linter.all false

/-- a message but for its options. -/
structure Bp where
  op : Int
  hops : Int
  xid : Int
  secs : Int
  all : Bool
  ci : Int
  yi : Int
  si : Int
  gi : Int
  mac : Mac
  sname : ByteArray
  file : ByteArray
def Bp.cells (m : Bp) (v : Value) : Array Value := #[.int .i64 m.op, .int .i64 m.hops, .int .u32 m.xid, .int .i64 m.secs, .bool m.all, .int .u32 m.ci, .int .u32 m.yi, .int .u32 m.si, .int .u32 m.gi, .int .u8 m.mac.b0, .int .u8 m.mac.b1, .int .u8 m.mac.b2, .int .u8 m.mac.b3, .int .u8 m.mac.b4, .int .u8 m.mac.b5, .string m.sname, .string m.file, v]
def Bp.val (m : Bp) (v : Value) : Value := .agg (m.cells v)
structure Bp.ok (m : Bp) : Prop where
  op : -9223372036854775808 ≤ m.op ∧ m.op ≤ 9223372036854775807
  hops : -9223372036854775808 ≤ m.hops ∧ m.hops ≤ 9223372036854775807
  xid : 0 ≤ m.xid ∧ m.xid ≤ 4294967295
  secs : -9223372036854775808 ≤ m.secs ∧ m.secs ≤ 9223372036854775807
  ci : 0 ≤ m.ci ∧ m.ci ≤ 4294967295
  yi : 0 ≤ m.yi ∧ m.yi ≤ 4294967295
  si : 0 ≤ m.si ∧ m.si ≤ 4294967295
  gi : 0 ≤ m.gi ∧ m.gi ≤ 4294967295
  mac : m.mac.ok
  sname : m.sname.size ≤ 140737488353280
  file : m.file.size ≤ 140737488353280
def noText : ByteArray := ⟨#[]⟩
def zeroBp : Bp := ⟨0, 0, 0, 0, false, 0, 0, 0, 0, zeroMac, noText, noText⟩
theorem zeroBp_ok : zeroBp.ok := ⟨by simp [zeroBp], by simp [zeroBp], by simp [zeroBp], by simp [zeroBp], by simp [zeroBp], by simp [zeroBp], by simp [zeroBp], by simp [zeroBp], zeroMac_ok, by simp [zeroBp, noText, ByteArray.size], by simp [zeroBp, noText, ByteArray.size]⟩
theorem cellsBp : Try.prog.cellsOf 41 = 18 := by kernel_rfl

end Go.Proofs.Ytgcpoanjjgbfjaa
