/-
  Route: an address with its mask and a router, and what is asked of it.
-/
import Derived.Test.YtgcpoanjjgbfjaaAMac
import Derived.Test.YtgcpoanjjgbfjaaBMask
import Derived.DeepKeys
import Derived.Deep.RegionHeld3
namespace Go.Proofs.Ytgcpoanjjgbfjaa
open Go.RowKit
set_option linter.all false

theorem cellsPl : Try.prog.cellsOf 109 = 3 := by kernel_rfl
theorem keyPl : Try.prog.keyTypeAt 3 109 = true := by kernel_rfl
def U32 (n : Int) : Prop := 0 ≤ n ∧ n ≤ 4294967295
/-- an address, its mask, a router. -/
structure Pl where
  ip : Int
  m : Int
  r : Int
deriving DecidableEq
def Pl.cells (p : Pl) : Array Value := #[.int .u32 p.ip, .int .u32 p.m, .int .u32 p.r]
def Pl.val (p : Pl) : Value := .agg #[.int .u32 p.ip, .int .u32 p.m, .int .u32 p.r]
def Pl.ok (p : Pl) : Prop := U32 p.ip ∧ U32 p.m ∧ U32 p.r
def Pl.zero : Pl := ⟨0, 0, 0⟩
theorem Pl.zero_ok : Pl.zero.ok := by simp [Pl.ok, Pl.zero, U32]
set_option maxRecDepth 20000 in
theorem pl_eq (a b : Pl) (ha : a.ok) (hb : b.ok) (w : World) : (Op.equalIn 10000 109 a.val b.val).run Try.prog w = .ok (decide (a = b)) w := by
  have hk : ∀ m : Pl, m.ok → Try.prog.keyLits 4 109 (Value.cells m.val).toList = some [.int .u32 m.ip, .int .u32 m.m, .int .u32 m.r] := fun m hm => by
    obtain ⟨h0, h1, h2⟩ := hm
    simp [Pl.val, Program.keyLits, Try.underlying109, Try.underlying30, cellsPl, cellsU32, Value.cells, List.range_succ, wf_u32 _ h0, wf_u32 _ h1, wf_u32 _ h2]
  have hf : ∀ m : Pl, (Value.formed Try.prog 109 m.val) = true := fun m => by
    simp [Value.formed, Try.underlying109, cellsPl, Pl.val]
  obtain ⟨r, hr, hi⟩ := run_equalIn_deep (P := Try.prog) 9997 3 109 keyPl w 4 4 _ _ _ _ (hf a) (hf b) (hk a ha) (hk b hb)
  rw [hr]
  congr 1
  cases a; cases b
  by_cases he : r = true
  · subst he
    have := hi.1 rfl
    simp only [List.cons.injEq, Lit.int.injEq, true_and, and_true] at this
    simp [this]
  · have hr' : r = false := by simpa using he
    subst hr'
    symm
    rw [decide_eq_false_iff_not]
    intro h
    exact he (hi.2 (by simp only [Pl.mk.injEq] at h; simp [h]))

def wideB (m : Int) : Bool := decide (onesV m < 31)
def inB (ip m x : Int) : Bool := bits BinOp.and IntKind.u32 x m == bits BinOp.and IntKind.u32 ip m
def bcV (ip m : Int) : Int := bits BinOp.or IntKind.u32 ip (bits BinOp.xor IntKind.u32 IntKind.u32.max m)
def bareB (m x : Int) : Bool := wideB m && (bits BinOp.andNot IntKind.u32 x m == 0)
def allB (ip m x : Int) : Bool := wideB m && (x == bcV ip m)
def hostN (ip m x : Int) : Bool := hostB x && inB ip m x && !bareB m x && !allB ip m x

set_option maxHeartbeats 400000 in
theorem wide_any (p : Pl) (w : World) (hp : p.ok) :
    Calls Try.prog 84 #[p.val] w fun e w' => e = .returned (.bool (wideB p.m)) ∧ Below w.heap.size w w' := by
  have HO : Hid (∀ w, Calls Try.prog 83 #[.int .u32 p.m] w fun e w' => e = .returned (.int .i64 (onesV p.m)) ∧ w' = w) := fun w => ones_any p.m w hp.2.1.1 hp.2.1.2
  have HM : Hid (wideB p.m = decide (onesV p.m < 31)) := rfl
  clear hp
  generalize wideB p.m = R at *
  generalize onesV p.m = n at *
  obtain ⟨i, m, r⟩ := p
  simp only [Pl.val] at *
  go_enter Try.func84, Try.ntmps84
  go_wp2_with (go_at_call 83; refine (HO.out _).mono ?_; rintro e w' ⟨rfl, rfl⟩)
  go_ret
  exact ⟨ret_bool (by rw [HM.out]), bpush (Below.refl _ _) _⟩

set_option maxHeartbeats 400000 in
theorem holds_any (p : Pl) (x : Int) (w : World) :
    Calls Try.prog 85 #[p.val, .int .u32 x] w fun e w' => e = .returned (.bool (inB p.ip p.m x)) ∧ Below w.heap.size w w' := by
  have HM : Hid (inB p.ip p.m x = (bits BinOp.and IntKind.u32 x p.m == bits BinOp.and IntKind.u32 p.ip p.m)) := rfl
  generalize inB p.ip p.m x = R at *
  obtain ⟨i, m, r⟩ := p
  simp only [Pl.val] at *
  go_enter Try.func85, Try.ntmps85
  go_wp2
  go_ret
  exact ⟨ret_bool (by rw [HM.out]), bpush (Below.refl _ _) _⟩

set_option maxHeartbeats 400000 in
theorem toAll_any (p : Pl) (x : Int) (w : World) (hp : p.ok) :
    Calls Try.prog 86 #[p.val, .int .u32 x] w fun e w' => e = .returned (.bool (allB p.ip p.m x)) ∧ Below w.heap.size w w' := by
  have HW : Hid (∀ w, Calls Try.prog 84 #[p.val] w fun e w' => e = .returned (.bool (wideB p.m)) ∧ Below w.heap.size w w') := fun w => wide_any p w hp
  have HM : Hid (allB p.ip p.m x = (wideB p.m && (x == bits BinOp.or IntKind.u32 p.ip (bits BinOp.xor IntKind.u32 IntKind.u32.max p.m)))) := rfl
  clear hp
  generalize allB p.ip p.m x = R at *
  generalize wideB p.m = b at *
  obtain ⟨i, m, r⟩ := p
  simp only [Pl.val] at *
  cases b
  all_goals
    go_enter Try.func86, Try.ntmps86
    go_wp2_with fail
    refine (HW.out _).mono ?_
    rintro e w1 ⟨rfl, hb⟩
    have hc : ∀ o, w1.cell? ⟨w.heap.size, o, none⟩ = (#[.int .u32 i, .int .u32 m, .int .u32 r] : Array Value)[o]? := fun o => by
      rw [hb.cell (p := ⟨w.heap.size, o, none⟩) (by simp), World.cell?_alloc_at _ _ _ _ rfl]
    have HB : Hid (Below w.heap.size w w1) := bstep (bpush (Below.refl _ _) _) hb
    clear hb
    go_wp2
    go_ret
    exact ⟨ret_bool (by rw [HM.out]; simp), HB.out⟩
end Go.Proofs.Ytgcpoanjjgbfjaa
