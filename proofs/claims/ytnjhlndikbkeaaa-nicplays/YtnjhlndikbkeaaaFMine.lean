/-
  Stations held against one another; frame.Mine and the document's Mine.
-/
import Derived.Test.YtnjhlndikbkeaaaBMem
import Derived.DeepKeys
import Derived.Deep.RegionHeld3
namespace Go.Proofs.Ytnjhlndikbkeaaa
open Go.RowKit
set_option linter.unusedVariables false
set_option linter.unusedSimpArgs false

theorem cellsU8 : Try.prog.cellsOf 5 = 1 := by kernel_rfl
theorem cellsMac : Try.prog.cellsOf 24 = 6 := by kernel_rfl
theorem keyMac : Try.prog.keyTypeAt 2 24 = true := by kernel_rfl
theorem wf_u8 (b : Int) (h : 0 ≤ b ∧ b ≤ 255) : (Lit.int .u8 b).wf = true := by
  simp [Lit.wf, IntKind.min, IntKind.max, IntKind.bits, IntKind.signed]; omega
/-- a station's six bytes. -/
structure Mac where
  b0 : Int
  b1 : Int
  b2 : Int
  b3 : Int
  b4 : Int
  b5 : Int
deriving DecidableEq
def Mac.val (m : Mac) : Value := .agg #[.int .u8 m.b0, .int .u8 m.b1, .int .u8 m.b2, .int .u8 m.b3, .int .u8 m.b4, .int .u8 m.b5]
def Mac.zs (m : Mac) : List Int := [m.b0, m.b1, m.b2, m.b3, m.b4, m.b5]
def Mac.ok (m : Mac) : Prop := (0 ≤ m.b0 ∧ m.b0 ≤ 255) ∧ (0 ≤ m.b1 ∧ m.b1 ≤ 255) ∧ (0 ≤ m.b2 ∧ m.b2 ≤ 255) ∧ (0 ≤ m.b3 ∧ m.b3 ≤ 255) ∧ (0 ≤ m.b4 ∧ m.b4 ≤ 255) ∧ (0 ≤ m.b5 ∧ m.b5 ≤ 255)
theorem Mac.bytes {m : Mac} (h : m.ok) : ∀ z, z ∈ m.zs → 0 ≤ z ∧ z ≤ 255 := fun z hz => by
  simp only [Mac.zs, List.mem_cons, List.not_mem_nil, or_false] at hz
  obtain ⟨h0, h1, h2, h3, h4, h5⟩ := h
  rcases hz with rfl | rfl | rfl | rfl | rfl | rfl <;> assumption
def everyMac : Mac := ⟨255, 255, 255, 255, 255, 255⟩
theorem every_ok : everyMac.ok := by simp [Mac.ok, everyMac]
set_option maxRecDepth 20000 in
theorem mac_eq (a b : Mac) (ha : a.ok) (hb : b.ok) (w : World) : (Op.equalIn 10000 24 a.val b.val).run Try.prog w = .ok (decide (a = b)) w := by
  have hk : ∀ m : Mac, m.ok → Try.prog.keyLits 3 24 (Value.cells m.val).toList = some [.int .u8 m.b0, .int .u8 m.b1, .int .u8 m.b2, .int .u8 m.b3, .int .u8 m.b4, .int .u8 m.b5] := fun m hm => by
    obtain ⟨h0, h1, h2, h3, h4, h5⟩ := hm
    simp [Mac.val, Program.keyLits, Try.underlying24, Try.underlying5, cellsMac, cellsU8, Value.cells, List.range_succ, wf_u8 _ h0, wf_u8 _ h1, wf_u8 _ h2, wf_u8 _ h3, wf_u8 _ h4, wf_u8 _ h5]
  have hf : ∀ m : Mac, (Value.formed Try.prog 24 m.val) = true := fun m => by
    simp [Value.formed, Try.underlying24, cellsMac, Mac.val]
  obtain ⟨r, hr, hi⟩ := run_equalIn_deep (P := Try.prog) 9998 2 24 keyMac w 3 3 _ _ _ _ (hf a) (hf b) (hk a ha) (hk b hb)
  rw [hr]
  congr 1
  cases a; cases b
  by_cases he : r = true
  · subst he
    have := hi.1 rfl
    simp only [List.cons.injEq, Lit.int.injEq, true_and, and_true] at this
    simp [this]
  · have hr' : r = false := by simpa using he
    subst hr'
    symm
    rw [decide_eq_false_iff_not]
    intro h
    exact he (hi.2 (by simp only [Mac.mk.injEq] at h; simp [h]))
/-- a frame, as a value: its parts, its Data. -/
def frameV (d s : Mac) (k : Int) (v : Value) : Value := .agg #[.int .u8 d.b0, .int .u8 d.b1, .int .u8 d.b2, .int .u8 d.b3, .int .u8 d.b4, .int .u8 d.b5, .int .u8 s.b0, .int .u8 s.b1, .int .u8 s.b2, .int .u8 s.b3, .int .u8 s.b4, .int .u8 s.b5, .int .i64 k, v]
def frameC (d s : Mac) (k : Int) (v : Value) : Array Value := #[.int .u8 d.b0, .int .u8 d.b1, .int .u8 d.b2, .int .u8 d.b3, .int .u8 d.b4, .int .u8 d.b5, .int .u8 s.b0, .int .u8 s.b1, .int .u8 s.b2, .int .u8 s.b3, .int .u8 s.b4, .int .u8 s.b5, .int .i64 k, v]

theorem and1 : ∀ b : Fin 256, (bits BinOp.and IntKind.u8 (b.val : Int) 1 == 1) = ((b.val : Int) % 2 == 1) := by decide +kernel
theorem and1_any (b : Int) (h : 0 ≤ b ∧ b ≤ 255) : (bits BinOp.and IntKind.u8 b 1 == 1) = (b % 2 == 1) := by
  obtain ⟨n, rfl⟩ := Int.eq_ofNat_of_zero_le h.1
  exact and1 ⟨n, by omega⟩
set_option maxHeartbeats 400000 in
theorem group_any (m : Mac) (w : World) (h : m.ok) : Calls Try.prog 66 #[m.val] w fun e w' => e = .returned (.bool (m.b0 % 2 == 1)) ∧ Below w.heap.size w w' := by
  have h0 := h.1
  have HA : Hid _ := and1_any m.b0 h0
  unfold Mac.val
  clear h
  go_enter Try.func66, Try.ntmps66
  go_wp2
  go_ret
  exact ⟨ret_bool HA.out, (Below.refl _ _).alloc (Nat.le_refl _) _⟩
set_option maxHeartbeats 400000 in
theorem refGroup_any (m : Mac) (w : World) (h : m.ok) : Calls Try.prog 44 #[m.val] w fun e w' => e = .returned (.bool (m.b0 % 2 == 1)) ∧ Below w.heap.size w w' := by
  have h0 := h.1
  unfold Mac.val
  clear h
  go_enter Try.func44, Try.ntmps44
  go_wp2
  go_ret
  exact ⟨rfl, (Below.refl _ _).alloc (Nat.le_refl _) _⟩
theorem everyone_any (w : World) : Calls Try.prog 67 #[] w fun e w' => e = .returned everyMac.val ∧ Below w.heap.size w w' := by
  go_enter Try.func67, Try.ntmps67
  go_wp2
  exact bodyPost_ret (v := .agg #[.int .u8 255, .int .u8 255, .int .u8 255, .int .u8 255, .int .u8 255, .int .u8 255]) (by simp [results, Try.results67, go_sem]) rfl ⟨rfl, (Below.refl _ _).alloc (Nat.le_refl _) _⟩
theorem refEveryone_any (w : World) : Calls Try.prog 45 #[] w fun e w' => e = .returned everyMac.val ∧ Below w.heap.size w w' := by
  go_enter Try.func45, Try.ntmps45
  go_wp2
  exact bodyPost_ret (v := .agg #[.int .u8 255, .int .u8 255, .int .u8 255, .int .u8 255, .int .u8 255, .int .u8 255]) (by simp [results, Try.results45, go_sem]) rfl ⟨rfl, (Below.refl _ _).alloc (Nat.le_refl _) _⟩
end Go.Proofs.Ytnjhlndikbkeaaa
