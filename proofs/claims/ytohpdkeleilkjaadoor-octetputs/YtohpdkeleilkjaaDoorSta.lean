/-
  The contracts of octet.looseDigit and octet.looseStation.
-/
import Derived.Test.YtohpdkeleilkjaaDoorDot
import Derived.Deep.RegionWith
import Derived.Deep.RegionHeld3
namespace Go.Proofs.YtohpdkeleilkjaaDoor
open Go.RowKit
set_option linter.unusedVariables false

/-- what looseDigit answers. -/
def ldig (c : Int) : Int := if 97 ≤ c then ((c - 97) % 256 + 10) % 256 else (c - 48) % 256

theorem ldig_bd (c : Int) : 0 ≤ ldig c ∧ ldig c ≤ 255 := by unfold ldig; split <;> omega

set_option maxHeartbeats 400000 in
theorem looseDigit_any (c : Int) (w : World) (h0 : 0 ≤ c) (h1 : c ≤ 255) :
    Calls Tryd.prog 24 #[.int .u8 c] w fun e w' => e = .returned (.int .u8 (ldig c)) ∧ w' = w := by
  by_cases h : 97 ≤ c
  · have HL : Hid (ldig c = c - 97 + 10) := by unfold Hid ldig; rw [if_pos h]; omega
    go_enter Tryd.func24, Tryd.ntmps24
    go_wp2
    go_ret
    exact ⟨ret_int HL.out.symm, rfl⟩
  · have HL : Hid (ldig c = (c - 48) % 256) := by unfold Hid ldig; rw [if_neg h]
    go_enter Tryd.func24, Tryd.ntmps24
    go_wp2
    go_ret
    exact ⟨ret_int HL.out.symm, rfl⟩

def zeros6 : Value := .agg #[.int .u8 0, .int .u8 0, .int .u8 0, .int .u8 0, .int .u8 0, .int .u8 0]

set_option maxHeartbeats 400000 in
theorem looseStation_no (s : ByteArray) (w : World) (hs : ((s.size : Int) != 17) = true) :
    Calls Tryd.prog 21 #[.string s] w fun e w' => e = .returned (.agg #[.int .u8 0, .int .u8 0, .int .u8 0, .int .u8 0, .int .u8 0, .int .u8 0]) ∧ Below w.heap.size w w' := by
  go_enter Tryd.func21, Tryd.ntmps21
  go_wp2
  exact bodyPost_ret (v := .agg #[.int .u8 0, .int .u8 0, .int .u8 0, .int .u8 0, .int .u8 0, .int .u8 0]) (by simp [results, Tryd.results21, go_sem]) rfl ⟨rfl, ((Below.refl _ _).alloc (Nat.le_refl _) _).alloc (by simp) _⟩

theorem looseDigit_byte (c : UInt8) (w : World) : Calls Tryd.prog 24 #[.int .u8 (c.toNat : Int)] w fun e w' => e = .returned (.int .u8 (ldig c.toNat)) ∧ w' = w :=
  looseDigit_any c.toNat w (by omega) (by have := c.toNat_lt; omega)

theorem setCell_drewN (w : World) (n : Nat) (a : Addr) (v : Value) : (w.drewN n).setCell a v = (w.setCell a v).drewN n := rfl
theorem alloc_drewN (w : World) (n : Nat) (o : Obj) : (w.drewN n).alloc o = (w.alloc o).drewN n := rfl
attribute [local go_sem] setCell_drewN alloc_drewN

/-- what looseStation makes of two signs. -/
def pr (x y : UInt8) : Int := bits BinOp.or IntKind.u8 (ldig x.toNat * 16 % 256) (ldig y.toNat)
def macTo (p0 p1 p2 p3 p4 p5 : Int) : Nat → Array Value
  | 0 => #[.int .u8 0, .int .u8 0, .int .u8 0, .int .u8 0, .int .u8 0, .int .u8 0]
  | 1 => #[.int .u8 p0, .int .u8 0, .int .u8 0, .int .u8 0, .int .u8 0, .int .u8 0]
  | 2 => #[.int .u8 p0, .int .u8 p1, .int .u8 0, .int .u8 0, .int .u8 0, .int .u8 0]
  | 3 => #[.int .u8 p0, .int .u8 p1, .int .u8 p2, .int .u8 0, .int .u8 0, .int .u8 0]
  | 4 => #[.int .u8 p0, .int .u8 p1, .int .u8 p2, .int .u8 p3, .int .u8 0, .int .u8 0]
  | 5 => #[.int .u8 p0, .int .u8 p1, .int .u8 p2, .int .u8 p3, .int .u8 p4, .int .u8 0]
  | _ => #[.int .u8 p0, .int .u8 p1, .int .u8 p2, .int .u8 p3, .int .u8 p4, .int .u8 p5]

set_option maxHeartbeats 1000000 in
theorem looseStation_yes (c0 c1 c2 c3 c4 c5 c6 c7 c8 c9 c10 c11 c12 c13 c14 c15 c16 : UInt8) (w : World) :
    Calls Tryd.prog 21 #[.string ⟨#[c0, c1, c2, c3, c4, c5, c6, c7, c8, c9, c10, c11, c12, c13, c14, c15, c16]⟩] w fun e w' => e = .returned (.agg (macTo (pr c0 c1) (pr c3 c4) (pr c6 c7) (pr c9 c10) (pr c12 c13) (pr c15 c16) 6)) ∧ Below w.heap.size w w' := by
  have d0 := ldig_bd (c0.toNat : Int)
  have d1 := ldig_bd (c1.toNat : Int)
  have d3 := ldig_bd (c3.toNat : Int)
  have d4 := ldig_bd (c4.toNat : Int)
  have d6 := ldig_bd (c6.toNat : Int)
  have d7 := ldig_bd (c7.toNat : Int)
  have d9 := ldig_bd (c9.toNat : Int)
  have d10 := ldig_bd (c10.toNat : Int)
  have d12 := ldig_bd (c12.toNat : Int)
  have d13 := ldig_bd (c13.toNat : Int)
  have d15 := ldig_bd (c15.toNat : Int)
  have d16 := ldig_bd (c16.toNat : Int)
  go_enter Tryd.func21, Tryd.ntmps21
  go_wp2
  go_loopw [10] (fun i wr => ∃ k n : Nat, k ≤ 6 ∧ i = .int .i64 k ∧ wr = ((w.alloc (.cells #[.int .u8 0, .int .u8 0, .int .u8 0, .int .u8 0, .int .u8 0, .int .u8 0] 42)).alloc (.cells (macTo (pr c0 c1) (pr c3 c4) (pr c6 c7) (pr c9 c10) (pr c12 c13) (pr c15 c16) k) 42)).drewN n) (fun i _ => 6 - (intOf i).toNat)
  case atStart => exact ⟨0, 0, by omega, rfl, rfl⟩
  case round =>
    obtain ⟨k, n, hk, rfl, rfl⟩ := hrel
    have hcase : k = 0 ∨ k = 1 ∨ k = 2 ∨ k = 3 ∨ k = 4 ∨ k = 5 ∨ k = 6 := by omega
    clear hk
    rcases hcase with rfl | rfl | rfl | rfl | rfl | rfl | rfl
    · simp only [macTo, Int.cast_ofNat_Int]
      go_wp2
      go_region_held3 (fun w' => True) (exact trivial) (first | (go_at_call 24; refine (looseDigit_byte _ _).mono ?_; rintro e w' ⟨rfl, rfl⟩))
      all_goals go_wp2
      all_goals go_roundw
      all_goals first | exact ⟨1, n + 1, by omega, rfl, rfl⟩ | (simp [intOf])
    · simp only [macTo, Int.cast_ofNat_Int]
      go_wp2
      go_region_held3 (fun w' => True) (exact trivial) (first | (go_at_call 24; refine (looseDigit_byte _ _).mono ?_; rintro e w' ⟨rfl, rfl⟩))
      all_goals go_wp2
      all_goals go_roundw
      all_goals first | exact ⟨2, n + 1, by omega, rfl, rfl⟩ | (simp [intOf])
    · simp only [macTo, Int.cast_ofNat_Int]
      go_wp2
      go_region_held3 (fun w' => True) (exact trivial) (first | (go_at_call 24; refine (looseDigit_byte _ _).mono ?_; rintro e w' ⟨rfl, rfl⟩))
      all_goals go_wp2
      all_goals go_roundw
      all_goals first | exact ⟨3, n + 1, by omega, rfl, rfl⟩ | (simp [intOf])
    · simp only [macTo, Int.cast_ofNat_Int]
      go_wp2
      go_region_held3 (fun w' => True) (exact trivial) (first | (go_at_call 24; refine (looseDigit_byte _ _).mono ?_; rintro e w' ⟨rfl, rfl⟩))
      all_goals go_wp2
      all_goals go_roundw
      all_goals first | exact ⟨4, n + 1, by omega, rfl, rfl⟩ | (simp [intOf])
    · simp only [macTo, Int.cast_ofNat_Int]
      go_wp2
      go_region_held3 (fun w' => True) (exact trivial) (first | (go_at_call 24; refine (looseDigit_byte _ _).mono ?_; rintro e w' ⟨rfl, rfl⟩))
      all_goals go_wp2
      all_goals go_roundw
      all_goals first | exact ⟨5, n + 1, by omega, rfl, rfl⟩ | (simp [intOf])
    · simp only [macTo, Int.cast_ofNat_Int]
      go_wp2
      go_region_held3 (fun w' => True) (exact trivial) (first | (go_at_call 24; refine (looseDigit_byte _ _).mono ?_; rintro e w' ⟨rfl, rfl⟩))
      all_goals go_wp2
      all_goals go_roundw
      all_goals first | exact ⟨6, n + 1, by omega, rfl, rfl⟩ | (simp [intOf])
    · simp only [macTo, Int.cast_ofNat_Int]
      go_wp2
      exact bodyPost_ret (v := .agg #[.int .u8 (pr c0 c1), .int .u8 (pr c3 c4), .int .u8 (pr c6 c7), .int .u8 (pr c9 c10), .int .u8 (pr c12 c13), .int .u8 (pr c15 c16)]) (by simp [results, Tryd.results21, go_sem]) rfl ⟨rfl, by repeat (first | exact Below.refl _ _ | apply Below.drew | apply below_drewN | refine Below.alloc ?_ (by first | (simp; done) | (simp; omega)) _)⟩
end Go.Proofs.YtohpdkeleilkjaaDoor
