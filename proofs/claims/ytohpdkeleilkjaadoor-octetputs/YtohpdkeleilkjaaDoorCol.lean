/-
  The contracts of octet.Colons, octet.looseStation and octet.Uncolons.
-/
import Derived.Test.YtohpdkeleilkjaaDoorDot
import Derived.Deep.RegionLaw
import Derived.RegionTactic
import Derived.Laws.BytesArg
namespace Go.Proofs.YtohpdkeleilkjaaDoor
open Go.RowKit
set_option linter.unusedVariables false

/-- the sign of a sixteenth. -/
def hexd (y : Int) : Int := if y < 10 then 48 + y else 87 + y
theorem hex_index (y : Int) (h0 : 0 ≤ y) (h1 : y < 16) (w : World) :
    (Instr.index 9 (.string ⟨#[48, 49, 50, 51, 52, 53, 54, 55, 56, 57, 97, 98, 99, 100, 101, 102]⟩) (.int .u8 y)).run Tryd.prog w = .ok (.int .u8 (hexd y)) w := by
  have h : y = 0 ∨ y = 1 ∨ y = 2 ∨ y = 3 ∨ y = 4 ∨ y = 5 ∨ y = 6 ∨ y = 7 ∨ y = 8 ∨ y = 9 ∨ y = 10 ∨ y = 11 ∨ y = 12 ∨ y = 13 ∨ y = 14 ∨ y = 15 := by omega
  rcases h with rfl | rfl | rfl | rfl | rfl | rfl | rfl | rfl | rfl | rfl | rfl | rfl | rfl | rfl | rfl | rfl <;> (show _ = _; kernel_rfl)
theorem and_15 (v : Int) (h0 : 0 ≤ v) (h1 : v ≤ 255) : bits BinOp.and IntKind.u8 v 15 = v % 16 := by
  rw [u8_and v 15 h0 (by omega) (by omega) (by omega)]
  rw [show (15 : Int).toNat = 2 ^ 4 - 1 from rfl, Nat.and_two_pow_sub_one_eq_mod]
  omega

/-- the two signs of a byte. -/
def hx2 (b : Int) : List UInt8 := [UInt8.ofNat (hexd (b / 16)).toNat, UInt8.ofNat (hexd (b % 16)).toNat]
def colL (b0 b1 b2 b3 b4 b5 : Int) : List UInt8 := hx2 b0 ++ [58] ++ hx2 b1 ++ [58] ++ hx2 b2 ++ [58] ++ hx2 b3 ++ [58] ++ hx2 b4 ++ [58] ++ hx2 b5

set_option maxHeartbeats 4000000 in
theorem colons_any (b0 b1 b2 b3 b4 b5 : Int) (w : World) (h0 : 0 ≤ b0 ∧ b0 ≤ 255) (h1 : 0 ≤ b1 ∧ b1 ≤ 255) (h2 : 0 ≤ b2 ∧ b2 ≤ 255) (h3 : 0 ≤ b3 ∧ b3 ≤ 255) (h4 : 0 ≤ b4 ∧ b4 ≤ 255) (h5 : 0 ≤ b5 ∧ b5 ≤ 255) :
    Calls Tryd.prog 14 #[.agg #[.int .u8 b0, .int .u8 b1, .int .u8 b2, .int .u8 b3, .int .u8 b4, .int .u8 b5]] w fun e w' => e = .returned (.string ⟨(colL b0 b1 b2 b3 b4 b5).toArray⟩) ∧ Below w.heap.size w w' := by
  have hmk : ∀ w, (Instr.makeSlice 24 (.int .i64 0) (.int .i64 18)).run Tryd.prog w = .ok (.slice (some ⟨w.heap.size, 0, none⟩) 0 18) (w.alloc (.cells #[.int .u8 0, .int .u8 0, .int .u8 0, .int .u8 0, .int .u8 0, .int .u8 0, .int .u8 0, .int .u8 0, .int .u8 0, .int .u8 0, .int .u8 0, .int .u8 0, .int .u8 0, .int .u8 0, .int .u8 0, .int .u8 0, .int .u8 0, .int .u8 0] 5)) := fun _ => by kernel_rfl
  have i0 : ∀ w, (Instr.index 42 (.agg #[.int .u8 b0, .int .u8 b1, .int .u8 b2, .int .u8 b3, .int .u8 b4, .int .u8 b5]) (.int .i64 0)).run Tryd.prog w = .ok (.int .u8 b0) w := fun _ => by kernel_rfl
  have i1 : ∀ w, (Instr.index 42 (.agg #[.int .u8 b0, .int .u8 b1, .int .u8 b2, .int .u8 b3, .int .u8 b4, .int .u8 b5]) (.int .i64 1)).run Tryd.prog w = .ok (.int .u8 b1) w := fun _ => by kernel_rfl
  have i2 : ∀ w, (Instr.index 42 (.agg #[.int .u8 b0, .int .u8 b1, .int .u8 b2, .int .u8 b3, .int .u8 b4, .int .u8 b5]) (.int .i64 2)).run Tryd.prog w = .ok (.int .u8 b2) w := fun _ => by kernel_rfl
  have i3 : ∀ w, (Instr.index 42 (.agg #[.int .u8 b0, .int .u8 b1, .int .u8 b2, .int .u8 b3, .int .u8 b4, .int .u8 b5]) (.int .i64 3)).run Tryd.prog w = .ok (.int .u8 b3) w := fun _ => by kernel_rfl
  have i4 : ∀ w, (Instr.index 42 (.agg #[.int .u8 b0, .int .u8 b1, .int .u8 b2, .int .u8 b3, .int .u8 b4, .int .u8 b5]) (.int .i64 4)).run Tryd.prog w = .ok (.int .u8 b4) w := fun _ => by kernel_rfl
  have i5 : ∀ w, (Instr.index 42 (.agg #[.int .u8 b0, .int .u8 b1, .int .u8 b2, .int .u8 b3, .int .u8 b4, .int .u8 b5]) (.int .i64 5)).run Tryd.prog w = .ok (.int .u8 b5) w := fun _ => by kernel_rfl
  have hA0 := and_15 b0 h0.1 h0.2
  have hx0 := hex_index (b0 / 16) (by omega) (by omega)
  have hy0 := hex_index (b0 % 16) (by omega) (by omega)
  have hA1 := and_15 b1 h1.1 h1.2
  have hx1 := hex_index (b1 / 16) (by omega) (by omega)
  have hy1 := hex_index (b1 % 16) (by omega) (by omega)
  have hA2 := and_15 b2 h2.1 h2.2
  have hx2 := hex_index (b2 / 16) (by omega) (by omega)
  have hy2 := hex_index (b2 % 16) (by omega) (by omega)
  have hA3 := and_15 b3 h3.1 h3.2
  have hx3 := hex_index (b3 / 16) (by omega) (by omega)
  have hy3 := hex_index (b3 % 16) (by omega) (by omega)
  have hA4 := and_15 b4 h4.1 h4.2
  have hx4 := hex_index (b4 / 16) (by omega) (by omega)
  have hy4 := hex_index (b4 % 16) (by omega) (by omega)
  have hA5 := and_15 b5 h5.1 h5.2
  have hx5 := hex_index (b5 / 16) (by omega) (by omega)
  have hy5 := hex_index (b5 % 16) (by omega) (by omega)
  go_enter Tryd.func14, Tryd.ntmps14
  go_wp2
  refine wp_loop_rounds 7 ?_
  rw [rounds_succ]
  go_wp2
  go_region
  go_wp2
  clear i0 hA0 hx0 hy0
  rw [rounds_succ]
  go_wp2
  go_region
  go_wp2
  clear i1 hA1 hx1 hy1
  rw [rounds_succ]
  go_wp2
  go_region
  go_wp2
  clear i2 hA2 hx2 hy2
  rw [rounds_succ]
  go_wp2
  go_region
  go_wp2
  clear i3 hA3 hx3 hy3
  rw [rounds_succ]
  go_wp2
  go_region
  go_wp2
  clear i4 hA4 hx4 hy4
  rw [rounds_succ]
  go_wp2
  go_region
  go_wp2
  clear i5 hA5 hx5 hy5
  rw [rounds_succ]
  go_wp2
  rw [run_convert_bytes_arg (P := Tryd.prog) _ 24 5 Tryd.underlying24 Tryd.underlying5 (w.heap.size + 1) 0 17 18 [hexd (b0 / 16), hexd (b0 % 16), 58, hexd (b1 / 16), hexd (b1 % 16), 58, hexd (b2 / 16), hexd (b2 % 16), 58, hexd (b3 / 16), hexd (b3 % 16), 58, hexd (b4 / 16), hexd (b4 % 16), 58, hexd (b5 / 16), hexd (b5 % 16)] rfl ?hc 9 Tryd.underlying9]
  case hc =>
    intro i hi
    go_simp
    have h : i = 0 ∨ i = 1 ∨ i = 2 ∨ i = 3 ∨ i = 4 ∨ i = 5 ∨ i = 6 ∨ i = 7 ∨ i = 8 ∨ i = 9 ∨ i = 10 ∨ i = 11 ∨ i = 12 ∨ i = 13 ∨ i = 14 ∨ i = 15 ∨ i = 16 := by omega
    rcases h with rfl | rfl | rfl | rfl | rfl | rfl | rfl | rfl | rfl | rfl | rfl | rfl | rfl | rfl | rfl | rfl | rfl <;> rfl
  go_wp2
  go_ret
  exact ⟨rfl, by repeat (first | exact Below.refl _ _ | apply Below.drew | refine Below.alloc ?_ (by first | (simp; done) | (simp; omega)) _)⟩
end Go.Proofs.YtohpdkeleilkjaaDoor
