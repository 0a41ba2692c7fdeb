/-
  Words as bytes: digest.getWord and digest.putWord.
-/
import Derived.Test.YtlephdpplfpliaaDRot
namespace Go.Proofs.Ytlephdpplfpliaa
open Go.RowKit
set_option linter.unusedVariables false

/-- a word of four bytes, and its bytes. -/
def word4 (z0 z1 z2 z3 : Int) : Int := bits .or .u32 (bits .or .u32 (bits .or .u32 (z0 * 16777216) (z1 * 65536)) (z2 * 256)) z3
def wb (x : Int) : List Int := [x / 16777216, x / 65536 % 256, x / 256 % 256, x % 256]
def u8s (zs : List Int) : List Value := zs.map (Value.int .u8)
theorem word4_bd (z0 z1 z2 z3 : Int) : 0 ≤ word4 z0 z1 z2 z3 ∧ word4 z0 z1 z2 z3 ≤ 4294967295 := bits_u32_bd _ _ _
theorem wb_bd (x : Int) (h0 : 0 ≤ x) (h1 : x ≤ 4294967295) : ∀ z, z ∈ wb x → 0 ≤ z ∧ z ≤ 255 := by
  intro z hz
  simp [wb] at hz
  omega

set_option maxHeartbeats 400000 in
theorem getWord_any (b o len cap : Nat) (z0 z1 z2 z3 : Int) (w : World) (hl : 4 ≤ len) (c0 : w.cell? ⟨b, o, none⟩ = some (.int .u8 z0)) (c1 : w.cell? ⟨b, o + 1, none⟩ = some (.int .u8 z1)) (c2 : w.cell? ⟨b, o + 2, none⟩ = some (.int .u8 z2)) (c3 : w.cell? ⟨b, o + 3, none⟩ = some (.int .u8 z3))
    (h0 : 0 ≤ z0 ∧ z0 ≤ 255) (h1 : 0 ≤ z1 ∧ z1 ≤ 255) (h2 : 0 ≤ z2 ∧ z2 ≤ 255) (h3 : 0 ≤ z3 ∧ z3 ≤ 255) :
    Calls Try.prog 34 #[.slice (some ⟨b, o, none⟩) len cap] w fun e w' => e = .returned (.int .u32 (word4 z0 z1 z2 z3)) ∧ w' = w.drew := by
  have l1 : (0 : Int) < (len : Int) := by omega
  have l2 : (1 : Int) < (len : Int) := by omega
  have l3 : (2 : Int) < (len : Int) := by omega
  have l4 : (3 : Int) < (len : Int) := by omega
  go_enter Try.func34, Try.ntmps34
  go_wp2
  go_region
  go_wp2
  go_ret
  exact ⟨rfl, rfl⟩
set_option maxHeartbeats 400000 in
theorem putWord_any (b o len cap : Nat) (x : Int) (v0 v1 v2 v3 : Value) (w : World) (hl : 4 ≤ len) (hx : 0 ≤ x ∧ x ≤ 4294967295) (c0 : w.cell? ⟨b, o, none⟩ = some v0) (c1 : w.cell? ⟨b, o + 1, none⟩ = some v1) (c2 : w.cell? ⟨b, o + 2, none⟩ = some v2) (c3 : w.cell? ⟨b, o + 3, none⟩ = some v3)
    (f0 : w.frozen? ⟨b, o, none⟩ = false) (f1 : w.frozen? ⟨b, o + 1, none⟩ = false) (f2 : w.frozen? ⟨b, o + 2, none⟩ = false) (f3 : w.frozen? ⟨b, o + 3, none⟩ = false) :
    Calls Try.prog 25 #[.slice (some ⟨b, o, none⟩) len cap, .int .u32 x] w fun e w' => e = .returned (.tuple #[]) ∧ w' = w.setCells b o (u8s (wb x)) := by
  have l1 : (0 : Int) < (len : Int) := by omega
  have l2 : (1 : Int) < (len : Int) := by omega
  have l3 : (2 : Int) < (len : Int) := by omega
  have l4 : (3 : Int) < (len : Int) := by omega
  go_enter Try.func25, Try.ntmps25
  go_wp2
  go_end0
  exact ⟨rfl, rfl⟩
end Go.Proofs.Ytlephdpplfpliaa
