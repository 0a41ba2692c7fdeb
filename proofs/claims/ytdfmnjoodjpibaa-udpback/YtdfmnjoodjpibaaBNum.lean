/-
  Numbers as bytes, by octet.Put and the document's Put, at the widths 1, 2 and 4; bytes of a call's own from a block on. For every seat.
-/
import Derived.Test.YtdfmnjoodjpibaaBPut
import Derived.Test.YtdfmnjoodjpibaaBRefPut
import Derived.Test.YtdfmnjoodjpibaaBApp
namespace Go.Proofs.Ytdfmnjoodjpibaa
open Go.RowKit
set_option linter.all false

theorem putTo1 (n : Int) : putTo n 1 1 = (u8s [n % 256]).toArray := by
  simp [putTo, made_eq, byteAt, u8s]
theorem putTo4 (n : Int) : putTo n 4 4 = (u8s [n / 16777216 % 256, n / 65536 % 256, n / 256 % 256, n % 256]).toArray := by
  simp [putTo, made_eq, byteAt, u8s]
/-- a number's bytes. -/
def op1 (n : Int) : List Int := [n % 256]
def op2 (n : Int) : List Int := [n / 256 % 256, n % 256]
def ip4 (n : Int) : List Int := [n / 16777216 % 256, n / 65536 % 256, n / 256 % 256, n % 256]
theorem op1_bd (n : Int) : ∀ z, z ∈ op1 n → 0 ≤ z ∧ z ≤ 255 := fun z hz => by simp [op1] at hz; omega
theorem op2_bd (n : Int) : ∀ z, z ∈ op2 n → 0 ≤ z ∧ z ≤ 255 := fun z hz => by simp [op2] at hz; omega
theorem ip4_bd (n : Int) : ∀ z, z ∈ ip4 n → 0 ≤ z ∧ z ≤ 255 := fun z hz => by simp [ip4] at hz; omega
theorem put2_any (n : Int) (w : World) (h3 : 0 ≤ n) (h4 : n ≤ 18446744073709551615) :
    Calls Try.prog 27 #[.int .u64 n, .int .i64 2] w fun e w' => e = .returned (.slice (some ⟨w.heap.size, 0, none⟩) 2 2) ∧ w' = w.alloc (.cells (u8s (op2 n)).toArray 5) := by
  have h := put_yes n 2 w (by omega) (by omega) h3 (by omega)
  rw [putTo2 n] at h
  exact h
theorem put4_any (n : Int) (w : World) (h3 : 0 ≤ n) (h4 : n ≤ 18446744073709551615) :
    Calls Try.prog 27 #[.int .u64 n, .int .i64 4] w fun e w' => e = .returned (.slice (some ⟨w.heap.size, 0, none⟩) 4 4) ∧ w' = w.alloc (.cells (u8s (ip4 n)).toArray 5) := by
  have h := put_yes n 4 w (by omega) (by omega) h3 (by omega)
  rw [putTo4 n] at h
  exact h
theorem refPut2_any (n : Int) (w : World) (h3 : 0 ≤ n) (h4 : n ≤ 18446744073709551615) :
    Calls Try.prog 25 #[.int .u64 n, .int .i64 2] w fun e w' => e = .returned (.slice (some ⟨w.heap.size, 0, none⟩) 2 2) ∧ w' = w.alloc (.cells (u8s (op2 n)).toArray 5) := by
  have h := refPut_yes n 2 w (by omega) (by omega) h3 (by omega)
  rw [putTo2 n] at h
  exact h
theorem refPut4_any (n : Int) (w : World) (h3 : 0 ≤ n) (h4 : n ≤ 18446744073709551615) :
    Calls Try.prog 25 #[.int .u64 n, .int .i64 4] w fun e w' => e = .returned (.slice (some ⟨w.heap.size, 0, none⟩) 4 4) ∧ w' = w.alloc (.cells (u8s (ip4 n)).toArray 5) := by
  have h := refPut_yes n 4 w (by omega) (by omega) h3 (by omega)
  rw [putTo4 n] at h
  exact h
/-- bytes of a call's own, from block B on. -/
def OwnB (B : Nat) (zs : List Int) (a : Option Addr) (n c : Nat) (w : World) : Prop := Row w 5 (.slice a n c) (u8s zs) ∧ (∀ b, (Value.slice a n c).ownBlock = some b → B ≤ b) ∧ B ≤ w.heap.size
theorem OwnB.nil (w : World) : OwnB w.heap.size [] none 0 0 w := ⟨Row.nil _ _, by simp [Value.ownBlock], Nat.le_refl _⟩
theorem OwnB.len {B : Nat} {zs : List Int} {a : Option Addr} {n c : Nat} {w : World} (h : OwnB B zs a n c w) : n = zs.length := by
  obtain ⟨a', c', e, _⟩ := h.1.form
  simp only [Value.slice.injEq, u8s_len] at e
  exact e.2.1
theorem OwnB.below {B : Nat} {zs : List Int} {a : Option Addr} {n c : Nat} {w w' : World} (h : OwnB B zs a n c w) (hb : Below w.heap.size w w') : OwnB B zs a n c w' := ⟨h.1.below hb, h.2.1, Nat.le_trans h.2.2 hb.size⟩
/-- an append behind them. -/
theorem OwnB.app {B : Nat} {zs : List Int} {a : Option Addr} {n c : Nat} {w : World} (h : OwnB B zs a n c w) (pt : Part) (hok : pt.ok w) (hl : zs.length + pt.zs.length ≤ 140737488355328) (ty : TypeId) :
    ∃ a' n' c' w', (Builtin.append_ #[24, 24] ty #[.slice a n c, pt.val]).run Try.prog w = .ok (.slice a' n' c') w' ∧ OwnB B (zs ++ pt.zs) a' n' c' w' ∧ Below B w w' := by
  obtain ⟨a', c', w', h1, h2, h5, h6⟩ := append_row_part h.1 B h.2.2 h.2.1 pt hok hl ty
  exact ⟨a', _, c', w', h1, ⟨h2, h6, Nat.le_trans h.2.2 h5.size⟩, h5⟩
end Go.Proofs.Ytdfmnjoodjpibaa
