import Derived.Test.YtoifblndpcelkaaBMem
import Derived.Test.YtoifblndpcelkaaBBookJ
import Derived.Laws.BitsAllLaws
import Derived.Test.YtoifblndpcelkaaOMem
/-
  The contract of octet.isWidth. For every seat.
-/
namespace Go.Proofs.Ytoifblndpcelkaa
open Go.RowKit
set_option linter.all false

set_option maxHeartbeats 400000 in
theorem isWidth_yes (n : Int) (w : World) (h1 : 1 ≤ n) (h2 : n ≤ 8) :
    Calls Try.prog 101 #[.int .i64 n] w fun e w' => e = .returned (.bool true) ∧ w' = w := by
  go_enter Try.func101, Try.ntmps101
  go_wp2
  go_ret
  exact ⟨rfl, rfl⟩

set_option maxHeartbeats 400000 in
theorem isWidth_no (n : Int) (w : World) (h : n < 1 ∨ 8 < n) :
    Calls Try.prog 101 #[.int .i64 n] w fun e w' => e = .returned (.bool false) ∧ w' = w := by
  by_cases h1 : 1 ≤ n
  · have h2 : ¬ n ≤ 8 := by omega
    clear h
    go_enter Try.func101, Try.ntmps101
    go_wp2
    go_ret
    exact ⟨rfl, rfl⟩
  · clear h
    go_enter Try.func101, Try.ntmps101
    go_wp2
    go_ret
    exact ⟨rfl, rfl⟩

end Go.Proofs.Ytoifblndpcelkaa

/-
  A number's bytes, one laid behind the other. For every seat.
-/
namespace Go.Proofs.Ytoifblndpcelkaa
open Go.RowKit
set_option linter.all false

def byteAt (n : Int) (k : Nat) : Int := n / 2 ^ (8 * k) % 256
def putTo (n : Int) (m : Nat) : Nat → Array Value
  | 0 => madeCells #[.int .u8 0] m
  | k + 1 => (putTo n m k).setIfInBounds (m - 1 - k) (.int .u8 (byteAt n k))

theorem putTo_size (n : Int) (m : Nat) : ∀ k, (putTo n m k).size = m
  | 0 => by simp [putTo, size_madeCells]
  | k + 1 => by simp [putTo, putTo_size n m k]
theorem putTo_get (n : Int) (m k j : Nat) (h : j < m) : ∃ v, (putTo n m k)[j]? = some v :=
  ⟨(putTo n m k)[j]'(by rw [putTo_size]; exact h), by simp [putTo_size, h]⟩

theorem putTo2 (n : Int) : putTo n 2 2 = (u8s [n / 256 % 256, n % 256]).toArray := by
  simp [putTo, made_eq, byteAt, u8s]
end Go.Proofs.Ytoifblndpcelkaa

/-
  The contract of octet.Put: what a call leaves, for every number and width. For every seat.
-/
namespace Go.Proofs.Ytoifblndpcelkaa
open Go.RowKit
set_option linter.all false

set_option maxHeartbeats 400000 in
theorem put_yes (n : Int) (m : Nat) (w : World) (h1 : 1 ≤ m) (h2 : m ≤ 8) (h3 : 0 ≤ n) (h4 : n ≤ 18446744073709551615) :
    Calls Try.prog 91 #[.int .u64 n, .int .i64 m] w fun e w' => e = .returned (.slice (some ⟨w.heap.size, 0, none⟩) m m) ∧ w' = w.alloc (.cells (putTo n m m) 5) := by
  have hmk := fun wx => Go.run_make_row' (P := Try.prog) 33 5 (.int .u8 0) 1 Try.underlying33 infoU8 rfl .i64 .i64 m (by omega) (by omega) wx
  go_enter Try.func91, Try.ntmps91
  go_wp2_with (go_at_call 101; refine (isWidth_yes _ _ (by omega) (by omega)).mono ?_; rintro e w' ⟨rfl, rfl⟩)
  go_loopw [14] (fun i wr => ∃ k : Nat, k ≤ m ∧ i = .int .i64 k ∧ wr = w'.alloc (.cells (putTo n m k) 5)) (fun i _ => m - (intOf i).toNat)
  case atStart => exact ⟨0, Nat.zero_le _, rfl, rfl⟩
  case round =>
    obtain ⟨k, hk, rfl, rfl⟩ := hrel
    by_cases hlt : k < m
    · obtain ⟨v, hv⟩ := putTo_get n m k (m - 1 - k) (by omega)
      go_wp2
      go_roundw
      case rel => exact ⟨k + 1, by omega, by go_num, rfl⟩
      case measure => simp [intOf]; omega
    · go_wp2
      go_ret
      have : k = m := by omega
      subst this
      exact ⟨rfl, rfl⟩

set_option maxHeartbeats 400000 in
theorem put_no (n width : Int) (w : World) (h : width < 1 ∨ 8 < width) :
    Calls Try.prog 91 #[.int .u64 n, .int .i64 width] w fun e w' => e = .returned (.slice none 0 0) ∧ w' = w := by
  have hh : Hid (width < 1 ∨ 8 < width) := h
  clear h
  go_enter Try.func91, Try.ntmps91
  go_wp2_with (go_at_call 101; refine (isWidth_no _ _ hh.out).mono ?_; rintro e w' ⟨rfl, rfl⟩)
  go_ret
  exact ⟨rfl, rfl⟩
end Go.Proofs.Ytoifblndpcelkaa

/-
  The contract of slipwayref01.Put: the same bytes as octet.Put's. For every seat.
-/
namespace Go.Proofs.Ytoifblndpcelkaa
open Go.RowKit
set_option linter.all false

theorem shr_next (n : Int) (k : Nat) (hk : k < 8) : n / 2 ^ (8 * k) / 256 = n / 2 ^ (8 * (k + 1)) := by
  have hc : k = 0 ∨ k = 1 ∨ k = 2 ∨ k = 3 ∨ k = 4 ∨ k = 5 ∨ k = 6 ∨ k = 7 := by omega
  rcases hc with rfl | rfl | rfl | rfl | rfl | rfl | rfl | rfl <;> simp only [Nat.reduceMul, Nat.reduceAdd, Int.reducePow] <;> omega
theorem shr_bd (n : Int) (k : Nat) (hk : k ≤ 8) (h0 : 0 ≤ n) (h1 : n ≤ 18446744073709551615) : 0 ≤ n / 2 ^ (8 * k) ∧ n / 2 ^ (8 * k) ≤ 18446744073709551615 := by
  have hc : k = 0 ∨ k = 1 ∨ k = 2 ∨ k = 3 ∨ k = 4 ∨ k = 5 ∨ k = 6 ∨ k = 7 ∨ k = 8 := by omega
  rcases hc with rfl | rfl | rfl | rfl | rfl | rfl | rfl | rfl | rfl <;> simp only [Nat.reduceMul, Int.reducePow] <;> omega

set_option maxHeartbeats 400000 in
theorem refPut_yes (n : Int) (m : Nat) (w : World) (h1 : 1 ≤ m) (h2 : m ≤ 8) (h3 : 0 ≤ n) (h4 : n ≤ 18446744073709551615) :
    Calls Try.prog 68 #[.int .u64 n, .int .i64 m] w fun e w' => e = .returned (.slice (some ⟨w.heap.size, 0, none⟩) m m) ∧ w' = w.alloc (.cells (putTo n m m) 5) := by
  have hmk := fun wx => Go.run_make_row' (P := Try.prog) 33 5 (.int .u8 0) 1 Try.underlying33 infoU8 rfl .i64 .i64 m (by omega) (by omega) wx
  have n1 : ¬ (m : Int) < 1 := by omega
  have n2 : ¬ (8 : Int) < m := by omega
  go_enter Try.func68, Try.ntmps68
  go_wp2
  go_loopw [0, 6] (fun nn i wr => ∃ k : Nat, k ≤ m ∧ i = .int .i64 k ∧ nn = .int .u64 (n / 2 ^ (8 * k)) ∧ wr = w.alloc (.cells (putTo n m k) 5)) (fun _ i _ => m - (intOf i).toNat)
  case atStart => exact ⟨0, Nat.zero_le _, rfl, by simp, rfl⟩
  case round =>
    obtain ⟨k, hk, rfl, rfl, rfl⟩ := hrel
    have hbd := shr_bd n k (by omega) h3 h4
    by_cases hlt : k < m
    · obtain ⟨v, hv⟩ := putTo_get n m k (m - 1 - k) (by omega)
      have HX : Hid (n / 2 ^ (8 * (k + 1)) = n / 2 ^ (8 * k) / 256) := (shr_next n k (by omega)).symm
      have HB : Hid (putTo n m (k + 1) = (putTo n m k).setIfInBounds (m - 1 - k) (.int .u8 (n / 2 ^ (8 * k) % 256))) := rfl
      generalize n / 2 ^ (8 * k) = x at *
      go_wp2
      go_roundw
      case rel => exact ⟨k + 1, by omega, by go_num, by rw [HX.out], by rw [HB.out]⟩
      case measure => simp [intOf]; omega
    · go_wp2
      go_ret
      have : k = m := by omega
      subst this
      exact ⟨rfl, rfl⟩

set_option maxHeartbeats 400000 in
theorem refPut_no (n width : Int) (w : World) (h : width < 1 ∨ 8 < width) :
    Calls Try.prog 68 #[.int .u64 n, .int .i64 width] w fun e w' => e = .returned (.slice none 0 0) ∧ w' = w := by
  by_cases h1 : width < 1
  · clear h
    go_enter Try.func68, Try.ntmps68
    go_wp2
    go_ret
    exact ⟨rfl, rfl⟩
  · have h2 : 8 < width := by omega
    clear h
    go_enter Try.func68, Try.ntmps68
    go_wp2
    go_ret
    exact ⟨rfl, rfl⟩
end Go.Proofs.Ytoifblndpcelkaa

/-
  Bytes of a call's own, from a block on: appends behind them. For every seat.
-/
namespace Go.Proofs.Ytoifblndpcelkaa
open Go.RowKit
set_option linter.all false

/-- bytes of a call's own, from block B on. -/
def OwnB (B : Nat) (zs : List Int) (a : Option Addr) (n c : Nat) (w : World) : Prop := Row w 5 (.slice a n c) (u8s zs) ∧ (∀ b, (Value.slice a n c).ownBlock = some b → B ≤ b) ∧ B ≤ w.heap.size
theorem OwnB.nil (w : World) : OwnB w.heap.size [] none 0 0 w := ⟨Row.nil _ _, by simp [Value.ownBlock], Nat.le_refl _⟩
theorem OwnB.len {B : Nat} {zs : List Int} {a : Option Addr} {n c : Nat} {w : World} (h : OwnB B zs a n c w) : n = zs.length := by
  obtain ⟨a', c', e, _⟩ := h.1.form
  simp only [Value.slice.injEq, u8s_len] at e
  exact e.2.1
theorem OwnB.below {B : Nat} {zs : List Int} {a : Option Addr} {n c : Nat} {w w' : World} (h : OwnB B zs a n c w) (hb : Below w.heap.size w w') : OwnB B zs a n c w' := ⟨h.1.below hb, h.2.1, Nat.le_trans h.2.2 hb.size⟩
/-- an append behind them. -/
theorem OwnB.app {B : Nat} {zs : List Int} {a : Option Addr} {n c : Nat} {w : World} (h : OwnB B zs a n c w) (pt : Part) (hok : pt.ok w) (hl : zs.length + pt.zs.length ≤ 140737488355328) (ty : TypeId) :
    ∃ a' n' c' w', (Builtin.append_ #[33, 33] ty #[.slice a n c, pt.val]).run Try.prog w = .ok (.slice a' n' c') w' ∧ OwnB B (zs ++ pt.zs) a' n' c' w' ∧ Below B w w' := by
  obtain ⟨a', c', w', h1, h2, h5, h6⟩ := append_row_part h.1 B h.2.2 h.2.1 pt hok hl ty
  exact ⟨a', _, c', w', h1, ⟨h2, h6, Nat.le_trans h.2.2 h5.size⟩, h5⟩
end Go.Proofs.Ytoifblndpcelkaa

/-
  Numbers as bytes, by octet.Put and the document's Put, at the widths 1, 2 and 4. For every seat.
-/
namespace Go.Proofs.Ytoifblndpcelkaa
open Go.RowKit
set_option linter.all false

theorem putTo1 (n : Int) : putTo n 1 1 = (u8s [n % 256]).toArray := by
  simp [putTo, made_eq, byteAt, u8s]
theorem putTo4 (n : Int) : putTo n 4 4 = (u8s [n / 16777216 % 256, n / 65536 % 256, n / 256 % 256, n % 256]).toArray := by
  simp [putTo, made_eq, byteAt, u8s]
/-- a number's bytes. -/
def op1 (n : Int) : List Int := [n % 256]
def op2 (n : Int) : List Int := [n / 256 % 256, n % 256]
def ip4 (n : Int) : List Int := [n / 16777216 % 256, n / 65536 % 256, n / 256 % 256, n % 256]
theorem op1_bd (n : Int) : ∀ z, z ∈ op1 n → 0 ≤ z ∧ z ≤ 255 := fun z hz => by simp [op1] at hz; omega
theorem op2_bd (n : Int) : ∀ z, z ∈ op2 n → 0 ≤ z ∧ z ≤ 255 := fun z hz => by simp [op2] at hz; omega
theorem ip4_bd (n : Int) : ∀ z, z ∈ ip4 n → 0 ≤ z ∧ z ≤ 255 := fun z hz => by simp [ip4] at hz; omega
theorem put2_any (n : Int) (w : World) (h3 : 0 ≤ n) (h4 : n ≤ 18446744073709551615) :
    Calls Try.prog 91 #[.int .u64 n, .int .i64 2] w fun e w' => e = .returned (.slice (some ⟨w.heap.size, 0, none⟩) 2 2) ∧ w' = w.alloc (.cells (u8s (op2 n)).toArray 5) := by
  have h := put_yes n 2 w (by omega) (by omega) h3 (by omega)
  rw [putTo2 n] at h
  exact h
theorem put4_any (n : Int) (w : World) (h3 : 0 ≤ n) (h4 : n ≤ 18446744073709551615) :
    Calls Try.prog 91 #[.int .u64 n, .int .i64 4] w fun e w' => e = .returned (.slice (some ⟨w.heap.size, 0, none⟩) 4 4) ∧ w' = w.alloc (.cells (u8s (ip4 n)).toArray 5) := by
  have h := put_yes n 4 w (by omega) (by omega) h3 (by omega)
  rw [putTo4 n] at h
  exact h
theorem refPut2_any (n : Int) (w : World) (h3 : 0 ≤ n) (h4 : n ≤ 18446744073709551615) :
    Calls Try.prog 68 #[.int .u64 n, .int .i64 2] w fun e w' => e = .returned (.slice (some ⟨w.heap.size, 0, none⟩) 2 2) ∧ w' = w.alloc (.cells (u8s (op2 n)).toArray 5) := by
  have h := refPut_yes n 2 w (by omega) (by omega) h3 (by omega)
  rw [putTo2 n] at h
  exact h
theorem refPut4_any (n : Int) (w : World) (h3 : 0 ≤ n) (h4 : n ≤ 18446744073709551615) :
    Calls Try.prog 68 #[.int .u64 n, .int .i64 4] w fun e w' => e = .returned (.slice (some ⟨w.heap.size, 0, none⟩) 4 4) ∧ w' = w.alloc (.cells (u8s (ip4 n)).toArray 5) := by
  have h := refPut_yes n 4 w (by omega) (by omega) h3 (by omega)
  rw [putTo4 n] at h
  exact h
end Go.Proofs.Ytoifblndpcelkaa

/-
  The contract of octet.Get. For every seat.
-/
namespace Go.Proofs.Ytoifblndpcelkaa
open Go.RowKit
set_option linter.all false

/-- the number that some bytes make, the highest first. -/
def getTo (zs : List Int) (a : Nat) : Nat → Int
  | 0 => 0
  | k + 1 => getTo zs a k * 256 + zs.getD (a + k) 0

theorem getTo_bd (zs : List Int) (hz : ∀ j, 0 ≤ zs.getD j 0 ∧ zs.getD j 0 ≤ 255) (a : Nat) : ∀ k, 0 ≤ getTo zs a k ∧ getTo zs a k < 256 ^ k
  | 0 => by simp [getTo]
  | k + 1 => by
    have h := getTo_bd zs hz a k
    have := hz (a + k)
    simp only [getTo, Int.pow_succ]
    omega

theorem or_join (x y : Int) (h0 : 0 ≤ x) (h1 : x < 72057594037927936) (h2 : 0 ≤ y) (h3 : y ≤ 255) :
    bits BinOp.or IntKind.u64 (x * 256) (IntKind.u64.wrap y) = x * 256 + y := by
  rw [IntKind.wrap_u64, Int.emod_eq_of_lt (by omega) (by omega)]
  rw [u64_or _ _ (by omega) (by omega) (by omega) (by omega), nat_join 8 _ _ (by omega) (by omega)]
  omega

theorem pow_le56 (k : Nat) (h : k ≤ 7) : (256 : Int) ^ k ≤ 72057594037927936 := by
  match k, h with
  | 0, _ => decide
  | 1, _ => decide
  | 2, _ => decide
  | 3, _ => decide
  | 4, _ => decide
  | 5, _ => decide
  | 6, _ => decide
  | 7, _ => decide

set_option maxHeartbeats 400000 in
theorem get_ok (b off len cap : Nat) (zs : List Int) (a m : Nat) (w : World) (h1 : 1 ≤ m) (h2 : m ≤ 8) (h3 : a + m ≤ len) (h4 : len ≤ 9223372036854775807)
    (hc : ∀ j, j < len → w.cell? ⟨b, off + j, none⟩ = some (.int .u8 (zs.getD j 0))) (hz : ∀ j, 0 ≤ zs.getD j 0 ∧ zs.getD j 0 ≤ 255) :
    Calls Try.prog 96 #[.slice (some ⟨b, off, none⟩) len cap, .int .i64 a, .int .i64 m] w fun e w' => e = .returned (.tuple #[.int .u64 (getTo zs a m), .int .i64 0]) ∧ w' = w := by
  have n1 : decide ((a : Int) < 0) = false := by simp
  have n2 : decide ((len : Int) - m < a) = false := by simp; omega
  go_enter Try.func96, Try.ntmps96
  go_wp2_with (go_at_call 101; refine (isWidth_yes _ _ (by omega) (by omega)).mono ?_; rintro e w' ⟨rfl, rfl⟩)
  go_loop [8, 24] (fun n i => ∃ k : Nat, k ≤ m ∧ i = .int .i64 k ∧ n = .int .u64 (getTo zs a k)) (fun _ i => m - (intOf i).toNat)
  case atStart => exact ⟨0, Nat.zero_le _, rfl, rfl⟩
  case round =>
    obtain ⟨k, hk, rfl, rfl⟩ := hrel
    have hg := getTo_bd zs hz a k
    by_cases hlt : k < m
    · have hcell := hc (a + k) (by omega)
      have hzz := hz (a + k)
      have hp := pow_le56 k (by omega)
      go_wp2
      go_round
      case rel =>
        refine ⟨k + 1, by omega, by go_num, ?_⟩
        have := or_join (getTo zs a k) (zs.getD (a + k) 0) hg.1 (by omega) hzz.1 hzz.2
        rw [List.getD_eq_getElem?_getD] at this
        rw [this]; simp [getTo]
      case measure => simp [intOf]; omega
    · have : k = m := by omega
      subst this
      go_wp2
      go_ret2
      exact ⟨rfl, rfl⟩

set_option maxHeartbeats 400000 in
theorem get_arg (v : Value) (a m : Int) (w : World) (h : m < 1 ∨ 8 < m ∨ a < 0) :
    Calls Try.prog 96 #[v, .int .i64 a, .int .i64 m] w fun e w' => e = .returned (.tuple #[.int .u64 0, .int .i64 1]) ∧ w' = w := by
  by_cases h1 : 1 ≤ m ∧ m ≤ 8
  · have h2 : a < 0 := by omega
    obtain ⟨h3, h4⟩ := h1
    clear h
    go_enter Try.func96, Try.ntmps96
    go_wp2_with (go_at_call 101; refine (isWidth_yes _ _ (by omega) (by omega)).mono ?_; rintro e w' ⟨rfl, rfl⟩)
    go_ret2
    exact ⟨rfl, rfl⟩
  · have hh : Hid (m < 1 ∨ 8 < m) := by unfold Hid; omega
    clear h h1
    go_enter Try.func96, Try.ntmps96
    go_wp2_with (go_at_call 101; refine (isWidth_no _ _ hh.out).mono ?_; rintro e w' ⟨rfl, rfl⟩)
    go_ret2
    exact ⟨rfl, rfl⟩

set_option maxHeartbeats 400000 in
theorem get_short (x : Option Addr) (len cap : Nat) (a m : Int) (w : World) (h1 : 1 ≤ m) (h2 : m ≤ 8) (h3 : 0 ≤ a) (h4 : (len : Int) - m < a) (h5 : len ≤ 9223372036854775807) :
    Calls Try.prog 96 #[.slice x len cap, .int .i64 a, .int .i64 m] w fun e w' => e = .returned (.tuple #[.int .u64 0, .int .i64 5]) ∧ w' = w := by
  go_enter Try.func96, Try.ntmps96
  go_wp2_with (go_at_call 101; refine (isWidth_yes _ _ (by omega) (by omega)).mono ?_; rintro e w' ⟨rfl, rfl⟩)
  go_ret2
  exact ⟨rfl, rfl⟩

/-- what Get answers. -/
def getAns (zs : List Int) (a m : Int) : Int × Int := if m < 1 ∨ 8 < m ∨ a < 0 then (0, 1) else if (zs.length : Int) - m < a then (0, 5) else (getTo zs a.toNat m.toNat, 0)

theorem get_part (pt : Part) (a m : Int) (w : World) (hok : pt.ok w) (hl : pt.zs.length ≤ 281474976710656) :
    Calls Try.prog 96 #[pt.val, .int .i64 a, .int .i64 m] w fun e w' => e = .returned (.tuple #[.int .u64 (getAns pt.zs a m).1, .int .i64 (getAns pt.zs a m).2]) ∧ w' = w := by
  unfold getAns
  by_cases h1 : m < 1 ∨ 8 < m ∨ a < 0
  · rw [if_pos h1]
    exact get_arg _ a m w h1
  · rw [if_neg h1]
    by_cases h2 : (pt.zs.length : Int) - m < a
    · rw [if_pos h2]
      exact get_short _ _ _ a m w (by omega) (by omega) (by omega) h2 (by omega)
    · rw [if_neg h2]
      have hbd := getD_mem_bd hok.1
      obtain ⟨x, c, zs⟩ := pt
      simp only [Part.val] at *
      rcases hok.2.2 with h | ⟨b, o, ha, hc⟩
      · simp only at h; subst h; simp at h2; omega
      · simp only at ha hc
        subst ha
        obtain ⟨A, hA⟩ := Int.eq_ofNat_of_zero_le (show 0 ≤ a by omega)
        obtain ⟨M, hM⟩ := Int.eq_ofNat_of_zero_le (show 0 ≤ m by omega)
        rw [hA, hM, Int.toNat_natCast, Int.toNat_natCast]
        exact get_ok b o zs.length c zs A M w (by omega) (by omega) (by omega) (by omega) hc hbd

end Go.Proofs.Ytoifblndpcelkaa

/-
  The contracts of option.Numbered, option.Byte, and of the document's.
-/
namespace Go.Proofs.Ytoifblndpcelkaa
open Go.RowKit
set_option linter.all false

/-- an option that was made: its bytes lie in the block g. -/
def MadeO (w w' : World) (g : Nat) (zs : List Int) : Prop := w.heap.size ≤ g ∧ w'.heap[g]? = some (.cells (u8s zs).toArray 5 (0, 0)) ∧ Below w.heap.size w w'
theorem put1_any (n : Int) (w : World) (h3 : 0 ≤ n) (h4 : n ≤ 18446744073709551615) :
    Calls Try.prog 91 #[.int .u64 n, .int .i64 1] w fun e w' => e = .returned (.slice (some ⟨w.heap.size, 0, none⟩) 1 1) ∧ w' = w.alloc (.cells (u8s (op1 n)).toArray 5) := by
  have h := put_yes n 1 w (by omega) (by omega) h3 (by omega)
  rw [putTo1 n] at h
  exact h
theorem results_o1 {P : Program} {fn : Func} {p : Tmp} {ty : TypeId} (h : fn.results = #[.cell p ty]) (tmps : Array Value) (w : World) (g : Nat) (t : TypeId) (cs : Array Value) (fr : Nat × Nat) (d : TypeDesc)
    (hp : tmps.getD p undef = .pointer (some ⟨g, 0, none⟩)) (hg : w.heap[g]? = some (.cells cs t fr))
    (hu : P.underlying ty = some d) (hd : (match d with | .struct _ | .array _ _ => true | _ => false) = true) (hi : (P.info? ty).map (·.size) = some cs.size) :
    (results fn tmps).run P w = .ok (.agg cs) w := by
  have hp' : tmps[p]?.getD undef = .pointer (some ⟨g, 0, none⟩) := by simpa using hp
  simp [results, h, hp', asAddr, run_loadVar_row w g t ty cs fr d hg hu hd hi]
set_option maxHeartbeats 1000000 in
theorem numbered_any (code n : Int) (w : World) (h0 : 0 ≤ n) (h1 : n ≤ 4294967295) :
    Calls Try.prog 57 #[.int .i64 code, .int .u32 n] w fun e w' => ∃ g, e = .returned (.agg #[.int .i64 code, .slice (some ⟨g, 0, none⟩) 4 4]) ∧ Hid (MadeO w w' g (ip4 n)) := by
  obtain ⟨w0, hw0⟩ : ∃ w0, w0 = w.alloc (.cells #[.int .i64 0, .slice none 0 0] 67) := ⟨_, rfl⟩
  have HB0 : Hid (Below w.heap.size w w0) := by rw [hw0]; exact bpush (Below.refl _ _) _
  have HS0 : Hid (w0.heap.size = w.heap.size + 1) := hid (by rw [hw0]; simp)
  have HG0 : Hid (w0.heap[w.heap.size]? = some (.cells #[.int .i64 0, .slice none 0 0] 67 (0, 0))) := by rw [hw0]; exact heap_new w _
  have C0 := put4_any n w0 h0 (by omega)
  obtain ⟨w1, hw1⟩ : ∃ w1, w1 = w0.alloc (.cells (u8s (ip4 n)).toArray 5) := ⟨_, rfl⟩
  have HG1 : Hid (w1.heap[w.heap.size]? = some (.cells #[.int .i64 0, .slice none 0 0] 67 (0, 0))) := by rw [hw1]; exact (heap_old _ _ (heap_lt HG0.out)).trans HG0.out
  have HD1 : Hid (w1.heap[w.heap.size + 1]? = some (.cells (u8s (ip4 n)).toArray 5 (0, 0))) := by rw [hw1, ← HS0.out]; exact heap_new _ _
  have HB1 : Hid (Below w.heap.size w w1) := by rw [hw1]; exact bpush HB0.out _
  rw [← hw1, HS0.out] at C0
  clear hw1
  go_enter Try.func57, Try.ntmps57
  go_wp2_with (first
    | (go_at_call 91; first | rw [← hw0] | skip; refine C0.mono ?_; rintro e wx ⟨rfl, rfl⟩)
    | (refine wpList_store_row rfl 67 _ _ rfl w.heap.size #[.int .i64 code, .slice (some ⟨w.heap.size + 1, 0, none⟩) 4 4] rfl rfl 67 _ HG1.out (by kernel_rfl) rfl (by first | kernel_rfl | simp [Value.oneCell']) ?_))
  refine bodyPost_ret (v := .agg #[.int .i64 code, .slice (some ⟨w.heap.size + 1, 0, none⟩) 4 4]) ?_ (by rfl) ⟨_, rfl, ?_⟩
  · exact results_o1 Try.results57 _ _ w.heap.size 67 _ (0, 0) _ rfl (setRow_heap _ _ _ _ _ _ HG1.out) Try.underlying67 rfl (by kernel_rfl)
  · refine ⟨by omega, ?_, ?_⟩
    · rw [setRow_other _ _ _ _ (by omega)]
      exact HD1.out
    · exact bbut HB1.out (But.setRow _ _ _) (Nat.le_refl _)
set_option maxHeartbeats 1000000 in
theorem refNumbered_any (code n : Int) (w : World) (h0 : 0 ≤ n) (h1 : n ≤ 4294967295) :
    Calls Try.prog 60 #[.int .i64 code, .int .u32 n] w fun e w' => ∃ g, e = .returned (.agg #[.int .i64 code, .slice (some ⟨g, 0, none⟩) 4 4]) ∧ Hid (MadeO w w' g (ip4 n)) := by
  obtain ⟨w0, hw0⟩ : ∃ w0, w0 = w.alloc (.cells #[.int .i64 0, .slice none 0 0] 67) := ⟨_, rfl⟩
  have HB0 : Hid (Below w.heap.size w w0) := by rw [hw0]; exact bpush (Below.refl _ _) _
  have HS0 : Hid (w0.heap.size = w.heap.size + 1) := hid (by rw [hw0]; simp)
  have HG0 : Hid (w0.heap[w.heap.size]? = some (.cells #[.int .i64 0, .slice none 0 0] 67 (0, 0))) := by rw [hw0]; exact heap_new w _
  have C0 := refPut4_any n w0 h0 (by omega)
  obtain ⟨w1, hw1⟩ : ∃ w1, w1 = w0.alloc (.cells (u8s (ip4 n)).toArray 5) := ⟨_, rfl⟩
  have HG1 : Hid (w1.heap[w.heap.size]? = some (.cells #[.int .i64 0, .slice none 0 0] 67 (0, 0))) := by rw [hw1]; exact (heap_old _ _ (heap_lt HG0.out)).trans HG0.out
  have HD1 : Hid (w1.heap[w.heap.size + 1]? = some (.cells (u8s (ip4 n)).toArray 5 (0, 0))) := by rw [hw1, ← HS0.out]; exact heap_new _ _
  have HB1 : Hid (Below w.heap.size w w1) := by rw [hw1]; exact bpush HB0.out _
  rw [← hw1, HS0.out] at C0
  clear hw1
  go_enter Try.func60, Try.ntmps60
  go_wp2_with (first
    | (go_at_call 68; first | rw [← hw0] | skip; refine C0.mono ?_; rintro e wx ⟨rfl, rfl⟩)
    | (refine wpList_store_row rfl 67 _ _ rfl w.heap.size #[.int .i64 code, .slice (some ⟨w.heap.size + 1, 0, none⟩) 4 4] rfl rfl 67 _ HG1.out (by kernel_rfl) rfl (by first | kernel_rfl | simp [Value.oneCell']) ?_))
  refine bodyPost_ret (v := .agg #[.int .i64 code, .slice (some ⟨w.heap.size + 1, 0, none⟩) 4 4]) ?_ (by rfl) ⟨_, rfl, ?_⟩
  · exact results_o1 Try.results60 _ _ w.heap.size 67 _ (0, 0) _ rfl (setRow_heap _ _ _ _ _ _ HG1.out) Try.underlying67 rfl (by kernel_rfl)
  · refine ⟨by omega, ?_, ?_⟩
    · rw [setRow_other _ _ _ _ (by omega)]
      exact HD1.out
    · exact bbut HB1.out (But.setRow _ _ _) (Nat.le_refl _)
set_option maxHeartbeats 1000000 in
theorem byte_any (code n : Int) (w : World) (h0 : -9223372036854775808 ≤ n) (h1 : n ≤ 9223372036854775807) :
    Calls Try.prog 55 #[.int .i64 code, .int .i64 n] w fun e w' => ∃ g, e = .returned (.agg #[.int .i64 code, .slice (some ⟨g, 0, none⟩) 1 1]) ∧ Hid (MadeO w w' g (op1 n)) := by
  obtain ⟨w0, hw0⟩ : ∃ w0, w0 = w.alloc (.cells #[.int .i64 0, .slice none 0 0] 67) := ⟨_, rfl⟩
  have HB0 : Hid (Below w.heap.size w w0) := by rw [hw0]; exact bpush (Below.refl _ _) _
  have HS0 : Hid (w0.heap.size = w.heap.size + 1) := hid (by rw [hw0]; simp)
  have HG0 : Hid (w0.heap[w.heap.size]? = some (.cells #[.int .i64 0, .slice none 0 0] 67 (0, 0))) := by rw [hw0]; exact heap_new w _
  have hm : op1 (n % 18446744073709551616) = op1 n := by simp only [op1]; congr 1; omega
  have C0 := put1_any (n % 18446744073709551616) w0 (by omega) (by omega)
  obtain ⟨w1, hw1⟩ : ∃ w1, w1 = w0.alloc (.cells (u8s (op1 (n % 18446744073709551616))).toArray 5) := ⟨_, rfl⟩
  have HG1 : Hid (w1.heap[w.heap.size]? = some (.cells #[.int .i64 0, .slice none 0 0] 67 (0, 0))) := by rw [hw1]; exact (heap_old _ _ (heap_lt HG0.out)).trans HG0.out
  have HD1 : Hid (w1.heap[w.heap.size + 1]? = some (.cells (u8s (op1 n)).toArray 5 (0, 0))) := by rw [hw1, ← HS0.out, ← hm]; exact heap_new _ _
  have HB1 : Hid (Below w.heap.size w w1) := by rw [hw1]; exact bpush HB0.out _
  rw [← hw1, HS0.out] at C0
  clear hw1 hm
  go_enter Try.func55, Try.ntmps55
  go_wp2_with (first
    | (go_at_call 91; first | rw [← hw0] | skip; try simp only [IntKind.wrap_u64]; refine C0.mono ?_; rintro e wx ⟨rfl, rfl⟩)
    | (refine wpList_store_row rfl 67 _ _ rfl w.heap.size #[.int .i64 code, .slice (some ⟨w.heap.size + 1, 0, none⟩) 1 1] rfl rfl 67 _ HG1.out (by kernel_rfl) rfl (by first | kernel_rfl | simp [Value.oneCell']) ?_))
  refine bodyPost_ret (v := .agg #[.int .i64 code, .slice (some ⟨w.heap.size + 1, 0, none⟩) 1 1]) ?_ (by rfl) ⟨_, rfl, ?_⟩
  · exact results_o1 Try.results55 _ _ w.heap.size 67 _ (0, 0) _ rfl (setRow_heap _ _ _ _ _ _ HG1.out) Try.underlying67 rfl (by kernel_rfl)
  · refine ⟨by omega, ?_, ?_⟩
    · rw [setRow_other _ _ _ _ (by omega)]
      exact HD1.out
    · exact bbut HB1.out (But.setRow _ _ _) (Nat.le_refl _)

set_option maxHeartbeats 1000000 in
theorem refByte_any (code n : Int) (w : World) (h0 : -9223372036854775808 ≤ n) (h1 : n ≤ 9223372036854775807) :
    Calls Try.prog 58 #[.int .i64 code, .int .i64 n] w fun e w' => ∃ g, e = .returned (.agg #[.int .i64 code, .slice (some ⟨g, 0, none⟩) 1 1]) ∧ Hid (MadeO w w' g (op1 n)) := by
  have hn : IntKind.u8.wrap n = n % 256 := by simp only [IntKind.wrap_u8]
  go_enter Try.func58, Try.ntmps58
  go_wp2
  refine bodyPost_ret (v := .agg #[.int .i64 code, .slice (some ⟨w.heap.size + 1, 0, none⟩) 1 1]) ?_ (by rfl) ⟨_, rfl, ?_⟩
  · exact results_o1 Try.results58 _ _ w.heap.size 67 _ (0, 0) _ rfl ((heap_old _ _ (by simp)).trans (heap_new _ _)) Try.underlying67 rfl (by kernel_rfl)
  · refine ⟨by omega, ?_, bpush (bpush (Below.refl _ _) _) _⟩
    have := heap_new (w.alloc (.cells #[.int .i64 code, .slice (some ⟨w.heap.size + 1, 0, none⟩) 1 1] 67)) (.cells #[.int .u8 (n % 256)] 5)
    rw [World.size_alloc] at this
    exact this
end Go.Proofs.Ytoifblndpcelkaa
