/-
  The contract of octet.Put: what a call leaves, for every number and width.
-/
import Derived.Test.YtohpdkeleilkjaaDoorRows
import Derived.WalkKit
import Derived.WalkSpells
import Derived.WalkLawsBesides
import Derived.Deep.OwnRows
namespace Go.Proofs.YtohpdkeleilkjaaDoor
open Go.RowKit
set_option linter.unusedVariables false

set_option maxHeartbeats 400000 in
theorem isWidth_yes (n : Int) (w : World) (h1 : 1 ≤ n) (h2 : n ≤ 8) :
    Calls Tryd.prog 17 #[.int .i64 n] w fun e w' => e = .returned (.bool true) ∧ w' = w := by
  go_enter Tryd.func17, Tryd.ntmps17
  go_wp2
  go_ret
  exact ⟨rfl, rfl⟩

set_option maxHeartbeats 400000 in
theorem isWidth_no (n : Int) (w : World) (h : n < 1 ∨ 8 < n) :
    Calls Tryd.prog 17 #[.int .i64 n] w fun e w' => e = .returned (.bool false) ∧ w' = w := by
  by_cases h1 : 1 ≤ n
  · have h2 : ¬ n ≤ 8 := by omega
    clear h
    go_enter Tryd.func17, Tryd.ntmps17
    go_wp2
    go_ret
    exact ⟨rfl, rfl⟩
  · clear h
    go_enter Tryd.func17, Tryd.ntmps17
    go_wp2
    go_ret
    exact ⟨rfl, rfl⟩

theorem infoU8 : (Tryd.prog.info? 5).map (fun i => (i.zero, i.size, i.bytes)) = some (some (.int .u8 0), 1, 1) := by kernel_rfl

def byteAt (n : Int) (k : Nat) : Int := n / 2 ^ (8 * k) % 256
def putTo (n : Int) (m : Nat) : Nat → Array Value
  | 0 => madeCells #[.int .u8 0] m
  | k + 1 => (putTo n m k).setIfInBounds (m - 1 - k) (.int .u8 (byteAt n k))

theorem putTo_size (n : Int) (m : Nat) : ∀ k, (putTo n m k).size = m
  | 0 => by simp [putTo, size_madeCells]
  | k + 1 => by simp [putTo, putTo_size n m k]
theorem putTo_get (n : Int) (m k j : Nat) (h : j < m) : ∃ v, (putTo n m k)[j]? = some v :=
  ⟨(putTo n m k)[j]'(by rw [putTo_size]; exact h), by simp [putTo_size, h]⟩

set_option maxHeartbeats 400000 in
theorem put_yes (n : Int) (m : Nat) (w : World) (h1 : 1 ≤ m) (h2 : m ≤ 8) (h3 : 0 ≤ n) (h4 : n ≤ 18446744073709551615) :
    Calls Tryd.prog 5 #[.int .u64 n, .int .i64 m] w fun e w' => e = .returned (.slice (some ⟨w.heap.size, 0, none⟩) m m) ∧ w' = w.alloc (.cells (putTo n m m) 5) := by
  have hmk := fun wx => Go.run_make_row' (P := Tryd.prog) 24 5 (.int .u8 0) 1 Tryd.underlying24 infoU8 rfl .i64 .i64 m (by omega) (by omega) wx
  go_enter Tryd.func5, Tryd.ntmps5
  go_wp2_with (go_at_call 17; refine (isWidth_yes _ _ (by omega) (by omega)).mono ?_; rintro e w' ⟨rfl, rfl⟩)
  go_loopw [14] (fun i wr => ∃ k : Nat, k ≤ m ∧ i = .int .i64 k ∧ wr = w'.alloc (.cells (putTo n m k) 5)) (fun i _ => m - (intOf i).toNat)
  case atStart => exact ⟨0, Nat.zero_le _, rfl, rfl⟩
  case round =>
    obtain ⟨k, hk, rfl, rfl⟩ := hrel
    by_cases hlt : k < m
    · obtain ⟨v, hv⟩ := putTo_get n m k (m - 1 - k) (by omega)
      go_wp2
      go_roundw
      case rel => exact ⟨k + 1, by omega, by go_num, rfl⟩
      case measure => simp [intOf]; omega
    · go_wp2
      go_ret
      have : k = m := by omega
      subst this
      exact ⟨rfl, rfl⟩

set_option maxHeartbeats 400000 in
theorem put_no (n width : Int) (w : World) (h : width < 1 ∨ 8 < width) :
    Calls Tryd.prog 5 #[.int .u64 n, .int .i64 width] w fun e w' => e = .returned (.slice none 0 0) ∧ w' = w := by
  have hh : Hid (width < 1 ∨ 8 < width) := h
  clear h
  go_enter Tryd.func5, Tryd.ntmps5
  go_wp2_with (go_at_call 17; refine (isWidth_no _ _ hh.out).mono ?_; rintro e w' ⟨rfl, rfl⟩)
  go_ret
  exact ⟨rfl, rfl⟩
end Go.Proofs.YtohpdkeleilkjaaDoor
