/-
  The contracts of slipwayref01.Decimal, slipwayref01.value.
-/
import Derived.Test.YtkijjmmebgogpaaDoorCol
import Derived.Test.YtkijjmmebgogpaaDoorMem
namespace Go.Proofs.YtkijjmmebgogpaaDoor
open Go.RowKit
set_option linter.unusedVariables false

theorem conv_one (w : World) (z : Int) (hz : 0 ≤ z ∧ z ≤ 255) : (convert 24 9 (.slice (some ⟨w.heap.size, 0, none⟩) 1 1)).run Tryd.prog (w.alloc (.cells #[.int .u8 z] 5)) = .ok (.string ⟨[UInt8.ofNat z.toNat].toArray⟩) (w.alloc (.cells #[.int .u8 z] 5)) := by
  exact conv_part ⟨some ⟨w.heap.size, 0, none⟩, 1, [z]⟩ _ ⟨by simpa using hz, Or.inr ⟨_, 0, rfl, fun j hj => by
    have : j = 0 := by simp at hj; exact hj
    subst this
    rw [World.cell?_alloc_at _ _ _ _ rfl]; rfl⟩⟩

theorem conv_at (g : Nat) (w : World) (hg : g = w.heap.size) (z : Int) (hz : 0 ≤ z ∧ z ≤ 255) : (convert 24 9 (.slice (some ⟨g, 0, none⟩) 1 1)).run Tryd.prog (w.alloc (.cells #[.int .u8 z] 5)) = .ok (.string ⟨[UInt8.ofNat z.toNat].toArray⟩) (w.alloc (.cells #[.int .u8 z] 5)) := by
  subst hg; exact conv_one w z hz

set_option maxHeartbeats 1000000 in
theorem decimal_any (n : Int) (w : World) (h0 : 0 ≤ n) (h1 : n ≤ 255) :
    Calls Tryd.prog 28 #[.int .i64 n] w fun e w' => e = .returned (.string ⟨(dec n.toNat).toArray⟩) ∧ Below w.heap.size w w' := by
  by_cases a : n ≤ 9
  · have a2 : ¬ 9 < n := by omega
    have HD : Hid (dec n.toNat = [UInt8.ofNat (48 + n).toNat]) := by
      unfold Hid dec; rw [if_pos (by omega)]; congr 2; omega
    have c1 := fun w => conv_one w (48 + n) (by omega)
    go_enter Tryd.func28, Tryd.ntmps28
    go_wp2
    refine wp_loop_rounds 1 ?_
    rw [rounds_succ]
    go_wp2
    go_ret
    refine ⟨?_, (Below.refl _ _).alloc (Nat.le_refl _) _⟩
    rw [HD.out]
    congr 2
  · by_cases b : n ≤ 99
    · have b1 : 9 < n := by omega
      have b2 : ¬ 9 < n / 10 := by omega
      have HD : Hid (dec n.toNat = [UInt8.ofNat (48 + n / 10).toNat, UInt8.ofNat (48 + n % 10).toNat]) := by
        unfold Hid dec; rw [if_neg (by omega), if_pos (by omega)]; congr 2; omega; congr 2; omega
      have c1 := fun w => conv_one w (48 + n % 10) (by omega)
      have c2 := fun o => conv_at (w.heap.size + 1) (w.alloc o) (by simp) (48 + n / 10) (by omega)
      go_enter Tryd.func28, Tryd.ntmps28
      go_wp2
      refine wp_loop_rounds 2 ?_
      rw [rounds_succ]
      go_wp2
      rw [rounds_succ]
      go_wp2
      go_ret
      refine ⟨?_, ((Below.refl _ _).alloc (Nat.le_refl _) _).alloc (by simp) _⟩
      rw [HD.out]
      congr 2
    · have b1 : 9 < n := by omega
      have b2 : 9 < n / 10 := by omega
      have b3 : ¬ 9 < n / 10 / 10 := by omega
      have HD : Hid (dec n.toNat = [UInt8.ofNat (48 + n / 10 / 10).toNat, UInt8.ofNat (48 + n / 10 % 10).toNat, UInt8.ofNat (48 + n % 10).toNat]) := by
        unfold Hid dec; rw [if_neg (by omega), if_neg (by omega)]; congr 2; omega; congr 2; omega; congr 2; omega
      have c1 := fun w => conv_one w (48 + n % 10) (by omega)
      have c2 := fun o => conv_at (w.heap.size + 1) (w.alloc o) (by simp) (48 + n / 10 % 10) (by omega)
      have c3 := fun o o' => conv_at (w.heap.size + 1 + 1) ((w.alloc o).alloc o') (by simp) (48 + n / 10 / 10) (by omega)
      go_enter Tryd.func28, Tryd.ntmps28
      go_wp2
      refine wp_loop_rounds 3 ?_
      rw [rounds_succ]
      go_wp2
      rw [rounds_succ]
      go_wp2
      rw [rounds_succ]
      go_wp2
      go_ret
      refine ⟨?_, (((Below.refl _ _).alloc (Nat.le_refl _) _).alloc (by simp) _).alloc (by simp; omega) _⟩
      rw [HD.out]
      congr 2

set_option maxHeartbeats 400000 in
theorem value_any (c : Int) (w : World) (hc : 0 ≤ c ∧ c ≤ 255) :
    Calls Tryd.prog 26 #[.int .u8 c] w fun e w' => (∃ v : Int, e = .returned (.int .i64 v) ∧ ((0 ≤ v ∧ v < 16 ∧ hexd v = c) ∨ (v = 16 ∧ ∀ y : Int, 0 ≤ y → y < 16 → hexd y ≠ c))) ∧ w' = w := by
  have hx : ∀ k : Nat, k < 16 → ∀ w, (Instr.index 9 (.string ⟨#[48, 49, 50, 51, 52, 53, 54, 55, 56, 57, 97, 98, 99, 100, 101, 102]⟩) (.int .i64 k)).run Tryd.prog w = .ok (.int .u8 (hexd k)) w := by
    intro k hk w
    have h : k = 0 ∨ k = 1 ∨ k = 2 ∨ k = 3 ∨ k = 4 ∨ k = 5 ∨ k = 6 ∨ k = 7 ∨ k = 8 ∨ k = 9 ∨ k = 10 ∨ k = 11 ∨ k = 12 ∨ k = 13 ∨ k = 14 ∨ k = 15 := by omega
    rcases h with rfl | rfl | rfl | rfl | rfl | rfl | rfl | rfl | rfl | rfl | rfl | rfl | rfl | rfl | rfl | rfl <;> (show _ = _; kernel_rfl)
  have HX : Hid _ := hx
  clear hx
  go_enter Tryd.func26, Tryd.ntmps26
  go_wp2
  go_loop [3] (fun i => ∃ k : Nat, k ≤ 16 ∧ i = .int .i64 k ∧ ∀ y : Int, 0 ≤ y → y < k → hexd y ≠ c) (fun i => 16 - (intOf i).toNat)
  case atStart => exact ⟨0, by omega, rfl, fun y h0 h1 => by omega⟩
  case round =>
    obtain ⟨k, hk, rfl, hno⟩ := hrel
    have HNO : Hid (∀ y : Int, 0 ≤ y → y < k → hexd y ≠ c) := hno
    clear hno
    by_cases hlt : k < 16
    · have hxk := HX.out k hlt
      have hlt2 : (k : Int) < 16 := by omega
      by_cases he : hexd k = c
      · have heb : (hexd (k : Int) == c) = true := by simpa using he
        have HE : Hid (hexd k = c) := he
        clear he
        go_wp2
        go_ret
        exact ⟨⟨k, rfl, Or.inl ⟨by omega, by omega, HE.out⟩⟩, rfl⟩
      · have heb : (hexd (k : Int) == c) = false := by simpa using he
        have HE : Hid (¬ hexd k = c) := he
        clear he
        go_wp2
        go_round
        case rel => exact ⟨k + 1, by omega, by go_num, fun y y0 y1 => by
          by_cases hy : y < k
          · exact HNO.out y y0 hy
          · have : y = k := by omega
            rw [this]; exact HE.out⟩
        case measure => simp [intOf]; omega
    · have hge : ¬ (k : Int) < 16 := by omega
      go_wp2
      go_ret
      exact ⟨⟨16, rfl, Or.inr ⟨rfl, fun y y0 y1 => HNO.out y y0 (by omega)⟩⟩, rfl⟩
end Go.Proofs.YtkijjmmebgogpaaDoor
