/-
  The contract of octet.Get. For every seat.
-/
import Derived.Test.YtgcpoanjjgbfjaaBWidth
import Derived.Laws.BitsAllLaws
namespace Go.Proofs.Ytgcpoanjjgbfjaa
open Go.RowKit
set_option linter.all false

/-- the number that some bytes make, the highest first. -/
def getTo (zs : List Int) (a : Nat) : Nat → Int
  | 0 => 0
  | k + 1 => getTo zs a k * 256 + zs.getD (a + k) 0

theorem getTo_bd (zs : List Int) (hz : ∀ j, 0 ≤ zs.getD j 0 ∧ zs.getD j 0 ≤ 255) (a : Nat) : ∀ k, 0 ≤ getTo zs a k ∧ getTo zs a k < 256 ^ k
  | 0 => by simp [getTo]
  | k + 1 => by
    have h := getTo_bd zs hz a k
    have := hz (a + k)
    simp only [getTo, Int.pow_succ]
    omega

theorem or_join (x y : Int) (h0 : 0 ≤ x) (h1 : x < 72057594037927936) (h2 : 0 ≤ y) (h3 : y ≤ 255) :
    bits BinOp.or IntKind.u64 (x * 256) (IntKind.u64.wrap y) = x * 256 + y := by
  rw [IntKind.wrap_u64, Int.emod_eq_of_lt (by omega) (by omega)]
  rw [u64_or _ _ (by omega) (by omega) (by omega) (by omega), nat_join 8 _ _ (by omega) (by omega)]
  omega

theorem pow_le56 (k : Nat) (h : k ≤ 7) : (256 : Int) ^ k ≤ 72057594037927936 := by
  match k, h with
  | 0, _ => decide
  | 1, _ => decide
  | 2, _ => decide
  | 3, _ => decide
  | 4, _ => decide
  | 5, _ => decide
  | 6, _ => decide
  | 7, _ => decide

set_option maxHeartbeats 400000 in
theorem get_ok (b off len cap : Nat) (zs : List Int) (a m : Nat) (w : World) (h1 : 1 ≤ m) (h2 : m ≤ 8) (h3 : a + m ≤ len) (h4 : len ≤ 9223372036854775807)
    (hc : ∀ j, j < len → w.cell? ⟨b, off + j, none⟩ = some (.int .u8 (zs.getD j 0))) (hz : ∀ j, 0 ≤ zs.getD j 0 ∧ zs.getD j 0 ≤ 255) :
    Calls Try.prog 68 #[.slice (some ⟨b, off, none⟩) len cap, .int .i64 a, .int .i64 m] w fun e w' => e = .returned (.tuple #[.int .u64 (getTo zs a m), .int .i64 0]) ∧ w' = w := by
  have n1 : decide ((a : Int) < 0) = false := by simp
  have n2 : decide ((len : Int) - m < a) = false := by simp; omega
  go_enter Try.func68, Try.ntmps68
  go_wp2_with (go_at_call 75; refine (isWidth_yes _ _ (by omega) (by omega)).mono ?_; rintro e w' ⟨rfl, rfl⟩)
  go_loop [8, 24] (fun n i => ∃ k : Nat, k ≤ m ∧ i = .int .i64 k ∧ n = .int .u64 (getTo zs a k)) (fun _ i => m - (intOf i).toNat)
  case atStart => exact ⟨0, Nat.zero_le _, rfl, rfl⟩
  case round =>
    obtain ⟨k, hk, rfl, rfl⟩ := hrel
    have hg := getTo_bd zs hz a k
    by_cases hlt : k < m
    · have hcell := hc (a + k) (by omega)
      have hzz := hz (a + k)
      have hp := pow_le56 k (by omega)
      go_wp2
      go_round
      case rel =>
        refine ⟨k + 1, by omega, by go_num, ?_⟩
        have := or_join (getTo zs a k) (zs.getD (a + k) 0) hg.1 (by omega) hzz.1 hzz.2
        rw [List.getD_eq_getElem?_getD] at this
        rw [this]; simp [getTo]
      case measure => simp [intOf]; omega
    · have : k = m := by omega
      subst this
      go_wp2
      go_ret2
      exact ⟨rfl, rfl⟩

set_option maxHeartbeats 400000 in
theorem get_arg (v : Value) (a m : Int) (w : World) (h : m < 1 ∨ 8 < m ∨ a < 0) :
    Calls Try.prog 68 #[v, .int .i64 a, .int .i64 m] w fun e w' => e = .returned (.tuple #[.int .u64 0, .int .i64 1]) ∧ w' = w := by
  by_cases h1 : 1 ≤ m ∧ m ≤ 8
  · have h2 : a < 0 := by omega
    obtain ⟨h3, h4⟩ := h1
    clear h
    go_enter Try.func68, Try.ntmps68
    go_wp2_with (go_at_call 75; refine (isWidth_yes _ _ (by omega) (by omega)).mono ?_; rintro e w' ⟨rfl, rfl⟩)
    go_ret2
    exact ⟨rfl, rfl⟩
  · have hh : Hid (m < 1 ∨ 8 < m) := by unfold Hid; omega
    clear h h1
    go_enter Try.func68, Try.ntmps68
    go_wp2_with (go_at_call 75; refine (isWidth_no _ _ hh.out).mono ?_; rintro e w' ⟨rfl, rfl⟩)
    go_ret2
    exact ⟨rfl, rfl⟩

set_option maxHeartbeats 400000 in
theorem get_short (x : Option Addr) (len cap : Nat) (a m : Int) (w : World) (h1 : 1 ≤ m) (h2 : m ≤ 8) (h3 : 0 ≤ a) (h4 : (len : Int) - m < a) (h5 : len ≤ 9223372036854775807) :
    Calls Try.prog 68 #[.slice x len cap, .int .i64 a, .int .i64 m] w fun e w' => e = .returned (.tuple #[.int .u64 0, .int .i64 5]) ∧ w' = w := by
  go_enter Try.func68, Try.ntmps68
  go_wp2_with (go_at_call 75; refine (isWidth_yes _ _ (by omega) (by omega)).mono ?_; rintro e w' ⟨rfl, rfl⟩)
  go_ret2
  exact ⟨rfl, rfl⟩

/-- what Get answers. -/
def getAns (zs : List Int) (a m : Int) : Int × Int := if m < 1 ∨ 8 < m ∨ a < 0 then (0, 1) else if (zs.length : Int) - m < a then (0, 5) else (getTo zs a.toNat m.toNat, 0)

theorem get_part (pt : Part) (a m : Int) (w : World) (hok : pt.ok w) (hl : pt.zs.length ≤ 281474976710656) :
    Calls Try.prog 68 #[pt.val, .int .i64 a, .int .i64 m] w fun e w' => e = .returned (.tuple #[.int .u64 (getAns pt.zs a m).1, .int .i64 (getAns pt.zs a m).2]) ∧ w' = w := by
  unfold getAns
  by_cases h1 : m < 1 ∨ 8 < m ∨ a < 0
  · rw [if_pos h1]
    exact get_arg _ a m w h1
  · rw [if_neg h1]
    by_cases h2 : (pt.zs.length : Int) - m < a
    · rw [if_pos h2]
      exact get_short _ _ _ a m w (by omega) (by omega) (by omega) h2 (by omega)
    · rw [if_neg h2]
      have hbd := getD_mem_bd hok.1
      obtain ⟨x, c, zs⟩ := pt
      simp only [Part.val] at *
      rcases hok.2.2 with h | ⟨b, o, ha, hc⟩
      · simp only at h; subst h; simp at h2; omega
      · simp only at ha hc
        subst ha
        obtain ⟨A, hA⟩ := Int.eq_ofNat_of_zero_le (show 0 ≤ a by omega)
        obtain ⟨M, hM⟩ := Int.eq_ofNat_of_zero_le (show 0 ≤ m by omega)
        rw [hA, hM, Int.toNat_natCast, Int.toNat_natCast]
        exact get_ok b o zs.length c zs A M w (by omega) (by omega) (by omega) (by omega) hc hbd

end Go.Proofs.Ytgcpoanjjgbfjaa
