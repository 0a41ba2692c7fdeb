/-
  What is made of a draw: the rest by a number, numbers doubled; the small functions of dice.
-/
import Derived.Test.YtgcpoanjjgbfjaaPDMem
namespace Go.Proofs.Ytgcpoanjjgbfjaa
open Go.RowKit
set_option linter.all false

/-- the rest of a draw by gap + 1. -/
def restI (d gap : Int) : Int := d % (gap + 1)
theorem restI_bd {d gap : Int} (hd : 0 ≤ d ∧ d ≤ 4294967295) (hg : 0 ≤ gap) : 0 ≤ restI d gap ∧ restI d gap ≤ gap ∧ restI d gap ≤ 4294967295 := by
  unfold restI
  have h1 := Int.emod_nonneg d (show gap + 1 ≠ 0 by omega)
  have h2 := Int.emod_lt_of_pos d (show 0 < gap + 1 by omega)
  have h3 : d % (gap + 1) ≤ d := by
    rcases Int.lt_or_le d (gap + 1) with h | h
    · rw [Int.emod_eq_of_lt hd.1 h]; exact Int.le_refl _
    · omega
  omega
set_option maxHeartbeats 400000 in
theorem rest_any (d gap : Int) (w : World) (hd : 0 ≤ d ∧ d ≤ 4294967295) (hg : 0 ≤ gap ∧ gap ≤ 18446744073709551615) :
    Calls Try.prog 64 #[.int .u32 d, .int .u64 gap] w fun e w' => e = .returned (.int .u32 (restI d gap)) ∧ w' = w := by
  have b1 := hd.1
  have b2 := hd.2
  have b3 := hg.1
  have b4 := hg.2
  have c1 : IntKind.u64.wrap d = d := by simp only [IntKind.wrap_u64, IntKind.wrap_u32]; omega
  by_cases h : d ≤ gap
  · have HE : Hid (restI d gap = d) := Int.emod_eq_of_lt b1 (by omega)
    go_enter Try.func64, Try.ntmps64
    go_wp2
    go_ret
    exact ⟨ret_int HE.out.symm, rfl⟩
  · have h1 : ¬ d ≤ gap := h
    have c2 : IntKind.u64.wrap (gap + 1) = gap + 1 := by simp only [IntKind.wrap_u64, IntKind.wrap_u32]; omega
    have c3 : IntKind.u32.wrap (gap + 1) = gap + 1 := by simp only [IntKind.wrap_u64, IntKind.wrap_u32]; omega
    have c4 : ¬ gap + 1 = 0 := by omega
    have c5 : d.tmod (gap + 1) = restI d gap := by rw [Int.tmod_eq_emod_of_nonneg b1]; rfl
    have c7 : d % (gap + 1) = restI d gap := rfl
    have c6 := restI_bd hd b3
    have c8 := c6.1
    have c9 := c6.2.2
    clear hd hg h c6
    generalize restI d gap = R at *
    go_enter Try.func64, Try.ntmps64
    go_wp2
    go_ret
    exact ⟨rfl, rfl⟩
/-- a number as Backoff takes it. -/
def timeI (n : Int) : Int := min (max n 1) 1125899906842624
theorem timeI_bd (n : Int) : 1 ≤ timeI n ∧ timeI n ≤ 1125899906842624 := by unfold timeI; omega
set_option maxHeartbeats 400000 in
theorem asTime_any (n : Int) (w : World) : Calls Try.prog 61 #[.int .i64 n] w fun e w' => e = .returned (.int .i64 (timeI n)) ∧ w' = w := by
  rcases Int.lt_or_le n 1 with h | h
  · have h2 : ¬ 1 ≤ n := by omega
    have h3 : ¬ 1 < n := by omega
    go_enter Try.func61, Try.ntmps61
    go_wp2
    go_ret
    exact ⟨ret_int (by unfold timeI; omega), rfl⟩
  · rcases Int.lt_or_le 1125899906842624 n with k | k
    · have h2 : ¬ n < 1 := by omega
      have h4 : 1 < n := by omega
      have h3 : ¬ n ≤ 1125899906842624 := by omega
      have h5 : ¬ n < 1125899906842624 := by omega
      go_enter Try.func61, Try.ntmps61
      go_wp2
      go_ret
      exact ⟨ret_int (by unfold timeI; omega), rfl⟩
    · have h2 : ¬ n < 1 := by omega
      have h3 : ¬ 1125899906842624 < n := by omega
      go_enter Try.func61, Try.ntmps61
      go_wp2
      go_ret
      exact ⟨ret_int (by unfold timeI; omega), rfl⟩
/-- doubled n times, as long as it is below m; at most m. -/
def dbl : Nat → Int → Int → Int
  | 0, b, m => min b m
  | n + 1, b, m => if b < m then dbl n (b * 2) m else min b m
theorem dbl_stop {n : Nat} {b m : Int} (h : ¬ b < m) : dbl n b m = min b m := by cases n <;> simp [dbl, h]
theorem dbl_bd : ∀ (n : Nat) (b m : Int), 1 ≤ b → 1 ≤ m → 1 ≤ dbl n b m ∧ dbl n b m ≤ m
  | 0, b, m, h, k => by simp only [dbl]; omega
  | n + 1, b, m, h, k => by
    simp only [dbl]
    split
    · exact dbl_bd n (b * 2) m (by omega) k
    · omega
/-- the number that a wait is about. -/
def aboutI (base most try_ : Int) : Int := dbl (try_ - 1).toNat (timeI base) (timeI most)
theorem aboutI_bd (base most try_ : Int) : 1 ≤ aboutI base most try_ ∧ aboutI base most try_ ≤ 1125899906842624 := by
  have h1 := timeI_bd base
  have h2 := timeI_bd most
  have h3 := dbl_bd (try_ - 1).toNat (timeI base) (timeI most) (by omega) (by omega)
  unfold aboutI
  omega
set_option maxHeartbeats 1000000 in
theorem doubled_any (b m t : Int) (w : World) (hb : 1 ≤ b ∧ b ≤ 1125899906842624) (hm : 1 ≤ m ∧ m ≤ 1125899906842624) (ht : -9223372036854775808 ≤ t ∧ t ≤ 9223372036854775807) :
    Calls Try.prog 60 #[.int .i64 b, .int .i64 m, .int .i64 t] w fun e w' => e = .returned (.int .i64 (dbl (t - 1).toNat b m)) ∧ w' = w := by
  obtain ⟨R, hR⟩ : ∃ R, R = dbl (t - 1).toNat b m := ⟨_, rfl⟩
  have HR := hid hR
  have HB := hid hb
  have m1 := hm.1
  have m2 := hm.2
  have HT := hid ht
  rw [← hR]
  clear hR hb hm ht
  go_enter Try.func60, Try.ntmps60
  go_wp2
  go_loopw [0, 2] (fun x y wr => ∃ b' t' : Int, x = .int .i64 b' ∧ y = .int .i64 t' ∧ wr = w ∧ Hid (R = dbl (t' - 1).toNat b' m) ∧ Hid (1 ≤ b' ∧ b' ≤ 2251799813685248) ∧ Hid (-9223372036854775808 ≤ t' ∧ t' ≤ 9223372036854775807)) (fun _ y _ => (intOf y).toNat)
  case atStart => exact ⟨b, t, rfl, rfl, rfl, HR, by unfold Hid; have := HB.out; omega, HT⟩
  case round =>
    obtain ⟨b', t', rfl, rfl, rfl, H1, H2, H3⟩ := hrel
    have e1 := H2.out.1
    have e2 := H2.out.2
    have e3 := H3.out.1
    have e4 := H3.out.2
    clear HB HT
    by_cases h1 : 1 < t'
    · by_cases h2 : b' < m
      · have e5 : IntKind.i64.wrap (b' * 2) = b' * 2 := by simp only [IntKind.wrap_i64]; omega
        have e6 : IntKind.i64.wrap (t' - 1) = t' - 1 := by simp only [IntKind.wrap_i64]; omega
        go_wp2
        go_roundw
        case rel =>
          refine ⟨b' * 2, t' - 1, rfl, rfl, trivial, ?_, by unfold Hid; omega, by unfold Hid; omega⟩
          unfold Hid
          rw [H1.out, show (t' - 1).toNat = (t' - 1 - 1).toNat + 1 by omega, dbl, if_pos h2]
        case measure => simp [intOf]; omega
      · have h3 : m ≤ b' := by omega
        have HE : Hid (R = m) := by unfold Hid; rw [H1.out, dbl_stop h2]; omega
        rcases Int.lt_or_eq_of_le h3 with h4 | h4
        · have h5 : ¬ b' ≤ m := by omega
          go_wp2
          go_ret
          exact ⟨ret_int HE.out.symm, rfl⟩
        · have h5 : b' ≤ m := by omega
          have HF := hid h4
          clear h4
          go_wp2
          go_ret
          exact ⟨ret_int (by rw [HE.out]; have := HF.out; omega), rfl⟩
    · have h1' : t' ≤ 1 := by omega
      have HE : Hid (R = min b' m) := by unfold Hid; rw [H1.out, show (t' - 1).toNat = 0 by omega]; rfl
      rcases Int.lt_or_le b' m with h4 | h4
      · have h5 : ¬ m < b' := by omega
        have h6 : ¬ m ≤ b' := by omega
        go_wp2
        go_ret
        exact ⟨ret_int (by rw [HE.out]; omega), rfl⟩
      · rcases Int.lt_or_eq_of_le h4 with h4 | h4
        · have h5 : ¬ b' ≤ m := by omega
          have h6 : ¬ b' < m := by omega
          go_wp2
          go_ret
          exact ⟨ret_int (by rw [HE.out]; omega), rfl⟩
        · have h5 : b' ≤ m := by omega
          have h6 : ¬ b' < m := by omega
          have HF := hid h4
          clear h4
          go_wp2
          go_ret
          exact ⟨ret_int (by rw [HE.out]; have := HF.out; omega), rfl⟩
end Go.Proofs.Ytgcpoanjjgbfjaa
