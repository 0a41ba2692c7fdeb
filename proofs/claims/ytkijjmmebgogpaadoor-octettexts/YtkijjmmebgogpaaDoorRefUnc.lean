/-
  The contract of slipwayref01.Uncolons: the same split as octet.Uncolons's.
-/
import Derived.Test.YtkijjmmebgogpaaDoorRefCol
namespace Go.Proofs.YtkijjmmebgogpaaDoor
open Go.RowKit
set_option linter.unusedVariables false

/-- the value of a sixteenth's sign; 16: it is none. -/
def hval (c : Int) : Int := if 48 ≤ c ∧ c ≤ 57 then c - 48 else if 97 ≤ c ∧ c ≤ 102 then c - 87 else 16
theorem hval_bd (c : Int) : 0 ≤ hval c ∧ hval c ≤ 16 := by unfold hval; split <;> (try split) <;> omega
theorem hval_hexd (y : Int) (h0 : 0 ≤ y) (h1 : y < 16) : hval (hexd y) = y := by unfold hval hexd; split <;> split <;> (try split) <;> omega
theorem hexd_hval (c : Int) (h : hval c ≠ 16) : hexd (hval c) = c := by
  by_cases h1 : 48 ≤ c ∧ c ≤ 57
  · have e : hval c = c - 48 := by unfold hval; rw [if_pos h1]
    rw [e]; unfold hexd; rw [if_pos (by omega)]; omega
  · by_cases h2 : 97 ≤ c ∧ c ≤ 102
    · have e : hval c = c - 87 := by unfold hval; rw [if_neg h1, if_pos h2]
      rw [e]; unfold hexd; rw [if_neg (by omega)]; omega
    · exact absurd (by unfold hval; rw [if_neg h1, if_neg h2]) h
theorem value_h (c : UInt8) (w : World) : Calls Tryd.prog 26 #[.int .u8 (c.toNat : Int)] w fun e w' => e = .returned (.int .i64 (hval c.toNat)) ∧ w' = w := by
  have hc : (c.toNat : Int) ≤ 255 := by have := c.toNat_lt; omega
  refine (value_any (c.toNat : Int) w (by omega)).mono ?_
  rintro e w' ⟨⟨v, rfl, hv⟩, rfl⟩
  refine ⟨?_, rfl⟩
  rcases hv with ⟨h0, h1, h2⟩ | ⟨h0, h1⟩
  · rw [← h2, hval_hexd v h0 h1]
  · have : hval c.toNat = 16 := Classical.byContradiction fun h => by
      have hb := hval_bd (c.toNat : Int)
      exact h1 _ hb.1 (by omega) (hexd_hval _ h)
    rw [this, h0]

theorem unc_short (s : ByteArray) (w : World) (hs : ((s.size : Int) != 17) = true) :
    Calls Tryd.prog 13 #[.string s] w fun e w' => e = .returned (.tuple #[.agg #[.int .u8 0, .int .u8 0, .int .u8 0, .int .u8 0, .int .u8 0, .int .u8 0], .int .i64 10]) ∧ Below w.heap.size w w' := by
  go_enter Tryd.func13, Tryd.ntmps13
  go_wp2
  exact bodyPost_ret (v := .tuple #[.agg #[.int .u8 0, .int .u8 0, .int .u8 0, .int .u8 0, .int .u8 0, .int .u8 0], .int .i64 10]) (by simp [results, Tryd.results13, go_sem]) rfl ⟨rfl, by repeat (first | exact Below.refl _ _ | apply Below.drew | apply below_drewN | refine Below.alloc ?_ (by first | (simp; done) | (simp; omega)) _)⟩

set_option maxHeartbeats 2000000 in
theorem unc_core (s : ByteArray) (hs : s.size = 17) (w : World) :
    Calls Tryd.prog 13 #[.string s] w fun e w' => (((hval (s[0].toNat : Int) ≠ 16 ∧ hval (s[1].toNat : Int) ≠ 16 ∧ s[2] = 58) ∧ (hval (s[3].toNat : Int) ≠ 16 ∧ hval (s[4].toNat : Int) ≠ 16 ∧ s[5] = 58) ∧ (hval (s[6].toNat : Int) ≠ 16 ∧ hval (s[7].toNat : Int) ≠ 16 ∧ s[8] = 58) ∧ (hval (s[9].toNat : Int) ≠ 16 ∧ hval (s[10].toNat : Int) ≠ 16 ∧ s[11] = 58) ∧ (hval (s[12].toNat : Int) ≠ 16 ∧ hval (s[13].toNat : Int) ≠ 16 ∧ s[14] = 58) ∧ (hval (s[15].toNat : Int) ≠ 16 ∧ hval (s[16].toNat : Int) ≠ 16)) ∧ e = .returned (.tuple #[.agg #[.int .u8 (16 * hval (s[0].toNat : Int) + hval (s[1].toNat : Int)), .int .u8 (16 * hval (s[3].toNat : Int) + hval (s[4].toNat : Int)), .int .u8 (16 * hval (s[6].toNat : Int) + hval (s[7].toNat : Int)), .int .u8 (16 * hval (s[9].toNat : Int) + hval (s[10].toNat : Int)), .int .u8 (16 * hval (s[12].toNat : Int) + hval (s[13].toNat : Int)), .int .u8 (16 * hval (s[15].toNat : Int) + hval (s[16].toNat : Int))], .int .i64 0]) ∨
      ¬ ((hval (s[0].toNat : Int) ≠ 16 ∧ hval (s[1].toNat : Int) ≠ 16 ∧ s[2] = 58) ∧ (hval (s[3].toNat : Int) ≠ 16 ∧ hval (s[4].toNat : Int) ≠ 16 ∧ s[5] = 58) ∧ (hval (s[6].toNat : Int) ≠ 16 ∧ hval (s[7].toNat : Int) ≠ 16 ∧ s[8] = 58) ∧ (hval (s[9].toNat : Int) ≠ 16 ∧ hval (s[10].toNat : Int) ≠ 16 ∧ s[11] = 58) ∧ (hval (s[12].toNat : Int) ≠ 16 ∧ hval (s[13].toNat : Int) ≠ 16 ∧ s[14] = 58) ∧ (hval (s[15].toNat : Int) ≠ 16 ∧ hval (s[16].toNat : Int) ≠ 16)) ∧ e = .returned (.tuple #[.agg #[.int .u8 0, .int .u8 0, .int .u8 0, .int .u8 0, .int .u8 0, .int .u8 0], .int .i64 10])) ∧ Below w.heap.size w w' := by
  have b0 := hval_bd (s[0].toNat : Int)
  have b1 := hval_bd (s[1].toNat : Int)
  have b3 := hval_bd (s[3].toNat : Int)
  have b4 := hval_bd (s[4].toNat : Int)
  have b6 := hval_bd (s[6].toNat : Int)
  have b7 := hval_bd (s[7].toNat : Int)
  have b9 := hval_bd (s[9].toNat : Int)
  have b10 := hval_bd (s[10].toNat : Int)
  have b12 := hval_bd (s[12].toNat : Int)
  have b13 := hval_bd (s[13].toNat : Int)
  have b15 := hval_bd (s[15].toNat : Int)
  have b16 := hval_bd (s[16].toNat : Int)
  go_enter Tryd.func13, Tryd.ntmps13
  go_wp2
  refine wp_loop_rounds 7 ?_
  by_cases x0 : hval (s[0].toNat : Int) = 16
  · have y0 : (hval (s[0].toNat : Int) == 16) = true := by simpa using x0
    have H : Hid (hval (s[0].toNat : Int) = 16) := x0
    clear x0
    rw [rounds_succ]
    go_wp2_with (go_at_call 26; refine (value_h _ _).mono ?_; rintro e w' ⟨rfl, rfl⟩)
    exact bodyPost_ret (v := .tuple #[.agg #[.int .u8 0, .int .u8 0, .int .u8 0, .int .u8 0, .int .u8 0, .int .u8 0], .int .i64 10]) (by simp [results, Tryd.results13, go_sem]) rfl ⟨Or.inr ⟨fun hg => by exact hg.1.1 H.out, rfl⟩, by repeat (first | exact Below.refl _ _ | apply Below.drew | apply below_drewN | refine Below.alloc ?_ (by first | (simp; done) | (simp; omega)) _)⟩
  have y0 : (hval (s[0].toNat : Int) == 16) = false := by simpa using x0
  have z0 : hval (s[0].toNat : Int) < 16 := by omega
  have X0 : Hid (¬ hval (s[0].toNat : Int) = 16) := x0
  clear x0
  by_cases x1 : hval (s[1].toNat : Int) = 16
  · have y1 : (hval (s[1].toNat : Int) == 16) = true := by simpa using x1
    have H : Hid (hval (s[1].toNat : Int) = 16) := x1
    clear x1
    rw [rounds_succ]
    go_wp2_with (go_at_call 26; refine (value_h _ _).mono ?_; rintro e w' ⟨rfl, rfl⟩)
    exact bodyPost_ret (v := .tuple #[.agg #[.int .u8 0, .int .u8 0, .int .u8 0, .int .u8 0, .int .u8 0, .int .u8 0], .int .i64 10]) (by simp [results, Tryd.results13, go_sem]) rfl ⟨Or.inr ⟨fun hg => by exact hg.1.2.1 H.out, rfl⟩, by repeat (first | exact Below.refl _ _ | apply Below.drew | apply below_drewN | refine Below.alloc ?_ (by first | (simp; done) | (simp; omega)) _)⟩
  have y1 : (hval (s[1].toNat : Int) == 16) = false := by simpa using x1
  have z1 : hval (s[1].toNat : Int) < 16 := by omega
  have X1 : Hid (¬ hval (s[1].toNat : Int) = 16) := x1
  clear x1
  by_cases x2 : ¬ s[2] = 58
  · have y2 : ((s[2].toNat : Int) == 58) = false := by
      have hn : ¬ s[2].toNat = 58 := fun h => x2 (UInt8.toNat_inj.1 h)
      simp; omega
    have H : Hid (¬ s[2] = 58) := x2
    clear x2
    rw [rounds_succ]
    go_wp2_with (go_at_call 26; refine (value_h _ _).mono ?_; rintro e w' ⟨rfl, rfl⟩)
    exact bodyPost_ret (v := .tuple #[.agg #[.int .u8 0, .int .u8 0, .int .u8 0, .int .u8 0, .int .u8 0, .int .u8 0], .int .i64 10]) (by simp [results, Tryd.results13, go_sem]) rfl ⟨Or.inr ⟨fun hg => by exact H.out hg.1.2.2, rfl⟩, by repeat (first | exact Below.refl _ _ | apply Below.drew | apply below_drewN | refine Below.alloc ?_ (by first | (simp; done) | (simp; omega)) _)⟩
  have X2 : Hid (s[2] = 58) := Classical.not_not.1 x2
  clear x2
  have y2 : ((s[2].toNat : Int) == 58) = true := by rw [X2.out]; rfl
  rw [rounds_succ]
  go_wp2_with (go_at_call 26; refine (value_h _ _).mono ?_; rintro e w' ⟨rfl, rfl⟩)
  by_cases x3 : hval (s[3].toNat : Int) = 16
  · have y3 : (hval (s[3].toNat : Int) == 16) = true := by simpa using x3
    have H : Hid (hval (s[3].toNat : Int) = 16) := x3
    clear x3
    rw [rounds_succ]
    go_wp2_with (go_at_call 26; refine (value_h _ _).mono ?_; rintro e w' ⟨rfl, rfl⟩)
    exact bodyPost_ret (v := .tuple #[.agg #[.int .u8 0, .int .u8 0, .int .u8 0, .int .u8 0, .int .u8 0, .int .u8 0], .int .i64 10]) (by simp [results, Tryd.results13, go_sem]) rfl ⟨Or.inr ⟨fun hg => by exact hg.2.1.1 H.out, rfl⟩, by repeat (first | exact Below.refl _ _ | apply Below.drew | apply below_drewN | refine Below.alloc ?_ (by first | (simp; done) | (simp; omega)) _)⟩
  have y3 : (hval (s[3].toNat : Int) == 16) = false := by simpa using x3
  have z3 : hval (s[3].toNat : Int) < 16 := by omega
  have X3 : Hid (¬ hval (s[3].toNat : Int) = 16) := x3
  clear x3
  by_cases x4 : hval (s[4].toNat : Int) = 16
  · have y4 : (hval (s[4].toNat : Int) == 16) = true := by simpa using x4
    have H : Hid (hval (s[4].toNat : Int) = 16) := x4
    clear x4
    rw [rounds_succ]
    go_wp2_with (go_at_call 26; refine (value_h _ _).mono ?_; rintro e w' ⟨rfl, rfl⟩)
    exact bodyPost_ret (v := .tuple #[.agg #[.int .u8 0, .int .u8 0, .int .u8 0, .int .u8 0, .int .u8 0, .int .u8 0], .int .i64 10]) (by simp [results, Tryd.results13, go_sem]) rfl ⟨Or.inr ⟨fun hg => by exact hg.2.1.2.1 H.out, rfl⟩, by repeat (first | exact Below.refl _ _ | apply Below.drew | apply below_drewN | refine Below.alloc ?_ (by first | (simp; done) | (simp; omega)) _)⟩
  have y4 : (hval (s[4].toNat : Int) == 16) = false := by simpa using x4
  have z4 : hval (s[4].toNat : Int) < 16 := by omega
  have X4 : Hid (¬ hval (s[4].toNat : Int) = 16) := x4
  clear x4
  by_cases x5 : ¬ s[5] = 58
  · have y5 : ((s[5].toNat : Int) == 58) = false := by
      have hn : ¬ s[5].toNat = 58 := fun h => x5 (UInt8.toNat_inj.1 h)
      simp; omega
    have H : Hid (¬ s[5] = 58) := x5
    clear x5
    rw [rounds_succ]
    go_wp2_with (go_at_call 26; refine (value_h _ _).mono ?_; rintro e w' ⟨rfl, rfl⟩)
    exact bodyPost_ret (v := .tuple #[.agg #[.int .u8 0, .int .u8 0, .int .u8 0, .int .u8 0, .int .u8 0, .int .u8 0], .int .i64 10]) (by simp [results, Tryd.results13, go_sem]) rfl ⟨Or.inr ⟨fun hg => by exact H.out hg.2.1.2.2, rfl⟩, by repeat (first | exact Below.refl _ _ | apply Below.drew | apply below_drewN | refine Below.alloc ?_ (by first | (simp; done) | (simp; omega)) _)⟩
  have X5 : Hid (s[5] = 58) := Classical.not_not.1 x5
  clear x5
  have y5 : ((s[5].toNat : Int) == 58) = true := by rw [X5.out]; rfl
  rw [rounds_succ]
  go_wp2_with (go_at_call 26; refine (value_h _ _).mono ?_; rintro e w' ⟨rfl, rfl⟩)
  by_cases x6 : hval (s[6].toNat : Int) = 16
  · have y6 : (hval (s[6].toNat : Int) == 16) = true := by simpa using x6
    have H : Hid (hval (s[6].toNat : Int) = 16) := x6
    clear x6
    rw [rounds_succ]
    go_wp2_with (go_at_call 26; refine (value_h _ _).mono ?_; rintro e w' ⟨rfl, rfl⟩)
    exact bodyPost_ret (v := .tuple #[.agg #[.int .u8 0, .int .u8 0, .int .u8 0, .int .u8 0, .int .u8 0, .int .u8 0], .int .i64 10]) (by simp [results, Tryd.results13, go_sem]) rfl ⟨Or.inr ⟨fun hg => by exact hg.2.2.1.1 H.out, rfl⟩, by repeat (first | exact Below.refl _ _ | apply Below.drew | apply below_drewN | refine Below.alloc ?_ (by first | (simp; done) | (simp; omega)) _)⟩
  have y6 : (hval (s[6].toNat : Int) == 16) = false := by simpa using x6
  have z6 : hval (s[6].toNat : Int) < 16 := by omega
  have X6 : Hid (¬ hval (s[6].toNat : Int) = 16) := x6
  clear x6
  by_cases x7 : hval (s[7].toNat : Int) = 16
  · have y7 : (hval (s[7].toNat : Int) == 16) = true := by simpa using x7
    have H : Hid (hval (s[7].toNat : Int) = 16) := x7
    clear x7
    rw [rounds_succ]
    go_wp2_with (go_at_call 26; refine (value_h _ _).mono ?_; rintro e w' ⟨rfl, rfl⟩)
    exact bodyPost_ret (v := .tuple #[.agg #[.int .u8 0, .int .u8 0, .int .u8 0, .int .u8 0, .int .u8 0, .int .u8 0], .int .i64 10]) (by simp [results, Tryd.results13, go_sem]) rfl ⟨Or.inr ⟨fun hg => by exact hg.2.2.1.2.1 H.out, rfl⟩, by repeat (first | exact Below.refl _ _ | apply Below.drew | apply below_drewN | refine Below.alloc ?_ (by first | (simp; done) | (simp; omega)) _)⟩
  have y7 : (hval (s[7].toNat : Int) == 16) = false := by simpa using x7
  have z7 : hval (s[7].toNat : Int) < 16 := by omega
  have X7 : Hid (¬ hval (s[7].toNat : Int) = 16) := x7
  clear x7
  by_cases x8 : ¬ s[8] = 58
  · have y8 : ((s[8].toNat : Int) == 58) = false := by
      have hn : ¬ s[8].toNat = 58 := fun h => x8 (UInt8.toNat_inj.1 h)
      simp; omega
    have H : Hid (¬ s[8] = 58) := x8
    clear x8
    rw [rounds_succ]
    go_wp2_with (go_at_call 26; refine (value_h _ _).mono ?_; rintro e w' ⟨rfl, rfl⟩)
    exact bodyPost_ret (v := .tuple #[.agg #[.int .u8 0, .int .u8 0, .int .u8 0, .int .u8 0, .int .u8 0, .int .u8 0], .int .i64 10]) (by simp [results, Tryd.results13, go_sem]) rfl ⟨Or.inr ⟨fun hg => by exact H.out hg.2.2.1.2.2, rfl⟩, by repeat (first | exact Below.refl _ _ | apply Below.drew | apply below_drewN | refine Below.alloc ?_ (by first | (simp; done) | (simp; omega)) _)⟩
  have X8 : Hid (s[8] = 58) := Classical.not_not.1 x8
  clear x8
  have y8 : ((s[8].toNat : Int) == 58) = true := by rw [X8.out]; rfl
  rw [rounds_succ]
  go_wp2_with (go_at_call 26; refine (value_h _ _).mono ?_; rintro e w' ⟨rfl, rfl⟩)
  by_cases x9 : hval (s[9].toNat : Int) = 16
  · have y9 : (hval (s[9].toNat : Int) == 16) = true := by simpa using x9
    have H : Hid (hval (s[9].toNat : Int) = 16) := x9
    clear x9
    rw [rounds_succ]
    go_wp2_with (go_at_call 26; refine (value_h _ _).mono ?_; rintro e w' ⟨rfl, rfl⟩)
    exact bodyPost_ret (v := .tuple #[.agg #[.int .u8 0, .int .u8 0, .int .u8 0, .int .u8 0, .int .u8 0, .int .u8 0], .int .i64 10]) (by simp [results, Tryd.results13, go_sem]) rfl ⟨Or.inr ⟨fun hg => by exact hg.2.2.2.1.1 H.out, rfl⟩, by repeat (first | exact Below.refl _ _ | apply Below.drew | apply below_drewN | refine Below.alloc ?_ (by first | (simp; done) | (simp; omega)) _)⟩
  have y9 : (hval (s[9].toNat : Int) == 16) = false := by simpa using x9
  have z9 : hval (s[9].toNat : Int) < 16 := by omega
  have X9 : Hid (¬ hval (s[9].toNat : Int) = 16) := x9
  clear x9
  by_cases x10 : hval (s[10].toNat : Int) = 16
  · have y10 : (hval (s[10].toNat : Int) == 16) = true := by simpa using x10
    have H : Hid (hval (s[10].toNat : Int) = 16) := x10
    clear x10
    rw [rounds_succ]
    go_wp2_with (go_at_call 26; refine (value_h _ _).mono ?_; rintro e w' ⟨rfl, rfl⟩)
    exact bodyPost_ret (v := .tuple #[.agg #[.int .u8 0, .int .u8 0, .int .u8 0, .int .u8 0, .int .u8 0, .int .u8 0], .int .i64 10]) (by simp [results, Tryd.results13, go_sem]) rfl ⟨Or.inr ⟨fun hg => by exact hg.2.2.2.1.2.1 H.out, rfl⟩, by repeat (first | exact Below.refl _ _ | apply Below.drew | apply below_drewN | refine Below.alloc ?_ (by first | (simp; done) | (simp; omega)) _)⟩
  have y10 : (hval (s[10].toNat : Int) == 16) = false := by simpa using x10
  have z10 : hval (s[10].toNat : Int) < 16 := by omega
  have X10 : Hid (¬ hval (s[10].toNat : Int) = 16) := x10
  clear x10
  by_cases x11 : ¬ s[11] = 58
  · have y11 : ((s[11].toNat : Int) == 58) = false := by
      have hn : ¬ s[11].toNat = 58 := fun h => x11 (UInt8.toNat_inj.1 h)
      simp; omega
    have H : Hid (¬ s[11] = 58) := x11
    clear x11
    rw [rounds_succ]
    go_wp2_with (go_at_call 26; refine (value_h _ _).mono ?_; rintro e w' ⟨rfl, rfl⟩)
    exact bodyPost_ret (v := .tuple #[.agg #[.int .u8 0, .int .u8 0, .int .u8 0, .int .u8 0, .int .u8 0, .int .u8 0], .int .i64 10]) (by simp [results, Tryd.results13, go_sem]) rfl ⟨Or.inr ⟨fun hg => by exact H.out hg.2.2.2.1.2.2, rfl⟩, by repeat (first | exact Below.refl _ _ | apply Below.drew | apply below_drewN | refine Below.alloc ?_ (by first | (simp; done) | (simp; omega)) _)⟩
  have X11 : Hid (s[11] = 58) := Classical.not_not.1 x11
  clear x11
  have y11 : ((s[11].toNat : Int) == 58) = true := by rw [X11.out]; rfl
  rw [rounds_succ]
  go_wp2_with (go_at_call 26; refine (value_h _ _).mono ?_; rintro e w' ⟨rfl, rfl⟩)
  by_cases x12 : hval (s[12].toNat : Int) = 16
  · have y12 : (hval (s[12].toNat : Int) == 16) = true := by simpa using x12
    have H : Hid (hval (s[12].toNat : Int) = 16) := x12
    clear x12
    rw [rounds_succ]
    go_wp2_with (go_at_call 26; refine (value_h _ _).mono ?_; rintro e w' ⟨rfl, rfl⟩)
    exact bodyPost_ret (v := .tuple #[.agg #[.int .u8 0, .int .u8 0, .int .u8 0, .int .u8 0, .int .u8 0, .int .u8 0], .int .i64 10]) (by simp [results, Tryd.results13, go_sem]) rfl ⟨Or.inr ⟨fun hg => by exact hg.2.2.2.2.1.1 H.out, rfl⟩, by repeat (first | exact Below.refl _ _ | apply Below.drew | apply below_drewN | refine Below.alloc ?_ (by first | (simp; done) | (simp; omega)) _)⟩
  have y12 : (hval (s[12].toNat : Int) == 16) = false := by simpa using x12
  have z12 : hval (s[12].toNat : Int) < 16 := by omega
  have X12 : Hid (¬ hval (s[12].toNat : Int) = 16) := x12
  clear x12
  by_cases x13 : hval (s[13].toNat : Int) = 16
  · have y13 : (hval (s[13].toNat : Int) == 16) = true := by simpa using x13
    have H : Hid (hval (s[13].toNat : Int) = 16) := x13
    clear x13
    rw [rounds_succ]
    go_wp2_with (go_at_call 26; refine (value_h _ _).mono ?_; rintro e w' ⟨rfl, rfl⟩)
    exact bodyPost_ret (v := .tuple #[.agg #[.int .u8 0, .int .u8 0, .int .u8 0, .int .u8 0, .int .u8 0, .int .u8 0], .int .i64 10]) (by simp [results, Tryd.results13, go_sem]) rfl ⟨Or.inr ⟨fun hg => by exact hg.2.2.2.2.1.2.1 H.out, rfl⟩, by repeat (first | exact Below.refl _ _ | apply Below.drew | apply below_drewN | refine Below.alloc ?_ (by first | (simp; done) | (simp; omega)) _)⟩
  have y13 : (hval (s[13].toNat : Int) == 16) = false := by simpa using x13
  have z13 : hval (s[13].toNat : Int) < 16 := by omega
  have X13 : Hid (¬ hval (s[13].toNat : Int) = 16) := x13
  clear x13
  by_cases x14 : ¬ s[14] = 58
  · have y14 : ((s[14].toNat : Int) == 58) = false := by
      have hn : ¬ s[14].toNat = 58 := fun h => x14 (UInt8.toNat_inj.1 h)
      simp; omega
    have H : Hid (¬ s[14] = 58) := x14
    clear x14
    rw [rounds_succ]
    go_wp2_with (go_at_call 26; refine (value_h _ _).mono ?_; rintro e w' ⟨rfl, rfl⟩)
    exact bodyPost_ret (v := .tuple #[.agg #[.int .u8 0, .int .u8 0, .int .u8 0, .int .u8 0, .int .u8 0, .int .u8 0], .int .i64 10]) (by simp [results, Tryd.results13, go_sem]) rfl ⟨Or.inr ⟨fun hg => by exact H.out hg.2.2.2.2.1.2.2, rfl⟩, by repeat (first | exact Below.refl _ _ | apply Below.drew | apply below_drewN | refine Below.alloc ?_ (by first | (simp; done) | (simp; omega)) _)⟩
  have X14 : Hid (s[14] = 58) := Classical.not_not.1 x14
  clear x14
  have y14 : ((s[14].toNat : Int) == 58) = true := by rw [X14.out]; rfl
  rw [rounds_succ]
  go_wp2_with (go_at_call 26; refine (value_h _ _).mono ?_; rintro e w' ⟨rfl, rfl⟩)
  by_cases x15 : hval (s[15].toNat : Int) = 16
  · have y15 : (hval (s[15].toNat : Int) == 16) = true := by simpa using x15
    have H : Hid (hval (s[15].toNat : Int) = 16) := x15
    clear x15
    rw [rounds_succ]
    go_wp2_with (go_at_call 26; refine (value_h _ _).mono ?_; rintro e w' ⟨rfl, rfl⟩)
    exact bodyPost_ret (v := .tuple #[.agg #[.int .u8 0, .int .u8 0, .int .u8 0, .int .u8 0, .int .u8 0, .int .u8 0], .int .i64 10]) (by simp [results, Tryd.results13, go_sem]) rfl ⟨Or.inr ⟨fun hg => by exact hg.2.2.2.2.2.1 H.out, rfl⟩, by repeat (first | exact Below.refl _ _ | apply Below.drew | apply below_drewN | refine Below.alloc ?_ (by first | (simp; done) | (simp; omega)) _)⟩
  have y15 : (hval (s[15].toNat : Int) == 16) = false := by simpa using x15
  have z15 : hval (s[15].toNat : Int) < 16 := by omega
  have X15 : Hid (¬ hval (s[15].toNat : Int) = 16) := x15
  clear x15
  by_cases x16 : hval (s[16].toNat : Int) = 16
  · have y16 : (hval (s[16].toNat : Int) == 16) = true := by simpa using x16
    have H : Hid (hval (s[16].toNat : Int) = 16) := x16
    clear x16
    rw [rounds_succ]
    go_wp2_with (go_at_call 26; refine (value_h _ _).mono ?_; rintro e w' ⟨rfl, rfl⟩)
    exact bodyPost_ret (v := .tuple #[.agg #[.int .u8 0, .int .u8 0, .int .u8 0, .int .u8 0, .int .u8 0, .int .u8 0], .int .i64 10]) (by simp [results, Tryd.results13, go_sem]) rfl ⟨Or.inr ⟨fun hg => by exact hg.2.2.2.2.2.2 H.out, rfl⟩, by repeat (first | exact Below.refl _ _ | apply Below.drew | apply below_drewN | refine Below.alloc ?_ (by first | (simp; done) | (simp; omega)) _)⟩
  have y16 : (hval (s[16].toNat : Int) == 16) = false := by simpa using x16
  have z16 : hval (s[16].toNat : Int) < 16 := by omega
  have X16 : Hid (¬ hval (s[16].toNat : Int) = 16) := x16
  clear x16
  rw [rounds_succ]
  go_wp2_with (go_at_call 26; refine (value_h _ _).mono ?_; rintro e w' ⟨rfl, rfl⟩)
  rw [rounds_succ]
  go_wp2
  exact bodyPost_ret (v := .tuple #[.agg #[.int .u8 (16 * hval (s[0].toNat : Int) + hval (s[1].toNat : Int)), .int .u8 (16 * hval (s[3].toNat : Int) + hval (s[4].toNat : Int)), .int .u8 (16 * hval (s[6].toNat : Int) + hval (s[7].toNat : Int)), .int .u8 (16 * hval (s[9].toNat : Int) + hval (s[10].toNat : Int)), .int .u8 (16 * hval (s[12].toNat : Int) + hval (s[13].toNat : Int)), .int .u8 (16 * hval (s[15].toNat : Int) + hval (s[16].toNat : Int))], .int .i64 0]) (by simp [results, Tryd.results13, go_sem]) rfl ⟨Or.inl ⟨⟨⟨X0.out, X1.out, X2.out⟩, ⟨X3.out, X4.out, X5.out⟩, ⟨X6.out, X7.out, X8.out⟩, ⟨X9.out, X10.out, X11.out⟩, ⟨X12.out, X13.out, X14.out⟩, ⟨X15.out, X16.out⟩⟩, rfl⟩, by repeat (first | exact Below.refl _ _ | apply Below.drew | apply below_drewN | refine Below.alloc ?_ (by first | (simp; done) | (simp; omega)) _)⟩
end Go.Proofs.YtkijjmmebgogpaaDoor
