/-
  slipwayref01.Uncolons by the texts that are a station's, and those that are none's.
-/
import Derived.Test.YtkijjmmebgogpaaDoorRefUnc
namespace Go.Proofs.YtkijjmmebgogpaaDoor
open Go.RowKit
set_option linter.unusedVariables false

theorem hv_hx : ∀ u : Fin 16, hval ((UInt8.ofNat (hexd (u.val : Int)).toNat).toNat : Int) = (u.val : Int) := by decide +kernel
theorem hv_of (y : Int) (h0 : 0 ≤ y) (h1 : y < 16) : hval ((UInt8.ofNat (hexd y).toNat).toNat : Int) = y := by
  obtain ⟨u, rfl⟩ := Int.eq_ofNat_of_zero_le h0
  exact hv_hx ⟨u, by omega⟩
theorem of_hv (c d : UInt8) (h1 : hval (c.toNat : Int) ≠ 16) (h2 : hval (d.toNat : Int) ≠ 16) : hx2 (16 * hval (c.toNat : Int) + hval (d.toNat : Int)) = [c, d] := by
  have k1 := hval_bd (c.toNat : Int)
  have k2 := hval_bd (d.toNat : Int)
  have e1 : (16 * hval (c.toNat : Int) + hval (d.toNat : Int)) / 16 = hval (c.toNat : Int) := by omega
  have e2 : (16 * hval (c.toNat : Int) + hval (d.toNat : Int)) % 16 = hval (d.toNat : Int) := by omega
  unfold hx2
  rw [e1, e2, hexd_hval _ h1, hexd_hval _ h2]
  simp

theorem refUncolons_yes (b0 b1 b2 b3 b4 b5 : Int) (w : World) (h0 : 0 ≤ b0 ∧ b0 ≤ 255) (h1 : 0 ≤ b1 ∧ b1 ≤ 255) (h2 : 0 ≤ b2 ∧ b2 ≤ 255) (h3 : 0 ≤ b3 ∧ b3 ≤ 255) (h4 : 0 ≤ b4 ∧ b4 ≤ 255) (h5 : 0 ≤ b5 ∧ b5 ≤ 255) :
    Calls Tryd.prog 13 #[.string ⟨(colL b0 b1 b2 b3 b4 b5).toArray⟩] w fun e w' => e = .returned (.tuple #[.agg #[.int .u8 b0, .int .u8 b1, .int .u8 b2, .int .u8 b3, .int .u8 b4, .int .u8 b5], .int .i64 0]) ∧ Below w.heap.size w w' := by
  have p0 := hv_of (b0 / 16) (by omega) (by omega)
  have q0 := hv_of (b0 % 16) (by omega) (by omega)
  have p1 := hv_of (b1 / 16) (by omega) (by omega)
  have q1 := hv_of (b1 % 16) (by omega) (by omega)
  have p2 := hv_of (b2 / 16) (by omega) (by omega)
  have q2 := hv_of (b2 % 16) (by omega) (by omega)
  have p3 := hv_of (b3 / 16) (by omega) (by omega)
  have q3 := hv_of (b3 % 16) (by omega) (by omega)
  have p4 := hv_of (b4 / 16) (by omega) (by omega)
  have q4 := hv_of (b4 % 16) (by omega) (by omega)
  have p5 := hv_of (b5 / 16) (by omega) (by omega)
  have q5 := hv_of (b5 % 16) (by omega) (by omega)
  refine (unc_core ⟨(colL b0 b1 b2 b3 b4 b5).toArray⟩ (colL_len b0 b1 b2 b3 b4 b5) w).mono ?_
  rintro e w' ⟨h, hbl⟩
  refine ⟨?_, hbl⟩
  rcases h with ⟨_, rfl⟩ | ⟨hn, _⟩
  · show Ending.returned (.tuple #[.agg #[.int .u8 (16 * hval ((UInt8.ofNat (hexd (b0 / 16)).toNat).toNat : Int) + hval ((UInt8.ofNat (hexd (b0 % 16)).toNat).toNat : Int)), .int .u8 (16 * hval ((UInt8.ofNat (hexd (b1 / 16)).toNat).toNat : Int) + hval ((UInt8.ofNat (hexd (b1 % 16)).toNat).toNat : Int)), .int .u8 (16 * hval ((UInt8.ofNat (hexd (b2 / 16)).toNat).toNat : Int) + hval ((UInt8.ofNat (hexd (b2 % 16)).toNat).toNat : Int)), .int .u8 (16 * hval ((UInt8.ofNat (hexd (b3 / 16)).toNat).toNat : Int) + hval ((UInt8.ofNat (hexd (b3 % 16)).toNat).toNat : Int)), .int .u8 (16 * hval ((UInt8.ofNat (hexd (b4 / 16)).toNat).toNat : Int) + hval ((UInt8.ofNat (hexd (b4 % 16)).toNat).toNat : Int)), .int .u8 (16 * hval ((UInt8.ofNat (hexd (b5 / 16)).toNat).toNat : Int) + hval ((UInt8.ofNat (hexd (b5 % 16)).toNat).toNat : Int))], .int .i64 0]) = _
    rw [p0, q0, p1, q1, p2, q2, p3, q3, p4, q4, p5, q5]
    rw [show 16 * (b0 / 16) + b0 % 16 = b0 by omega, show 16 * (b1 / 16) + b1 % 16 = b1 by omega, show 16 * (b2 / 16) + b2 % 16 = b2 by omega, show 16 * (b3 / 16) + b3 % 16 = b3 by omega, show 16 * (b4 / 16) + b4 % 16 = b4 by omega, show 16 * (b5 / 16) + b5 % 16 = b5 by omega]
  · refine absurd ?_ hn
    refine ⟨⟨?_, ?_, rfl⟩, ⟨?_, ?_, rfl⟩, ⟨?_, ?_, rfl⟩, ⟨?_, ?_, rfl⟩, ⟨?_, ?_, rfl⟩, ⟨?_, ?_⟩⟩
    · intro e; have e2 := p0.symm.trans e; omega
    · intro e; have e2 := q0.symm.trans e; omega
    · intro e; have e2 := p1.symm.trans e; omega
    · intro e; have e2 := q1.symm.trans e; omega
    · intro e; have e2 := p2.symm.trans e; omega
    · intro e; have e2 := q2.symm.trans e; omega
    · intro e; have e2 := p3.symm.trans e; omega
    · intro e; have e2 := q3.symm.trans e; omega
    · intro e; have e2 := p4.symm.trans e; omega
    · intro e; have e2 := q4.symm.trans e; omega
    · intro e; have e2 := p5.symm.trans e; omega
    · intro e; have e2 := q5.symm.trans e; omega

theorem refUncolons_no (s : ByteArray) (w : World)
    (h : ∀ b0 b1 b2 b3 b4 b5 : Int, (0 ≤ b0 ∧ b0 ≤ 255) → (0 ≤ b1 ∧ b1 ≤ 255) → (0 ≤ b2 ∧ b2 ≤ 255) → (0 ≤ b3 ∧ b3 ≤ 255) → (0 ≤ b4 ∧ b4 ≤ 255) → (0 ≤ b5 ∧ b5 ≤ 255) → ¬ colL b0 b1 b2 b3 b4 b5 = s.data.toList) :
    Calls Tryd.prog 13 #[.string s] w fun e w' => e = .returned (.tuple #[.agg #[.int .u8 0, .int .u8 0, .int .u8 0, .int .u8 0, .int .u8 0, .int .u8 0], .int .i64 10]) ∧ Below w.heap.size w w' := by
  by_cases hs : s.size = 17
  · refine (unc_core s hs w).mono ?_
    rintro e w' ⟨hh, hbl⟩
    refine ⟨?_, hbl⟩
    rcases hh with ⟨hg, _⟩ | ⟨_, rfl⟩
    · exfalso
      obtain ⟨⟨l⟩⟩ := s
      have hl : l.length = 17 := hs
      match l, hl with
      | [c0, c1, c2, c3, c4, c5, c6, c7, c8, c9, c10, c11, c12, c13, c14, c15, c16], _ =>
        obtain ⟨⟨x0, x1, x2⟩, ⟨x3, x4, x5⟩, ⟨x6, x7, x8⟩, ⟨x9, x10, x11⟩, ⟨x12, x13, x14⟩, x15, x16⟩ := hg
        have k0 := hval_bd (c0.toNat : Int)
        have k1 := hval_bd (c1.toNat : Int)
        have y0 : hval (c0.toNat : Int) ≠ 16 := x0
        have y1 : hval (c1.toNat : Int) ≠ 16 := x1
        have y2 : c2 = 58 := x2
        have k3 := hval_bd (c3.toNat : Int)
        have k4 := hval_bd (c4.toNat : Int)
        have y3 : hval (c3.toNat : Int) ≠ 16 := x3
        have y4 : hval (c4.toNat : Int) ≠ 16 := x4
        have y5 : c5 = 58 := x5
        have k6 := hval_bd (c6.toNat : Int)
        have k7 := hval_bd (c7.toNat : Int)
        have y6 : hval (c6.toNat : Int) ≠ 16 := x6
        have y7 : hval (c7.toNat : Int) ≠ 16 := x7
        have y8 : c8 = 58 := x8
        have k9 := hval_bd (c9.toNat : Int)
        have k10 := hval_bd (c10.toNat : Int)
        have y9 : hval (c9.toNat : Int) ≠ 16 := x9
        have y10 : hval (c10.toNat : Int) ≠ 16 := x10
        have y11 : c11 = 58 := x11
        have k12 := hval_bd (c12.toNat : Int)
        have k13 := hval_bd (c13.toNat : Int)
        have y12 : hval (c12.toNat : Int) ≠ 16 := x12
        have y13 : hval (c13.toNat : Int) ≠ 16 := x13
        have y14 : c14 = 58 := x14
        have k15 := hval_bd (c15.toNat : Int)
        have k16 := hval_bd (c16.toNat : Int)
        have y15 : hval (c15.toNat : Int) ≠ 16 := x15
        have y16 : hval (c16.toNat : Int) ≠ 16 := x16
        refine h (16 * hval (c0.toNat : Int) + hval (c1.toNat : Int)) (16 * hval (c3.toNat : Int) + hval (c4.toNat : Int)) (16 * hval (c6.toNat : Int) + hval (c7.toNat : Int)) (16 * hval (c9.toNat : Int) + hval (c10.toNat : Int)) (16 * hval (c12.toNat : Int) + hval (c13.toNat : Int)) (16 * hval (c15.toNat : Int) + hval (c16.toNat : Int)) (by omega) (by omega) (by omega) (by omega) (by omega) (by omega) ?_
        unfold colL
        rw [of_hv c0 c1 y0 y1, of_hv c3 c4 y3 y4, of_hv c6 c7 y6 y7, of_hv c9 c10 y9 y10, of_hv c12 c13 y12 y13, of_hv c15 c16 y15 y16, y2, y5, y8, y11, y14]
        rfl
    · rfl
  · exact unc_short s w (by simp; omega)
end Go.Proofs.YtkijjmmebgogpaaDoor
