/-
  Stations and messages that came in.
-/
import Derived.Test.YtaaoelhmanahpaaBOpen
import Derived.Test.YtaaoelhmanahpaaAMac
namespace Go.Proofs.Ytaaoelhmanahpaa
open Go.ChangeShapes Go.WideShapes Go.ChangeAt Go.RowKit Go.Deep
set_option linter.all false
section
variable {H : Type} {enc : TypeId × Value → H} {W W' : World}
theorem mac_cells {sp : Nat → Bool} {m : Nat} {cs : List Value} {y : DataW H × List MemPlace} (h : DataW.trod enc Try.prog W 0 sp true m 24 cs = some y) : ∃ mc : Mac, cs = [.int .u8 mc.b0, .int .u8 mc.b1, .int .u8 mc.b2, .int .u8 mc.b3, .int .u8 mc.b4, .int .u8 mc.b5] ∧ mc.ok := by
  obtain ⟨xs, m, _, _, hl, hn, hel⟩ := DataW.trod_array Try.underlying24 h
  rw [cellsMac] at hl
  simp only [cellsU8, Nat.mul_one] at hel
  match cs, hl, xs, hn with
  | [c0, c1, c2, c3, c4, c5], _, [x0, x1, x2, x3, x4, x5], _ =>
    obtain ⟨n0, rfl, a0⟩ := byte_cell (hel 0 (by omega)) rfl
    obtain ⟨n1, rfl, a1⟩ := byte_cell (hel 1 (by omega)) rfl
    obtain ⟨n2, rfl, a2⟩ := byte_cell (hel 2 (by omega)) rfl
    obtain ⟨n3, rfl, a3⟩ := byte_cell (hel 3 (by omega)) rfl
    obtain ⟨n4, rfl, a4⟩ := byte_cell (hel 4 (by omega)) rfl
    obtain ⟨n5, rfl, a5⟩ := byte_cell (hel 5 (by omega)) rfl
    exact ⟨⟨n0, n1, n2, n3, n4, n5⟩, rfl, a0, a1, a2, a3, a4, a5⟩
set_option maxRecDepth 20000 in
theorem open_mac {base : Nat} {sp : Nat → Bool} {v : Value} {d : DataW H} {p : List MemPlace} (hv : Value.okWide Try.prog W .any base 24 v) (h : DataW.Trod enc Try.prog W 0 sp true 24 v d p) : ∃ m : Mac, v = m.val ∧ m.ok := by
  simp only [Value.okWide, Try.underlying24] at hv
  obtain ⟨⟨l⟩, rfl, hsz, _⟩ := hv
  obtain ⟨fuel, hf⟩ := h
  obtain ⟨m, hm, hok⟩ := mac_cells hf
  have e : l = _ := hm
  subst e
  exact ⟨m, rfl, hok⟩
theorem word_cell {sp : Nat → Bool} {m : Nat} {cs : List Value} {c : Value} {y : DataW H × List MemPlace} (h : DataW.trod enc Try.prog W 0 sp true m 39 cs = some y) (hc : cs = [c]) :
    ∃ n : Int, c = .int .u32 n ∧ 0 ≤ n ∧ n ≤ 4294967295 := by
  subst hc
  obtain ⟨n, e1, e2, hw⟩ := DataW.trod_int Try.underlying39 h
  simp at e1
  exact ⟨n, e1, bounds_u32 hw⟩
set_option maxRecDepth 20000 in
theorem open_arp {base : Nat} {sp : Nat → Bool} {v : Value} {d : DataW H} {p : List MemPlace} (hv : Value.okWide Try.prog W .any base 42 v) (h : DataW.Trod enc Try.prog W 0 sp true 42 v d p) :
    ∃ a : Arp, v = a.val ∧ a.ok := by
  obtain ⟨⟨l⟩, rfl, hsz⟩ := okWide_struct Try.underlying42 hv
  rw [cellsArp] at hsz
  obtain ⟨fuel, hf⟩ := h
  obtain ⟨xs, n, _, hd, hl, hlen, hel⟩ := DataW.trod_struct Try.underlying42 hf
  simp only [Prod.mk.injEq] at hd
  have hl15 : l.length = 15 := hsz
  match l, hl15, xs, hlen with
  | [c0, c1, c2, c3, c4, c5, c6, c7, c8, c9, c10, c11, c12, c13, c14], _, [x0, x1, x2, x3, x4], _ =>
    have f0 := hel 0
    have f1 := hel 1
    have f2 := hel 2
    have f3 := hel 3
    have f4 := hel 4
    simp [cellsInt, Value.cells] at f0
    simp [cellsMac, Value.cells] at f1
    simp [cellsU32, Value.cells] at f2
    simp [cellsMac, Value.cells] at f3
    simp [cellsU32, Value.cells] at f4
    obtain ⟨k, e0, bk⟩ := int_cell f0 rfl
    obtain ⟨m1, e1, ok1⟩ := mac_cells f1
    obtain ⟨i2, e2, b2⟩ := word_cell f2 rfl
    obtain ⟨m3, e3, ok3⟩ := mac_cells f3
    obtain ⟨i4, e4, b4⟩ := word_cell f4 rfl
    simp only [List.cons.injEq, and_true] at e1 e3
    obtain ⟨rfl, rfl, rfl, rfl, rfl, rfl⟩ := e1
    obtain ⟨rfl, rfl, rfl, rfl, rfl, rfl⟩ := e3
    subst e0 e2 e4
    exact ⟨⟨k, m1, i2, m3, i4⟩, rfl, bk, ok1, b2, ok3, b4⟩
end
end Go.Proofs.Ytaaoelhmanahpaa
