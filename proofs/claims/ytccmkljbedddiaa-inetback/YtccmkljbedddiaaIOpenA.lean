/-
  Heads of packets that came in.
-/
import Derived.Test.YtccmkljbedddiaaBOpen
import Derived.Test.YtccmkljbedddiaaIIp
namespace Go.Proofs.Ytccmkljbedddiaa
open Go.ChangeShapes Go.WideShapes Go.ChangeAt Go.RowKit Go.Deep
set_option linter.all false
section
variable {H : Type} {enc : TypeId × Value → H} {W W' : World}
theorem word_cell {sp : Nat → Bool} {m : Nat} {cs : List Value} {c : Value} {y : DataW H × List MemPlace} (h : DataW.trod enc Try.prog W 0 sp true m 25 cs = some y) (hc : cs = [c]) :
    ∃ n : Int, c = .int .u32 n ∧ 0 ≤ n ∧ n ≤ 4294967295 := by
  subst hc
  obtain ⟨n, e1, e2, hw⟩ := DataW.trod_int Try.underlying25 h
  simp at e1
  exact ⟨n, e1, bounds_u32 hw⟩
theorem bool_cell {sp : Nat → Bool} {m : Nat} {cs : List Value} {c : Value} {y : DataW H × List MemPlace} (h : DataW.trod enc Try.prog W 0 sp true m 4 cs = some y) (hc : cs = [c]) :
    ∃ b : Bool, c = .bool b := by
  subst hc
  obtain ⟨b, e1, e2⟩ := DataW.trod_bool Try.underlying4 h
  simp at e1
  exact ⟨b, e1⟩
set_option maxRecDepth 20000 in
theorem open_ip {base : Nat} {sp : Nat → Bool} {v : Value} {d : DataW H} {p : List MemPlace} (hv : Value.okWide Try.prog W .any base 27 v) (h : DataW.Trod enc Try.prog W 0 sp true 27 v d p) :
    ∃ a : Ip, v = a.val ∧ a.ok := by
  obtain ⟨⟨l⟩, rfl, hsz⟩ := okWide_struct Try.underlying27 hv
  rw [cellsIp] at hsz
  obtain ⟨fuel, hf⟩ := h
  obtain ⟨xs, n, _, hd, hl, hlen, hel⟩ := DataW.trod_struct Try.underlying27 hf
  simp only [Prod.mk.injEq] at hd
  have hl7 : l.length = 7 := hsz
  match l, hl7, xs, hlen with
  | [c0, c1, c2, c3, c4, c5, c6], _, [x0, x1, x2, x3, x4, x5, x6], _ =>
    have f0 := hel 0
    have f1 := hel 1
    have f2 := hel 2
    have f3 := hel 3
    have f4 := hel 4
    have f5 := hel 5
    have f6 := hel 6
    simp [cellsInt, Value.cells] at f0 f1 f2 f3
    simp [cellsBool, Value.cells] at f4
    simp [cellsU32, Value.cells] at f5 f6
    obtain ⟨k0, e0, b0⟩ := int_cell f0 rfl
    obtain ⟨k1, e1, b1⟩ := int_cell f1 rfl
    obtain ⟨k2, e2, b2⟩ := int_cell f2 rfl
    obtain ⟨k3, e3, b3⟩ := int_cell f3 rfl
    obtain ⟨k4, e4⟩ := bool_cell f4 rfl
    obtain ⟨k5, e5, b5⟩ := word_cell f5 rfl
    obtain ⟨k6, e6, b6⟩ := word_cell f6 rfl
    subst e0 e1 e2 e3 e4 e5 e6
    exact ⟨⟨k0, k1, k2, k3, k4, k5, k6⟩, rfl, b0, b1, b2, b3, b5, b6⟩
end
end Go.Proofs.Ytccmkljbedddiaa
