/-
  Messages that came in.
-/
import Derived.Test.YthmfappindbjnaaBOpen
namespace Go.Proofs.Ythmfappindbjnaa
open Go.ChangeShapes Go.WideShapes Go.ChangeAt Go.RowKit Go.Deep
set_option linter.all false
theorem cells_int : Try.prog.cellsOf 3 = 1 := by kernel_rfl
theorem cells_u32 : Try.prog.cellsOf 23 = 1 := by kernel_rfl
theorem cells_bytes : Try.prog.cellsOf 24 = 1 := by kernel_rfl
theorem cells_icmp : Try.prog.cellsOf 26 = 4 := by kernel_rfl
section
variable {H : Type} {enc : TypeId × Value → H} {W W' : World}
theorem u32_cell {sp : Nat → Bool} {m : Nat} {cs : List Value} {c : Value} {y : DataW H × List MemPlace} (h : DataW.trod enc Try.prog W 0 sp true m 23 cs = some y) (hc : cs = [c]) :
    ∃ n : Int, c = .int .u32 n ∧ 0 ≤ n ∧ n ≤ 4294967295 := by
  subst hc
  obtain ⟨n, e1, e2, hw⟩ := DataW.trod_int Try.underlying23 h
  simp at e1
  exact ⟨n, e1, bounds_u32 hw⟩
set_option maxRecDepth 20000 in
theorem opened_icmp {base : Nat} {sp : Nat → Bool} {v : Value} {d : DataW H} {p : List MemPlace} (hs : ∀ b, sp b = true) (hv : Value.okWide Try.prog W .any base 26 v) (h : DataW.Trod enc Try.prog W 0 sp true 26 v d p) :
    ∃ (k s t : Int) (pt : Part), v = .agg #[.int .i64 k, .int .i64 s, .int .u32 t, pt.val] ∧ (-9223372036854775808 ≤ k ∧ k ≤ 9223372036854775807) ∧ (-9223372036854775808 ≤ s ∧ s ≤ 9223372036854775807) ∧ (0 ≤ t ∧ t ≤ 4294967295) ∧ pt.ok W ∧ ∃ x0 x1 x2 x3, d = .agg [x0, x1, x2, x3] ∧ (x3 = .nil ∧ pt.zs = [] ∨ ∃ spare, x3 = .slice (lits .u8 pt.zs) spare) := by
  obtain ⟨⟨l⟩, rfl, hsz⟩ := okWide_struct Try.underlying26 hv
  rw [cells_icmp] at hsz
  obtain ⟨fuel, hf⟩ := h
  obtain ⟨xs, n, _, hd, hl, hlen, hel⟩ := DataW.trod_struct Try.underlying26 hf
  simp only [Prod.mk.injEq] at hd
  have hl4 : l.length = 4 := hsz
  match l, hl4, xs, hlen with
  | [c0, c1, c2, c3], _, [x0, x1, x2, x3], _ =>
    have f0 := hel 0
    have f1 := hel 1
    have f2 := hel 2
    have f3 := hel 3
    simp [cells_int, Value.cells] at f0 f1
    simp [cells_u32, Value.cells] at f2
    simp [cells_bytes, Value.cells] at f3
    obtain ⟨k0, e0, b0⟩ := int_cell f0 rfl
    obtain ⟨k1, e1, b1⟩ := int_cell f1 rfl
    obtain ⟨k2, e2, b2⟩ := u32_cell f2 rfl
    obtain ⟨pt, e3, okp, hx⟩ := bytes_cell hs f3 rfl
    subst e0 e1 e2 e3
    exact ⟨k0, k1, k2, pt, rfl, b0, b1, b2, okp, x0.1, x1.1, x2.1, x3.1, hd.1, hx⟩
theorem icmp_sized {ts : List TypeId} {ds : List (DataW H)} {x0 x1 x2 x3 : DataW H} {pt : Part} (hsz : (DataW.weightsEach Try.prog ts ds).all (· ≤ reachBytes) = true) {j : Nat} (ht : ts[j]? = some 26) (hd : ds[j]? = some (.agg [x0, x1, x2, x3]))
    (h : x3 = .nil ∧ pt.zs = [] ∨ ∃ spare, x3 = .slice (lits .u8 pt.zs) spare) : pt.zs.length ≤ 140737488351232 := by
  rcases h with ⟨_, h⟩ | ⟨spare, rfl⟩
  · simp [h]
  · have := List.all_eq_true.1 hsz _ (DataW.weights_mem_each ht hd (((lits (H := H) .u8 pt.zs).length + spare.length) * Try.prog.bytesOf 5) (by
      simp [DataW.weights, DataW.weightsEach, Try.underlying26, Try.underlying24]))
    rw [bytes_u8, reach_is] at this
    simp [lits] at this
    omega
end
end Go.Proofs.Ythmfappindbjnaa
