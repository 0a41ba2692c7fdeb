/-
  Stations and frames that came in.
-/
import Derived.Test.YtnjhlndikbkeaaaBOpen
import Derived.Test.YtnjhlndikbkeaaaFMine
namespace Go.Proofs.Ytnjhlndikbkeaaa
open Go.ChangeShapes Go.WideShapes Go.ChangeAt Go.RowKit Go.Deep
set_option linter.all false
theorem cells_int : Try.prog.cellsOf 3 = 1 := by kernel_rfl
theorem cells_bytes : Try.prog.cellsOf 43 = 1 := by kernel_rfl
theorem cells_frame : Try.prog.cellsOf 51 = 14 := by kernel_rfl
section
variable {H : Type} {enc : TypeId × Value → H} {W W' : World}
theorem mac_cells {sp : Nat → Bool} {m : Nat} {cs : List Value} {y : DataW H × List MemPlace} (h : DataW.trod enc Try.prog W 0 sp true m 24 cs = some y) : ∃ mc : Mac, cs = [.int .u8 mc.b0, .int .u8 mc.b1, .int .u8 mc.b2, .int .u8 mc.b3, .int .u8 mc.b4, .int .u8 mc.b5] ∧ mc.ok := by
  obtain ⟨xs, m, _, _, hl, hn, hel⟩ := DataW.trod_array Try.underlying24 h
  rw [cellsMac] at hl
  simp only [cellsU8, Nat.mul_one] at hel
  match cs, hl, xs, hn with
  | [c0, c1, c2, c3, c4, c5], _, [x0, x1, x2, x3, x4, x5], _ =>
    obtain ⟨n0, rfl, a0⟩ := byte_cell (hel 0 (by omega)) rfl
    obtain ⟨n1, rfl, a1⟩ := byte_cell (hel 1 (by omega)) rfl
    obtain ⟨n2, rfl, a2⟩ := byte_cell (hel 2 (by omega)) rfl
    obtain ⟨n3, rfl, a3⟩ := byte_cell (hel 3 (by omega)) rfl
    obtain ⟨n4, rfl, a4⟩ := byte_cell (hel 4 (by omega)) rfl
    obtain ⟨n5, rfl, a5⟩ := byte_cell (hel 5 (by omega)) rfl
    exact ⟨⟨n0, n1, n2, n3, n4, n5⟩, rfl, a0, a1, a2, a3, a4, a5⟩
set_option maxRecDepth 20000 in
theorem open_mac {base : Nat} {sp : Nat → Bool} {v : Value} {d : DataW H} {p : List MemPlace} (hv : Value.okWide Try.prog W .any base 24 v) (h : DataW.Trod enc Try.prog W 0 sp true 24 v d p) : ∃ m : Mac, v = m.val ∧ m.ok := by
  simp only [Value.okWide, Try.underlying24] at hv
  obtain ⟨⟨l⟩, rfl, hsz, _⟩ := hv
  obtain ⟨fuel, hf⟩ := h
  obtain ⟨m, hm, hok⟩ := mac_cells hf
  have e : l = _ := hm
  subst e
  exact ⟨m, rfl, hok⟩
set_option maxRecDepth 20000 in
theorem opened_frame {base : Nat} {sp : Nat → Bool} {v : Value} {d : DataW H} {p : List MemPlace} (hs : ∀ b, sp b = true) (hv : Value.okWide Try.prog W .any base 51 v) (h : DataW.Trod enc Try.prog W 0 sp true 51 v d p) :
    ∃ (dm sm : Mac) (k : Int) (pt : Part), v = frameV dm sm k pt.val ∧ dm.ok ∧ sm.ok ∧ (-9223372036854775808 ≤ k ∧ k ≤ 9223372036854775807) ∧ pt.ok W ∧ ∃ x0 x1 x2 x3, d = .agg [x0, x1, x2, x3] ∧ (x3 = .nil ∧ pt.zs = [] ∨ ∃ spare, x3 = .slice (lits .u8 pt.zs) spare) := by
  obtain ⟨⟨l⟩, rfl, hsz⟩ := okWide_struct Try.underlying51 hv
  rw [cells_frame] at hsz
  obtain ⟨fuel, hf⟩ := h
  obtain ⟨xs, n, _, hd, hl, hlen, hel⟩ := DataW.trod_struct Try.underlying51 hf
  simp only [Prod.mk.injEq] at hd
  have hl14 : l.length = 14 := hsz
  match l, hl14, xs, hlen with
  | [c0, c1, c2, c3, c4, c5, c6, c7, c8, c9, c10, c11, c12, c13], _, [x0, x1, x2, x3], _ =>
    have f0 := hel 0
    have f1 := hel 1
    have f2 := hel 2
    have f3 := hel 3
    simp [cellsMac, Value.cells] at f0
    simp [cellsMac, Value.cells] at f1
    simp [cells_int, Value.cells] at f2
    simp [cells_bytes, Value.cells] at f3
    obtain ⟨m0, e0, ok0⟩ := mac_cells f0
    obtain ⟨m1, e1, ok1⟩ := mac_cells f1
    obtain ⟨k, e2, bk⟩ := int_cell f2 rfl
    obtain ⟨pt, e3, okp, hx⟩ := bytes_cell hs f3 rfl
    simp only [List.cons.injEq, and_true] at e0 e1
    obtain ⟨rfl, rfl, rfl, rfl, rfl, rfl⟩ := e0
    obtain ⟨rfl, rfl, rfl, rfl, rfl, rfl⟩ := e1
    subst e2 e3
    exact ⟨m0, m1, k, pt, rfl, ok0, ok1, bk, okp, x0.1, x1.1, x2.1, x3.1, hd.1, hx⟩
theorem frame_sized {ts : List TypeId} {ds : List (DataW H)} {x0 x1 x2 x3 : DataW H} {pt : Part} (hsz : (DataW.weightsEach Try.prog ts ds).all (· ≤ reachBytes) = true) {j : Nat} (ht : ts[j]? = some 51) (hd : ds[j]? = some (.agg [x0, x1, x2, x3]))
    (h : x3 = .nil ∧ pt.zs = [] ∨ ∃ spare, x3 = .slice (lits .u8 pt.zs) spare) : pt.zs.length ≤ 140737488351232 := by
  rcases h with ⟨_, h⟩ | ⟨spare, rfl⟩
  · simp [h]
  · have := List.all_eq_true.1 hsz _ (DataW.weights_mem_each ht hd (((lits (H := H) .u8 pt.zs).length + spare.length) * Try.prog.bytesOf 5) (by
      simp [DataW.weights, DataW.weightsEach, Try.underlying51, Try.underlying43]))
    rw [bytes_u8, reach_is] at this
    simp [lits] at this
    omega
end
end Go.Proofs.Ytnjhlndikbkeaaa
