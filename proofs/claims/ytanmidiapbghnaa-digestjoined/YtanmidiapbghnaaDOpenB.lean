/-
  A slice of bytes that came in.
-/
import Derived.Test.YtanmidiapbghnaaDOpen
import Derived.Test.YtanmidiapbghnaaDHash
namespace Go.Proofs.Ytanmidiapbghnaa
open Go.ChangeShapes Go.WideShapes Go.ChangeAt Go.RowKit Go.Deep
set_option linter.unusedVariables false
section
variable {H : Type} {enc : TypeId × Value → H} {W W' : World}
theorem bytesU8 : Try.prog.bytesOf 5 = 1 := by kernel_rfl
theorem open_bytes {base : Nat} {sp : Nat → Bool} {v : Value} {d : DataW H} {p : List MemPlace} (hs : ∀ b, sp b = true) (hv : Value.okWide Try.prog W .any base 37 v) (h : DataW.Trod enc Try.prog W 0 sp true 37 v d p) :
    ∃ pt : Part, v = pt.val ∧ pt.ok W ∧ (d = .nil ∧ pt.zs = [] ∨ ∃ spare, d = .slice (lits .u8 pt.zs) spare) := by
  obtain ⟨a, len, cap, rfl⟩ := okWide_slice Try.underlying37 hv
  obtain ⟨fuel, hf⟩ := h
  rcases open_ints Try.underlying37 Try.underlying5 cellsU8 hf with ⟨hcs, hx⟩ | ⟨x, l, c, zs, hcs, _, hl, hm, hz, hx, hcell, hwz⟩
  · simp [Value.cells] at hcs
    obtain ⟨rfl, rfl, rfl⟩ := hcs
    simp only [Prod.mk.injEq] at hx
    exact ⟨⟨none, 0, []⟩, rfl, ⟨by simp, by simp, Or.inl rfl⟩, Or.inl ⟨hx.1, rfl⟩⟩
  · simp [Value.cells] at hcs
    obtain ⟨rfl, rfl, rfl⟩ := hcs
    rw [if_pos (hs _)] at hz
    simp only [Prod.mk.injEq] at hx
    have hlen : (zs.take len).length = len := by simp; omega
    refine ⟨⟨some x, cap, zs.take len⟩, by simp [Part.val, hlen], ⟨fun z hz' => ?_, by simp only [hlen]; omega, ?_⟩, Or.inr ⟨_, hx.1⟩⟩
    · exact bounds_u8 (hwz z (List.mem_of_mem_take hz'))
    · by_cases h0 : len = 0
      · left; simp [h0]
      · right
        obtain ⟨b, off, spot⟩ := x
        have hc := hcell 0 (by omega)
        have hspot : spot = none := by simpa [Addr.add] using World.cell?_spot hc
        subst hspot
        refine ⟨b, off, rfl, fun j hj => ?_⟩
        have hj' : j < len := by simpa [hlen] using hj
        have := hcell j (by omega)
        rw [show (⟨b, off, none⟩ : Addr).add j = ⟨b, off + j, none⟩ from by unfold Addr.add; split <;> simp_all] at this
        rw [List.getD_eq_getElem?_getD, List.getElem?_take, if_pos hj', ← List.getD_eq_getElem?_getD]
        simpa using this
theorem bytes_sized {ts : List TypeId} {ds : List (DataW H)} {d : DataW H} {pt : Part} (hsz : (DataW.weightsEach Try.prog ts ds).all (· ≤ reachBytes) = true) {j : Nat} (ht : ts[j]? = some 37) (hd : ds[j]? = some d)
    (h : d = .nil ∧ pt.zs = [] ∨ ∃ spare, d = .slice (lits .u8 pt.zs) spare) : pt.zs.length ≤ 140737488351232 := by
  rcases h with ⟨_, h⟩ | ⟨spare, rfl⟩
  · simp [h]
  · have := sized_slice hsz ht hd Try.underlying37
    rw [bytesU8, reach_is] at this
    simp [lits] at this
    omega
end
end Go.Proofs.Ytanmidiapbghnaa
