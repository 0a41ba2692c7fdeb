/-
  A list of slices built by append, and its sum; a list of numbers that came in.
-/
import Derived.Test.YtakjcjddbgapiaaDoorSumsC
import Derived.Test.YtakjcjddbgapiaaDoorOpenC
namespace Go.Proofs.YtakjcjddbgapiaaDoor
open Go.ChangeShapes Go.WideShapes Go.ChangeAt Go.RowKit
set_option linter.unusedVariables false

/-- v is a list of its own of the slices qs. -/
structure RowOf (w0 wr : World) (v : Value) (qs : List Part) : Prop where
  own : wr.ownsRow w0.heap.size 28 1 v qs.length (qs.map Part.val)
  below : Below w0.heap.size w0 wr

theorem RowOf.start (w0 : World) : RowOf w0 w0 (.slice none 0 0) [] := ⟨World.ownsRow_nil _ _ _ _, Below.refl _ _⟩

theorem RowOf.next {w0 wr : World} {v : Value} {qs : List Part} (h : RowOf w0 wr v qs) (q : Part) (hk : qs.length + 1 ≤ 2147483648) (ty : TypeId) :
    ∃ v' w', (Builtin.append_ #[31, 31] ty #[v, .slice (some ⟨wr.heap.size, 0, none⟩) 1 1]).run Tryd.prog (wr.alloc (.cells #[q.val] 28)) = .ok v' w' ∧ RowOf w0 w' v' (qs ++ [q]) := by
  obtain ⟨i, hi, hz0, hz1, hz2⟩ := info_parts infoSl
  have hb1 : Below wr.heap.size wr (wr.alloc (.cells #[q.val] 28)) := (Below.refl _ _).alloc (Nat.le_refl _) _
  have hsz := h.below.size
  have hown : (wr.alloc (.cells #[q.val] 28)).ownsRow w0.heap.size 28 1 v qs.length (qs.map Part.val) := h.own.alloc _
  obtain ⟨v', w', hrun, hown', hgr, _⟩ := run_append_own (P := Tryd.prog) _ w0.heap.size 31 ty 28 i (.slice none 0 0) 1 24 Tryd.underlying31 hi hz0 hz1 hz2 rfl (by decide) v qs.length (qs.map Part.val) hown
    ⟨wr.heap.size, 0, none⟩ 1 1 [q.val] rfl (fun j u hj => by
      have : j = 0 := by
        rcases j with _ | j
        · rfl
        · simp at hj
      subst this
      simp at hj
      subst hj
      rw [show (⟨wr.heap.size, 0, none⟩ : Addr).add 0 = ⟨wr.heap.size, 0, none⟩ from rfl, World.cell?_alloc_at _ _ _ _ rfl]
      rfl) (by simp [Part.val, Value.oneCell']) (by unfold maxLen; omega) (by omega) (by simp; omega)
  refine ⟨v', w', hrun, ⟨by rw [List.length_append, List.map_append]; exact hown', ?_⟩⟩
  refine (h.below.trans (hb1.mono hsz)).grown hgr (by simp; omega) (fun g hg => ?_)
  rcases hown.2 with ⟨rfl, _⟩ | ⟨g2, cap, cur, rfl, hB, _⟩
  · cases hg
  · simp only [Value.ownBlock, Option.some.injEq] at hg
    omega

theorem RowOf.sum {w0 wr : World} {v : Value} {qs : List Part} (h : RowOf w0 wr v qs) (hok : ∀ q, q ∈ qs → q.ok wr) (hl : (flat qs).length ≤ 140737488355328) (hn : qs.length ≤ 140737488355328) :
    Calls Tryd.prog 21 #[v] wr fun e w' => e = .returned (.int .u16 (sumOf (flat qs))) ∧ w' = wr := by
  rcases h.own.2 with ⟨rfl, h0⟩ | ⟨g2, cap, cur, rfl, hB, hg2, h1, h2, h3, h4⟩
  · obtain rfl := List.eq_nil_of_length_eq_zero h0
    exact sum_nil none 0 wr
  · refine sum_any g2 0 cap qs wr (fun i hi => ?_) hok hl hn
    rw [cell_of_heap hg2, Nat.zero_add]
    have e1 : (cur.toList.take (qs.length * 1))[i]? = (qs.map Part.val)[i]? := by rw [h4]
    rw [List.getElem?_take, if_pos (by omega)] at e1
    rw [← Array.getElem?_toList, e1]
    simp [hi, List.getD_eq_getElem?_getD]

theorem flat_snoc (qs : List Part) (q : Part) : flat (qs ++ [q]) = flat qs ++ q.zs := by simp [flat]

section
variable {H : Type} {enc : TypeId × Value → H} {W : World}
theorem cellsI64 : Tryd.prog.cellsOf 3 = 1 := by kernel_rfl
theorem open_intz {base : Nat} {sp : Nat → Bool} {v : Value} {d : DataW H} {p : List MemPlace} (hs : ∀ b, sp b = true) (hv : Value.okWide Tryd.prog W .any base 49 v) (h : DataW.Trod enc Tryd.prog W 0 sp true 49 v d p) :
    ∃ (a : Option Addr) (c : Nat) (zs : List Int), v = .slice a zs.length c ∧ (∀ i, i < zs.length → (∃ b o, a = some ⟨b, o, none⟩ ∧ W.cell? ⟨b, o + i, none⟩ = some (.int .i64 (zs.getD i 0))) ∧ -9223372036854775808 ≤ zs.getD i 0 ∧ zs.getD i 0 ≤ 9223372036854775807) ∧ (d = .nil ∧ zs = [] ∨ ∃ spare, d = .slice (lits .i64 zs) spare) := by
  obtain ⟨a, len, cap, rfl⟩ := okWide_slice Tryd.underlying49 hv
  obtain ⟨fuel, hf⟩ := h
  rcases open_ints Tryd.underlying49 Tryd.underlying3 cellsI64 hf with ⟨hcs, hx⟩ | ⟨x, l, c, zs, hcs, _, hl, hm, hz, hx, hcell, hwz⟩
  · simp [Value.cells] at hcs
    obtain ⟨rfl, rfl, rfl⟩ := hcs
    simp only [Prod.mk.injEq] at hx
    exact ⟨none, 0, [], rfl, by simp, Or.inl ⟨hx.1, rfl⟩⟩
  · simp [Value.cells] at hcs
    obtain ⟨rfl, rfl, rfl⟩ := hcs
    rw [if_pos (hs _)] at hz
    simp only [Prod.mk.injEq] at hx
    have hlen : (zs.take len).length = len := by simp; omega
    refine ⟨some x, cap, zs.take len, by rw [hlen], fun i hi => ?_, Or.inr ⟨_, hx.1⟩⟩
    rw [hlen] at hi
    obtain ⟨b, off, spot⟩ := x
    have hspot : spot = none := by simpa [Addr.add] using World.cell?_spot (hcell 0 (by omega))
    subst hspot
    have hg : (zs.take len).getD i 0 = zs.getD i 0 := by rw [List.getD_eq_getElem?_getD, List.getElem?_take, if_pos hi, ← List.getD_eq_getElem?_getD]
    rw [hg]
    refine ⟨⟨b, off, rfl, ?_⟩, ?_⟩
    · have := hcell i (by omega)
      rw [show (⟨b, off, none⟩ : Addr).add i = ⟨b, off + i, none⟩ from by unfold Addr.add; split <;> simp_all] at this
      simpa [List.getD_eq_getElem?_getD] using this
    · have hmem : zs.getD i 0 ∈ zs := by rw [List.getD_eq_getElem?_getD, List.getElem?_eq_getElem (by omega)]; exact List.getElem_mem _
      exact bounds_i64 (hwz _ hmem)
end
end Go.Proofs.YtakjcjddbgapiaaDoor
