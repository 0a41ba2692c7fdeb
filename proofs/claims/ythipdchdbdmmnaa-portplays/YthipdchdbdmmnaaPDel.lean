/-
  Port: slices.Delete of the first datagram; take.
-/
import Derived.Test.YthipdchdbdmmnaaPQue
namespace Go.Proofs.Ythipdchdbdmmnaa
open Go.RowKit
set_option linter.all false

theorem addr_add (g o j : Nat) : (⟨g, o, none⟩ : Addr).add j = ⟨g, o + j, none⟩ := by unfold Addr.add; split <;> simp_all
def dz : Value := .agg #[.int .u32 0, .int .u32 0, .int .i64 0, .int .i64 0, .slice none 0 0]
def dzL : List Value := [.int .u32 0, .int .u32 0, .int .i64 0, .int .i64 0, .slice none 0 0]
theorem zeroDg (w : World) : (zeroValue 53).run Try.prog w = .ok dz w := by kernel_rfl
/-- 'clear(s)', s one datagram. -/
theorem clear_one (w : World) (ty : TypeId) (b o c : Nat) (hc : ∀ j, j < 5 → (w.cell? ⟨b, o + j, none⟩).isSome = true) (hf : ∀ j, j < 5 → w.frozen? ⟨b, o + j, none⟩ = false) :
    (Builtin.clear_ #[81] ty #[.slice (some ⟨b, o, none⟩) 1 c]).run Try.prog w = .ok (.tuple #[]) (w.setCells b o dzL) := by
  have hzc : (Builtin.zeroCells dz.cells 1).toList = dzL := by kernel_rfl
  have hst := run_storeCells_cells (P := Try.prog) b o dzL 0 w (by simpa [dzL] using hc) (by simpa [dzL] using hf) (by intro v hv; simp [dzL] at hv; rcases hv with rfl | rfl | rfl <;> rfl)
  simp only [Nat.add_zero] at hst
  simp only [dz] at hzc
  simp [Builtin.clear_, run_underlying Try.underlying81, zeroDg, dz, hzc, hst]
theorem putCells_take0 (l : List Value) (cur : Array Value) (o : Nat) (h : o + l.length ≤ cur.size) : (putCells cur o l).toList.take o = cur.toList.take o := by
  have := congrArg (List.take o) (putCells_take l cur o h)
  rw [List.take_take, Nat.min_eq_left (by omega), List.take_append_of_le_length (by simp; omega), List.take_take, Nat.min_self] at this
  exact this
/-- the first is gone. -/
theorem RowS.shift {w : World} {g n cp : Nat} {x5 rest : List Value} (h : RowS w 53 5 (.slice (some ⟨g, 0, none⟩) (n + 1) cp) (n + 1) (x5 ++ rest)) (h5 : x5.length = 5) :
    rest.length = n * 5 ∧ (∀ j u, rest[j]? = some u → w.cell? ⟨g, 5 + j, none⟩ = some u) ∧ (∀ j, j < (n + 1) * 5 → (w.cell? ⟨g, j, none⟩).isSome = true) ∧ (∀ j, w.frozen? ⟨g, j, none⟩ = false) ∧ n + 1 ≤ cp ∧ cp ≤ maxLen ∧
      RowS ((w.setCells g 0 rest).setCells g (n * 5) dzL) 53 5 (.slice (some ⟨g, 0, none⟩) n cp) n rest ∧ (∀ j, j < 5 → ((w.setCells g 0 rest).cell? ⟨g, n * 5 + j, none⟩).isSome = true) ∧ (∀ j, (w.setCells g 0 rest).frozen? ⟨g, j, none⟩ = false) := by
  have hlen : rest.length = n * 5 := by
    have := h.1
    rw [List.length_append, h5] at this
    omega
  rcases h.2 with ⟨h1, _⟩ | ⟨g', cap, cur, hv, _, hg, hnc, hm, hs, htk⟩
  · simp at h1
  · simp only [Value.slice.injEq, Option.some.injEq, Addr.mk.injEq] at hv
    obtain ⟨⟨rfl, _⟩, _, rfl⟩ := hv
    have hfit : (n + 1) * 5 ≤ cur.size := by rw [hs]; omega
    have hg1 := heap_setCells rest w g 0 cur _ _ hg
    have hg2 := heap_setCells dzL _ g (n * 5) _ _ _ hg1
    have s1 : (putCells cur 0 rest).size = cur.size := putCells_size _ _ _
    have s2 : (putCells (putCells cur 0 rest) (n * 5) dzL).size = cur.size := by rw [putCells_size, s1]
    refine ⟨hlen, fun j u hj => ?_, fun j hj => ?_, fun j => frozen_of_heap hg j, hnc, hm, ⟨hlen, Or.inr ⟨g, cp, _, rfl, Nat.zero_le _, hg2, by omega, hm, by rw [s2]; exact hs, ?_⟩⟩, fun j hj => ?_, fun j => frozen_of_heap hg1 j⟩
    · exact h.cell (by rw [List.getElem?_append_right (by omega), h5, Nat.add_sub_cancel_left]; exact hj)
    · rw [cell_of_heap hg, Array.getElem?_eq_getElem (by omega)]; rfl
    · rw [putCells_take0 _ _ _ (by rw [s1]; simp [dzL]; omega)]
      have := putCells_take rest cur 0 (by omega)
      rw [Nat.zero_add, hlen] at this
      rw [this]; simp
    · rw [cell_of_heap hg1, Array.getElem?_eq_getElem (by omega)]; rfl
theorem drew_setCells : ∀ (l : List Value) (w : World) (g o : Nat), w.drew.setCells g o l = (w.setCells g o l).drew
  | [], w, g, o => rfl
  | v :: r, w, g, o => by rw [World.setCells, World.setCells]; exact drew_setCells r (w.setCell ⟨g, o, none⟩ v) g (o + 1)
end Go.Proofs.Ythipdchdbdmmnaa
