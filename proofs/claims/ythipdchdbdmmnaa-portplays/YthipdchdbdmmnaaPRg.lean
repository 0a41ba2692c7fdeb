/-
  Port: the document's table: a datagram behind those that wait.
-/
import Derived.Test.YthipdchdbdmmnaaPRf
import Derived.Test.YthipdchdbdmmnaaBConv
namespace Go.Proofs.Ythipdchdbdmmnaa
open Go.RowKit
set_option linter.all false

theorem RowD.of_owns {w : World} {B : Nat} {v : Value} {n : Nat} {xs : List Value} (h : w.ownsRow B 53 5 v n xs) : RowD w v n xs := by
  refine ⟨h.1, ?_⟩
  rcases h.2 with h1 | ⟨g, cap, cur, hv, hB, hg, hnc, hm, hs, htk⟩
  · exact Or.inl h1
  · refine Or.inr ⟨g, 0, cap, cur, hv, hg, hnc, by omega, fun j u hj => ?_⟩
    rw [Nat.zero_add, ← Array.getElem?_toList]
    have hjl : j < n * 5 := by have := (List.getElem?_eq_some_iff.1 hj).1; have := h.1; omega
    rw [← htk, List.getElem?_take, if_pos hjl] at hj
    exact hj
set_option maxHeartbeats 1000000 in
/-- 'append(v, d)'. -/
theorem RowD.push {w : World} {v : Value} {n : Nat} {xs : List Value} (h : RowD w v n xs) (gt : Nat) (x5 : List Value) (h5 : x5.length = 5) (h1 : ∀ u ∈ x5, u.oneCell' = true) {f : Nat × Nat} (hgt : w.heap[gt]? = some (.cells x5.toArray 53 f)) (hn : n ≤ 64) :
    ∃ v' w', (Builtin.append_ #[81, 81] 81 #[v, .slice (some ⟨gt, 0, none⟩) 1 1]).run Try.prog w = .ok v' w' ∧ RowD w' v' (n + 1) (xs ++ x5) ∧ w.grownBy w' v.ownBlock ∧ (∀ k, v'.ownBlock = some k → v.ownBlock = some k ∨ w.heap.size ≤ k) := by
  obtain ⟨i, hi, hz0, hz1, hz2⟩ := info_sz infoDg
  have hnews : ∀ j u, x5[j]? = some u → w.cell? ((⟨gt, 0, none⟩ : Addr).add j) = some u := fun j u hj => by
    rw [addr_add, Nat.zero_add, cell_of_heap hgt]
    simpa using hj
  rcases h.2 with ⟨rfl, rfl⟩ | ⟨g, off, cap, cur, rfl, hg, hnc, hs, hc⟩
  · have hx : xs = [] := List.eq_nil_of_length_eq_zero (by have := h.1; omega)
    subst hx
    obtain ⟨v', w', hrun, hown, hgr, _⟩ := run_append_own (P := Try.prog) w w.heap.size 81 81 53 i _ 5 48 Try.underlying81 hi hz0 hz1 hz2 rfl (by omega) (.slice none 0 0) 0 [] (World.ownsRow_nil w w.heap.size _ 5) ⟨gt, 0, none⟩ 1 1 x5 (by omega) hnews h1 (by unfold maxLen; omega) (by omega) (Nat.le_refl _)
    exact ⟨v', w', hrun, RowD.of_owns hown, hgr, fun k hk => Or.inr (World.ownsRow.lt hown k hk).1⟩
  · by_cases hroom : n + 1 ≤ cap
    · have hcur : off + n * 5 + 5 ≤ cur.size := by omega
      have hrun := run_append_room_cells (P := Try.prog) w 81 81 53 i Try.underlying81 hi g off n cap ⟨gt, 0, none⟩ 1 1 x5 (by rw [hz1]; omega) hnews h1 hroom
        (fun j hj => by rw [hz1, cell_of_heap hg, Array.getElem?_eq_getElem (by omega)]; rfl)
        (fun j hj => by rw [hz1]; exact frozen_of_heap hg _)
      rw [hz1] at hrun
      refine ⟨_, _, hrun, ⟨by rw [List.length_append, h.1, h5]; omega, Or.inr ⟨g, off, cap, putCells cur (off + n * 5) x5, rfl, heap_setCells _ _ _ _ _ _ _ hg, hroom, by rw [putCells_size]; exact hs, fun j u hj => ?_⟩⟩, grown_setCells _ _ _ _, fun k hk => Or.inl hk⟩
      have ht := putCells_take x5 cur (off + n * 5) (by omega)
      have hjl : j < n * 5 + 5 := by have := (List.getElem?_eq_some_iff.1 hj).1; have := h.1; simp at *; omega
      have e1 : ((putCells cur (off + n * 5) x5).toList.take (off + n * 5 + x5.length))[off + j]? = (putCells cur (off + n * 5) x5)[off + j]? := by rw [List.getElem?_take, if_pos (by omega), Array.getElem?_toList]
      rw [← e1, ht]
      by_cases hj5 : j < n * 5
      · rw [List.getElem?_append_left (by simp; omega), List.getElem?_take, if_pos (by omega), Array.getElem?_toList]
        rw [List.getElem?_append_left (by rw [h.1]; exact hj5)] at hj
        exact hc j u hj
      · rw [List.getElem?_append_right (by simp; omega)]
        rw [List.getElem?_append_right (by rw [h.1]; omega), h.1] at hj
        rw [show off + j - (cur.toList.take (off + n * 5)).length = j - n * 5 by simp; omega]
        exact hj
    · obtain ⟨v', w', hrun, hown, hgr⟩ := run_append_arg_grows (P := Try.prog) w 81 81 53 i _ 5 48 Try.underlying81 hi hz0 hz1 hz2 rfl (by omega) ⟨g, off, none⟩ n cap xs h.1
        (fun j u hj => by rw [addr_add, cell_of_heap hg]; exact hc j u hj)
        ⟨gt, 0, none⟩ 1 1 x5 (by omega) hnews (by omega) (by unfold maxLen; omega) (by omega)
      exact ⟨v', w', hrun, RowD.of_owns hown, ⟨hgr.os, hgr.tape, hgr.output, hgr.size, fun k hk _ => hgr.block k hk (by simp)⟩, fun k hk => Or.inr (World.ownsRow.lt hown k hk).1⟩
end Go.Proofs.Ythipdchdbdmmnaa
