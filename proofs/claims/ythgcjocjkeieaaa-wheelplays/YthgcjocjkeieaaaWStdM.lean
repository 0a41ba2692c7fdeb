/-
  stands: how lists are written full, and grown.
-/
import Derived.Test.YthgcjocjkeieaaaWKept
namespace Go.Proofs.Ythgcjocjkeieaaa
open Go.RowKit
set_option linter.all false

def mk1 (i n : Nat) : Tm := ⟨-1000 - (i : Int), n, 0⟩
def marks (i n : Nat) : List Tm := (List.range n).map (mk1 i)
theorem marks_len (i n : Nat) : (marks i n).length = n := by simp [marks]
theorem marks_succ (i n : Nat) : marks i (n + 1) = marks i n ++ [mk1 i n] := by simp [marks, List.range_succ]
theorem marks_get {i n j : Nat} (h : j < n) : (marks i n)[j]? = some (mk1 i j) := by simp [marks, h]
theorem cellsF_set : ∀ (L : List Tm) (n : Nat) (y : Tm), n < L.length → cellsF (L.set n y) = (((cellsF L).set (n * 3) (.int .i64 y.t)).set (n * 3 + 1) (.int .i64 y.id)).set (n * 3 + 2) (.int .i64 y.tag)
  | [], n, y, h => by simp at h
  | x :: r, 0, y, h => by simp [cellsF, tmC]
  | x :: r, n + 1, y, h => by
    have ih := cellsF_set r n y (by simpa using h)
    unfold cellsF at *
    rw [List.set_cons_succ, List.flatMap_cons, ih, List.flatMap_cons]
    have e : ∀ (k : Nat) (l : List Value) (u : Value), (tmC x ++ l).set (k + 3) u = tmC x ++ l.set k u := fun k l u => by simp [tmC]
    rw [show (n + 1) * 3 = n * 3 + 3 from by omega, e, show n * 3 + 3 + 1 = n * 3 + 1 + 3 from by omega, e, show n * 3 + 3 + 2 = n * 3 + 2 + 3 from by omega, e]
/-- 'g[n] = y'. -/
theorem RowF.set3 {w : World} {g n cap : Nat} {L : List Tm} (h : RowF w (.slice (some ⟨g, 0, none⟩) L.length cap) L) (hn : n < L.length) (y : Tm) :
    (∀ t, t < 3 → ∃ u, w.cell? ⟨g, n * 3 + t, none⟩ = some u) ∧ (∀ j, w.frozen? ⟨g, j, none⟩ = false) ∧ RowF (((w.setCell ⟨g, n * 3, none⟩ (.int .i64 y.t)).setCell ⟨g, n * 3 + 1, none⟩ (.int .i64 y.id)).setCell ⟨g, n * 3 + 2, none⟩ (.int .i64 y.tag)) (.slice (some ⟨g, 0, none⟩) L.length cap) (L.set n y) := by
  rcases h.2 with ⟨h1, _⟩ | ⟨g', cap', cur, hv, _, hg, hl, hm, hs, ht⟩
  · simp at h1
  · simp only [Value.slice.injEq, Option.some.injEq, Addr.mk.injEq] at hv
    obtain ⟨⟨rfl, _⟩, _, rfl⟩ := hv
    have hcl := cellsF_len L
    have hcs : L.length * 3 ≤ cur.size := by rw [hs]; exact Nat.mul_le_mul_right 3 hl
    refine ⟨fun t ht3 => ⟨cur[n * 3 + t]'(by omega), by rw [cell_of_heap hg, Array.getElem?_eq_getElem (by omega)]⟩, fun j => frozen_of_heap hg j, cellsF_len _, Or.inr ⟨g, cap, _, by rw [List.length_set], Nat.zero_le _, heap_setCell (heap_setCell (heap_setCell hg)), by rw [List.length_set]; exact hl, hm, by simpa using hs, ?_⟩⟩
    rw [List.length_set, cellsF_set L n y hn, ← ht]
    simp only [Array.toList_setIfInBounds, List.take_set]
/-- one more at the end: in its place, or in a new block and nothing else is touched. -/
theorem row_push2 {w : World} {v : Value} {F : List Tm} (h : RowF w v F) (y : Tm) (hl : F.length ≤ 1048575) :
    ∃ ad cap w', (Builtin.append_ #[41, 41] 41 #[v, .slice (some ⟨w.heap.size, 0, none⟩) 1 1]).run Try.prog (w.alloc (.cells #[.int .i64 y.t, .int .i64 y.id, .int .i64 y.tag] 44)) = .ok (.slice ad (F.length + 1) cap) w' ∧ RowF w' (.slice ad (F.length + 1) cap) (F ++ [y]) ∧
      ((∃ g, v = .slice (some ⟨g, 0, none⟩) F.length cap ∧ ad = some ⟨g, 0, none⟩ ∧ Only (fun k => k = g) w w') ∨ ((∀ k, blkOf (.slice ad (F.length + 1) cap) k → w.heap.size ≤ k) ∧ Below w.heap.size w w')) := by
  have hb0 := balloc w (.cells #[.int .i64 y.t, .int .i64 y.id, .int .i64 y.tag] 44)
  have hml : 1048577 ≤ maxLen := by unfold maxLen; omega
  have h' := RowS.below h hb0
  obtain ⟨i, hi, hz0, hz1, hz2⟩ := info_sz infoF
  have hnews : ∀ j u, (tmC y)[j]? = some u → (w.alloc (.cells #[.int .i64 y.t, .int .i64 y.id, .int .i64 y.tag] 44)).cell? ((⟨w.heap.size, 0, none⟩ : Addr).add j) = some u := fun j u hj => by
    rw [show (⟨w.heap.size, 0, none⟩ : Addr).add j = ⟨w.heap.size, j, none⟩ from by unfold Addr.add; split <;> simp_all, cell_of_heap (heap_new w _), ← Array.getElem?_toList]
    exact hj
  have hone : ∀ u ∈ tmC y, u.oneCell' = true := fun u hu => by simp [tmC] at hu; rcases hu with rfl | rfl | rfl <;> rfl
  rcases h'.2 with ⟨rfl, h0⟩ | ⟨g, cap, cur, rfl, _, hg, hnc, hm, hs, htk⟩
  · have hF : F = [] := List.eq_nil_of_length_eq_zero h0
    subst hF
    obtain ⟨v', w', hrun, hrow, hgr, hown⟩ := append_s 41 41 44 _ 3 24 Try.underlying41 infoF rfl (by decide) h' ⟨w.heap.size, 0, none⟩ 1 1 (tmC y) rfl hnews hone (by simp; omega) (by simp)
    obtain ⟨ad, cap, rfl, _⟩ := RowS.form hrow
    refine ⟨ad, cap, w', hrun, hrow, Or.inr ⟨fun k hk => ?_, hb0.trans ⟨hgr.os, hgr.tape, hgr.output, hgr.size, fun k hk => hgr.block k (by have := hb0.size; omega) (by simp [Value.ownBlock])⟩⟩⟩
    rcases hown k hk with h1 | h1
    · simp [Value.ownBlock] at h1
    · have := hb0.size; omega
  · by_cases hroom : F.length + 1 ≤ cap
    · have hfit : F.length * 3 + (tmC y).length ≤ cur.size := by show F.length * 3 + 3 ≤ _; rw [hs]; omega
      have hrun := run_append_room_cells (P := Try.prog) (w.alloc (.cells #[.int .i64 y.t, .int .i64 y.id, .int .i64 y.tag] 44)) 41 41 44 i Try.underlying41 hi g 0 F.length cap ⟨w.heap.size, 0, none⟩ 1 1 (tmC y) (by rw [hz1]; rfl) hnews hone hroom
        (fun j hj => by rw [hz1, Nat.zero_add, cell_of_heap hg, Array.getElem?_eq_getElem (by omega)]; rfl)
        (fun j hj => by rw [hz1, Nat.zero_add]; exact frozen_of_heap hg _)
      rw [hz1, Nat.zero_add] at hrun
      have hgs := grown_setCells (tmC y) (w.alloc (.cells #[.int .i64 y.t, .int .i64 y.id, .int .i64 y.tag] 44)) g (F.length * 3)
      refine ⟨some ⟨g, 0, none⟩, cap, _, hrun, ⟨cellsF_len _ ▸ (by simp), Or.inr ⟨g, cap, putCells cur (F.length * 3) (tmC y), by simp, Nat.zero_le _, heap_setCells _ _ _ _ _ _ _ hg, by simpa using hroom, hm, by rw [putCells_size]; exact hs, ?_⟩⟩, Or.inl ⟨g, rfl, rfl, ⟨hgs.os.trans hb0.os, hgs.tape.trans hb0.tape, hgs.output.trans hb0.output, Nat.le_trans hb0.size hgs.size, fun k hk hkl => (hgs.block k (by have := hb0.size; omega) (by simpa using hk)).trans (hb0.block k hkl)⟩⟩⟩
      have := putCells_take (tmC y) cur (F.length * 3) hfit
      rw [show (F ++ [y]).length * 3 = F.length * 3 + (tmC y).length from by simp [tmC]; omega, this, htk, cellsF_app]
    · obtain ⟨v', w', hrun, hown, hgr⟩ := run_append_arg_grows (P := Try.prog) (w.alloc (.cells #[.int .i64 y.t, .int .i64 y.id, .int .i64 y.tag] 44)) 41 41 44 i _ 3 24 Try.underlying41 hi hz0 hz1 hz2 rfl (by decide) ⟨g, 0, none⟩ F.length cap (cellsF F) h'.1
        (fun j u hj => by
          rw [show (⟨g, 0, none⟩ : Addr).add j = ⟨g, j, none⟩ from by unfold Addr.add; split <;> simp_all]
          exact RowS.cell h' hj)
        ⟨w.heap.size, 0, none⟩ 1 1 (tmC y) rfl hnews (by omega) (by omega) (by omega)
      have hrow : RowF w' v' (F ++ [y]) := by
        refine ⟨cellsF_len _, ?_⟩
        rw [cellsF_app, List.length_append]
        rcases hown.2 with h1 | ⟨g', cap', cur', hv', hB, r⟩
        · exact Or.inl h1
        · exact Or.inr ⟨g', cap', cur', hv', Nat.zero_le _, r⟩
      obtain ⟨ad, cap', rfl, _⟩ := RowS.form hrow
      have hlo := fun k hk => (World.ownsRow.lt hown k hk).1
      rw [List.length_append] at hrun hrow hlo
      refine ⟨ad, cap', w', hrun, hrow, Or.inr ⟨fun k hk => by have := hlo k hk; have := hb0.size; omega, hb0.trans ⟨hgr.os, hgr.tape, hgr.output, hgr.size, fun k hk => hgr.block k (by have := hb0.size; omega) (by simp)⟩⟩⟩
/-- a list's beginning, in the same block. -/
theorem RowF.cut {w : World} {g n cap c2 m : Nat} {L K : List Tm} (h : RowF w (.slice (some ⟨g, 0, none⟩) n cap) L) (hn : n = L.length) (hm : m ≤ L.length) (hk : K = L.take m) (hc : c2 = cap) : RowF w (.slice (some ⟨g, 0, none⟩) m c2) K := by
  subst hk hc hn
  have hlen : (L.take m).length = m := by rw [List.length_take]; omega
  have hcl : ∀ (L : List Tm) (m : Nat), m ≤ L.length → cellsF (L.take m) = (cellsF L).take (m * 3) := fun L => by
    induction L with
    | nil => intro m hm; simp at hm; subst hm; rfl
    | cons x r ih =>
      intro m hm
      cases m with
      | zero => rfl
      | succ m =>
        have := ih m (by simpa using hm)
        unfold cellsF at *
        rw [List.take_succ_cons, List.flatMap_cons, List.flatMap_cons, this, show (m + 1) * 3 = m * 3 + 3 from by omega]
        simp [tmC]
  rcases h.2 with ⟨h1, _⟩ | ⟨g', cap', cur, hv, _, hg, hl, hmx, hs, ht⟩
  · simp at h1
  · simp only [Value.slice.injEq, Option.some.injEq, Addr.mk.injEq] at hv
    obtain ⟨⟨rfl, _⟩, _, rfl⟩ := hv
    refine ⟨by rw [hlen]; have := cellsF_len (L.take m); rw [hlen] at this; exact this, Or.inr ⟨g, c2, cur, by rw [hlen], Nat.zero_le _, hg, by omega, hmx, hs, ?_⟩⟩
    rw [hlen, hcl L m hm, ← ht, List.take_take, Nat.min_eq_left (Nat.mul_le_mul_right 3 hm)]
theorem RowF.size {w : World} {g n cap : Nat} {L : List Tm} (h : RowF w (.slice (some ⟨g, 0, none⟩) n cap) L) : ∃ cur, w.heap[g]? = some (.cells cur 44 (0, 0)) ∧ cur.size = cap * 3 := by
  rcases h.2 with ⟨h1, _⟩ | ⟨g', cap', cur, hv, _, hg, hl, hmx, hs, ht⟩
  · simp at h1
  · simp only [Value.slice.injEq, Option.some.injEq, Addr.mk.injEq] at hv
    obtain ⟨⟨rfl, _⟩, _, rfl⟩ := hv
    exact ⟨cur, hg, hs⟩
end Go.Proofs.Ythgcjocjkeieaaa
