/-
  Slices of elements of several cells, in a block of their own: what an append does to them. For seats with bytes (over BOwn).
-/
import Derived.Test.YtgcpoanjjgbfjaaBOwnP
namespace Go.Proofs.Ytgcpoanjjgbfjaa
open Go.RowKit
set_option linter.all false

/-- v is a slice of n elements of sz cells each, xs, at the head of a block of its own. -/
def RowS (w : World) (e : TypeId) (sz : Nat) (v : Value) (n : Nat) (xs : List Value) : Prop := w.ownsRow 0 e sz v n xs
theorem RowS.nil (w : World) (e : TypeId) (sz : Nat) : RowS w e sz (.slice none 0 0) 0 [] := World.ownsRow_nil w 0 e sz
theorem RowS.lt {w : World} {e : TypeId} {sz : Nat} {v : Value} {n : Nat} {xs : List Value} (h : RowS w e sz v n xs) {g : Nat} (hg : v.ownBlock = some g) : g < w.heap.size := (World.ownsRow.lt h g hg).2
theorem RowS.form {w : World} {e : TypeId} {sz : Nat} {v : Value} {n : Nat} {xs : List Value} (h : RowS w e sz v n xs) : ∃ ad cap, v = .slice ad n cap ∧ n ≤ maxLen := by
  rcases h.2 with ⟨rfl, rfl⟩ | ⟨g, cap, cur, rfl, _, hg, hl, hm, _⟩
  · exact ⟨none, 0, rfl, by omega⟩
  · exact ⟨_, cap, rfl, by omega⟩
theorem RowS.obj {w : World} {e : TypeId} {sz : Nat} {v : Value} {n : Nat} {xs : List Value} (h : RowS w e sz v n xs) {g : Nat} (hg : v.ownBlock = some g) : ∃ cur, w.heap[g]? = some (.cells cur e (0, 0)) := by
  rcases h.2 with ⟨rfl, _⟩ | ⟨g', cap, cur, rfl, _, h1, _⟩
  · simp [Value.ownBlock] at hg
  · simp [Value.ownBlock] at hg; subst hg; exact ⟨_, h1⟩
theorem RowS.keep {w w' : World} {e : TypeId} {sz : Nat} {v : Value} {n : Nat} {xs : List Value} (h : RowS w e sz v n xs) (hk : ∀ g, v.ownBlock = some g → w'.heap[g]? = w.heap[g]?) : RowS w' e sz v n xs := by
  refine ⟨h.1, ?_⟩
  rcases h.2 with h1 | ⟨g, cap, cur, rfl, h0, hg, r⟩
  · exact Or.inl h1
  · exact Or.inr ⟨g, cap, cur, rfl, h0, (hk g rfl).trans hg, r⟩
theorem RowS.below {w w' : World} {e : TypeId} {sz : Nat} {v : Value} {n : Nat} {xs : List Value} (h : RowS w e sz v n xs) (hb : Below w.heap.size w w') : RowS w' e sz v n xs := h.keep fun g hg => hb.block g (h.lt hg)
/-- what it reads. -/
theorem RowS.cell {w : World} {e : TypeId} {sz : Nat} {g n cap : Nat} {xs : List Value} (h : RowS w e sz (.slice (some ⟨g, 0, none⟩) n cap) n xs) {j : Nat} {u : Value} (hj : xs[j]? = some u) : w.cell? ⟨g, j, none⟩ = some u := by
  rcases h.2 with ⟨h1, _⟩ | ⟨g', cap', cur, hv, _, hg, hl, hm, hs, ht⟩
  · simp at h1
  · simp only [Value.slice.injEq, Option.some.injEq, Addr.mk.injEq] at hv
    obtain ⟨⟨rfl, _⟩, _, rfl⟩ := hv
    rw [cell_of_heap hg, ← Array.getElem?_toList]
    have hjl : j < n * sz := by have := (List.getElem?_eq_some_iff.1 hj).1; rw [h.1] at this; exact this
    have h1 : (cur.toList.take (n * sz))[j]? = xs[j]? := by rw [ht]
    rw [List.getElem?_take, if_pos hjl] at h1
    rw [h1, hj]
theorem RowS.some_of {w : World} {e : TypeId} {sz : Nat} {v : Value} {n : Nat} {xs : List Value} (h : RowS w e sz v n xs) (h0 : 0 < n) : ∃ g cap, v = .slice (some ⟨g, 0, none⟩) n cap ∧ n ≤ cap ∧ cap ≤ maxLen := by
  rcases h.2 with ⟨_, h1⟩ | ⟨g, cap, cur, rfl, _, hg, hl, hm, _⟩
  · omega
  · exact ⟨g, cap, rfl, hl, hm⟩
theorem info_sz {e : TypeId} {z : Value} {sz bytes : Nat} (h : (Try.prog.info? e).map (fun i => (i.zero, i.size, i.bytes)) = some (some z, sz, bytes)) : ∃ i, Try.prog.info? e = some i ∧ i.zero = some z ∧ i.size = sz ∧ i.bytes = bytes := by
  cases hq : Try.prog.info? e with
  | none => rw [hq] at h; simp at h
  | some i =>
    rw [hq] at h
    simp at h
    exact ⟨i, rfl, h.1, h.2.1, h.2.2⟩
theorem append_s (t ty e : TypeId) (z : Value) (sz bytes : Nat) (ht : Try.prog.underlying t = some (.slice e)) (hinfo : (Try.prog.info? e).map (fun i => (i.zero, i.size, i.bytes)) = some (some z, sz, bytes)) (hzc : z.cells.size = sz) (hsz : 0 < sz)
    {w : World} {v : Value} {n : Nat} {xs : List Value} (h : RowS w e sz v n xs) (a : Addr) (m c : Nat) (news : List Value) (hl : news.length = m * sz) (hnews : ∀ j u, news[j]? = some u → w.cell? (a.add j) = some u) (h1 : ∀ u ∈ news, u.oneCell' = true)
    (hml : n + m ≤ maxLen) (hbytes : (n + m) * bytes ≤ 140737488355328) :
    ∃ v' w', (Builtin.append_ #[t, t] ty #[v, .slice (some a) m c]).run Try.prog w = .ok v' w' ∧ RowS w' e sz v' (n + m) (xs ++ news) ∧ w.grownBy w' v.ownBlock ∧ (∀ k, v'.ownBlock = some k → v.ownBlock = some k ∨ w.heap.size ≤ k) := by
  obtain ⟨i, hi, hz0, hz1, hz2⟩ := info_sz hinfo
  have weak : ∀ (v' : Value) (w' : World), w'.ownsRow w.heap.size e sz v' (n + m) (xs ++ news) → RowS w' e sz v' (n + m) (xs ++ news) ∧ ∀ k, v'.ownBlock = some k → w.heap.size ≤ k := fun v' w' ho => by
    refine ⟨⟨ho.1, ?_⟩, fun k hk => (World.ownsRow.lt ho k hk).1⟩
    rcases ho.2 with h1 | ⟨g, cap, cur, hv, hB, r⟩
    · exact Or.inl h1
    · exact Or.inr ⟨g, cap, cur, hv, Nat.zero_le _, r⟩
  rcases h.2 with ⟨rfl, rfl⟩ | ⟨g, cap, cur, rfl, _, hg, hnc, hm, hs, htk⟩
  · have hx : xs = [] := List.eq_nil_of_length_eq_zero (by rw [h.1]; simp)
    subst hx
    obtain ⟨v', w', hrun, hown, hgr, _⟩ := run_append_own (P := Try.prog) w w.heap.size t ty e i z sz bytes ht hi hz0 hz1 hz2 hzc hsz (.slice none 0 0) 0 [] (World.ownsRow_nil w w.heap.size e sz) a m c news hl hnews h1 hml hbytes (Nat.le_refl _)
    obtain ⟨h2, h3⟩ := weak v' w' hown
    exact ⟨v', w', hrun, h2, hgr, fun k hk => Or.inr (h3 k hk)⟩
  · by_cases hroom : n + m ≤ cap
    · have hfit : n * sz + news.length ≤ cur.size := by rw [hl, hs, ← Nat.add_mul]; exact Nat.mul_le_mul_right _ hroom
      have hrun := run_append_room_cells (P := Try.prog) w t ty e i ht hi g 0 n cap a m c news (by rw [hz1]; exact hl) hnews h1 hroom
        (fun j hj => by rw [hz1, Nat.zero_add, cell_of_heap hg, Array.getElem?_eq_getElem (by omega)]; rfl)
        (fun j hj => by rw [hz1, Nat.zero_add]; exact frozen_of_heap hg _)
      rw [hz1, Nat.zero_add] at hrun
      refine ⟨_, _, hrun, ⟨by rw [List.length_append, h.1, hl, ← Nat.add_mul], Or.inr ⟨g, cap, putCells cur (n * sz) news, rfl, Nat.zero_le _, heap_setCells _ _ _ _ _ _ _ hg, hroom, hm, by rw [putCells_size]; exact hs, ?_⟩⟩, grown_setCells _ _ _ _, fun k hk => Or.inl hk⟩
      rw [Nat.add_mul, ← hl, putCells_take news cur (n * sz) hfit, htk]
    · obtain ⟨v', w', hrun, hown, hgr⟩ := run_append_arg_grows (P := Try.prog) w t ty e i z sz bytes ht hi hz0 hz1 hz2 hzc hsz ⟨g, 0, none⟩ n cap xs h.1
        (fun j u hj => by
          rw [show (⟨g, 0, none⟩ : Addr).add j = ⟨g, j, none⟩ from by unfold Addr.add; split <;> simp_all]
          exact RowS.cell h hj)
        a m c news hl hnews (by omega) hml hbytes
      obtain ⟨h2, h3⟩ := weak v' w' hown
      exact ⟨v', w', hrun, h2, ⟨hgr.os, hgr.tape, hgr.output, hgr.size, fun k hk _ => hgr.block k hk (by simp)⟩, fun k hk => Or.inr (h3 k hk)⟩
end Go.Proofs.Ytgcpoanjjgbfjaa
