/-
  Lists that are put behind and taken off in front, in memory: slices of a block of their own, from any place on.
-/
import Derived.Test.YtkgjlfbnjccckaaPKT
import Derived.Test.YtkgjlfbnjccckaaBBook
namespace Go.Proofs.Ytkgjlfbnjccckaa
open Go.RowKit
set_option linter.all false

/-- v is a slice of the values vs, somewhere in a block that may be written. -/
def RowO (w : World) (e : TypeId) (v : Value) (vs : List Value) : Prop :=
  (v = .slice none 0 0 ∧ vs = []) ∨ ∃ (g off cap : Nat) (cur : Array Value), v = .slice (some ⟨g, off, none⟩) vs.length cap ∧ w.heap[g]? = some (.cells cur e (0, 0)) ∧ vs.length ≤ cap ∧ off + cap ≤ cur.size ∧ ∀ j u, vs[j]? = some u → cur[off + j]? = some u
theorem RowO.nil (w : World) (e : TypeId) : RowO w e (.slice none 0 0) [] := Or.inl ⟨rfl, rfl⟩
theorem RowO.lt {w : World} {e : TypeId} {v : Value} {vs : List Value} (h : RowO w e v vs) {b : Nat} (hb : v.ownBlock = some b) : b < w.heap.size := by
  rcases h with ⟨rfl, _⟩ | ⟨g, off, cap, cur, rfl, hg, _⟩
  · simp [Value.ownBlock] at hb
  · simp [Value.ownBlock] at hb; subst hb; exact heap_lt hg
theorem RowO.cells {w : World} {e : TypeId} {v : Value} {vs : List Value} (h : RowO w e v vs) {b : Nat} (hb : v.ownBlock = some b) : ∃ cur, w.heap[b]? = some (.cells cur e (0, 0)) := by
  rcases h with ⟨rfl, _⟩ | ⟨g, off, cap, cur, rfl, hg, _⟩
  · simp [Value.ownBlock] at hb
  · simp [Value.ownBlock] at hb; subst hb; exact ⟨cur, hg⟩
theorem RowO.keep {w w' : World} {e : TypeId} {v : Value} {vs : List Value} (h : RowO w e v vs) (hk : ∀ b, v.ownBlock = some b → w'.heap[b]? = w.heap[b]?) : RowO w' e v vs := by
  rcases h with h | ⟨g, off, cap, cur, rfl, hg, r⟩
  · exact Or.inl h
  · exact Or.inr ⟨g, off, cap, cur, rfl, (hk g rfl).trans hg, r⟩
theorem RowO.form {w : World} {e : TypeId} {a : Option Addr} {l cap : Nat} {vs : List Value} (h : RowO w e (.slice a l cap) vs) : l = vs.length ∧ l ≤ cap := by
  rcases h with ⟨h, rfl⟩ | ⟨g, off, cap', cur, h, hg, hl, _⟩
  · simp only [Value.slice.injEq] at h; obtain ⟨rfl, rfl, rfl⟩ := h; exact ⟨rfl, Nat.le_refl _⟩
  · simp only [Value.slice.injEq] at h; obtain ⟨rfl, rfl, rfl⟩ := h; exact ⟨rfl, hl⟩
/-- what it reads. -/
theorem RowO.cell {w : World} {e : TypeId} {a : Option Addr} {l cap : Nat} {vs : List Value} (h : RowO w e (.slice a l cap) vs) (j : Nat) (u : Value) (hj : vs[j]? = some u) : ∃ g off, a = some ⟨g, off, none⟩ ∧ w.cell? ⟨g, off + j, none⟩ = some u := by
  rcases h with ⟨_, rfl⟩ | ⟨g, off, cap', cur, hv, hg, hl, hs, hc⟩
  · simp at hj
  · simp only [Value.slice.injEq] at hv
    exact ⟨g, off, hv.1, by rw [cell_of_heap hg]; exact hc j u hj⟩
/-- v[k:], where something is left of its room. -/
theorem RowO.drop {w : World} {e : TypeId} {g off l cap : Nat} {vs : List Value} (h : RowO w e (.slice (some ⟨g, off, none⟩) l cap) vs) (k : Nat) (hk : k ≤ l) : RowO w e (.slice (some ⟨g, off + k, none⟩) (l - k) (cap - k)) (vs.drop k) := by
  rcases h with ⟨h, _⟩ | ⟨g', off', cap', cur, hv, hg, hl, hs, hc⟩
  · simp at h
  · simp only [Value.slice.injEq, Option.some.injEq, Addr.mk.injEq, and_true] at hv
    obtain ⟨⟨rfl, rfl⟩, rfl, rfl⟩ := hv
    refine Or.inr ⟨g, off + k, cap - k, cur, by simp, hg, by simp; omega, by omega, fun j u hj => ?_⟩
    rw [List.getElem?_drop] at hj
    rw [Nat.add_assoc]
    exact hc (k + j) u hj
/-- v[l:], where nothing is left of its room. -/
theorem RowO.over {w : World} {e : TypeId} {a : Option Addr} {l cap : Nat} {vs : List Value} (h : RowO w e (.slice a l cap) vs) : RowO w e (.slice a 0 0) [] := by
  rcases h with ⟨h, _⟩ | ⟨g', off', cap', cur, hv, hg, hl, hs, hc⟩
  · simp only [Value.slice.injEq] at h; obtain ⟨rfl, rfl, rfl⟩ := h; exact Or.inl ⟨rfl, rfl⟩
  · simp only [Value.slice.injEq] at hv
    obtain ⟨rfl, rfl, rfl⟩ := hv
    exact Or.inr ⟨g', off', 0, cur, rfl, hg, by simp, by omega, fun j u hj => by simp at hj⟩
/-- a string is put behind a list of strings. -/
theorem RowO.push {w : World} {v : Value} {vs : List Value} (h : RowO w 9 v vs) (x : Value) (hx : x.oneCell' = true) (hl : vs.length < 4398046511104) :
    ∃ g off cp w', (Builtin.append_ #[43, 43] 43 #[v, .slice (some ⟨w.heap.size, 0, none⟩) 1 1]).run Try.prog (w.alloc (.cells #[x] 9)) = .ok (.slice (some ⟨g, off, none⟩) (vs.length + 1) cp) w' ∧
      RowO w' 9 (.slice (some ⟨g, off, none⟩) (vs.length + 1) cp) (vs ++ [x]) ∧ (v.ownBlock = some g ∨ w.heap.size ≤ g) ∧ w.heap.size ≤ w'.heap.size ∧ (∀ k, k < w.heap.size → v.ownBlock ≠ some k → w'.heap[k]? = w.heap[k]?) ∧ w'.os = w.os ∧ w'.tape = w.tape ∧ w'.output = w.output := by
  obtain ⟨i, hi, hz0, hz1, hz2⟩ := info_three infoStr
  have hnews : ∀ j u, [x][j]? = some u → (w.alloc (.cells #[x] 9)).cell? ((⟨w.heap.size, 0, none⟩ : Addr).add j) = some u := fun j u hj => by
    have hj0 : j = 0 := by
      rcases Nat.eq_zero_or_pos j with h | h
      · exact h
      · rw [List.getElem?_eq_none (by simp; omega)] at hj; simp at hj
    subst hj0
    simp at hj
    subst hj
    rw [show (⟨w.heap.size, 0, none⟩ : Addr).add 0 = ⟨w.heap.size, 0, none⟩ from by unfold Addr.add; split <;> simp_all, cell_of_heap (heap_new w _)]
    rfl
  have of_new : ∀ (v' : Value) (w' : World), w'.ownsRow (w.heap.size + 1) 9 1 v' (vs.length + 1) (vs ++ [x]) → ∃ g cap, v' = .slice (some ⟨g, 0, none⟩) (vs.length + 1) cap ∧ w.heap.size ≤ g ∧ RowO w' 9 (.slice (some ⟨g, 0, none⟩) (vs.length + 1) cap) (vs ++ [x]) := fun v' w' ho => by
    rcases ho.2 with ⟨_, h0⟩ | ⟨g, cap, cur, hv, hB, hg, hl, hm, hs, htk⟩
    · omega
    · refine ⟨g, cap, hv, by omega, Or.inr ⟨g, 0, cap, cur, by simp, hg, by simpa using hl, by omega, fun j u hj => ?_⟩⟩
      rw [Nat.zero_add, ← Array.getElem?_toList]
      have hjl : j < vs.length + 1 := by have := (List.getElem?_eq_some_iff.1 hj).1; simpa using this
      rw [← htk, List.getElem?_take, if_pos (by omega)] at hj
      exact hj
  rcases h with ⟨rfl, rfl⟩ | ⟨g, off, cap, cur, rfl, hg, hlc, hs, hc⟩
  · obtain ⟨v', w', hrun, hown, hgr, _⟩ := run_append_own (P := Try.prog) (w.alloc (.cells #[x] 9)) (w.heap.size + 1) 43 43 9 i _ 1 16 Try.underlying43 hi hz0 hz1 hz2 rfl (by decide) (.slice none 0 0) 0 [] (World.ownsRow_nil _ _ _ 1) ⟨w.heap.size, 0, none⟩ 1 1 [x] (by simp) hnews (by simpa using hx) (by simp [maxLen]) (by simp) (by simp)
    obtain ⟨g, cp, rfl, h1, h2⟩ := of_new v' w' (by simpa using hown)
    have hsz := hgr.size
    simp at hsz
    exact ⟨g, 0, cp, w', hrun, h2, Or.inr h1, by omega, fun k hk _ => (hgr.block k (by simp; omega) (by simp [Value.ownBlock])).trans (heap_old _ _ hk), hgr.os, hgr.tape, hgr.output⟩
  · have hgl := heap_lt hg
    have hg1 : (w.alloc (.cells #[x] 9)).heap[g]? = some (.cells cur 9 (0, 0)) := (heap_old _ _ hgl).trans hg
    by_cases hroom : vs.length + 1 ≤ cap
    · have hrun := run_append_room_cells (P := Try.prog) (w.alloc (.cells #[x] 9)) 43 43 9 i Try.underlying43 hi g off vs.length cap ⟨w.heap.size, 0, none⟩ 1 1 [x] (by rw [hz1]; simp) hnews (by simpa using hx) hroom
        (fun j hj => by simp at hj; subst hj; rw [hz1, cell_of_heap hg1, Array.getElem?_eq_getElem (by omega)]; rfl)
        (fun j hj => by simp at hj; subst hj; rw [hz1]; exact frozen_of_heap hg1 _)
      simp only [hz1, Nat.mul_one, World.setCells] at hrun
      refine ⟨g, off, cap, _, hrun, Or.inr ⟨g, off, cap, cur.setIfInBounds (off + vs.length) x, by simp, heap_setCell hg1, by simpa using hroom, by simpa using hs, fun j u hj => ?_⟩, Or.inl rfl, by simp [World.setCell], fun k hk hn => ?_, rfl, rfl, rfl⟩
      · rcases Nat.lt_or_ge j vs.length with h1 | h1
        · rw [List.getElem?_append_left h1] at hj
          rw [Array.getElem?_setIfInBounds_ne (by omega)]
          exact hc j u hj
        · rw [List.getElem?_append_right h1] at hj
          have h2 : j - vs.length = 0 := by have := (List.getElem?_eq_some_iff.1 hj).1; simp at this; omega
          rw [h2] at hj
          simp at hj
          subst hj
          have : j = vs.length := by omega
          subst this
          rw [Array.getElem?_setIfInBounds_self_of_lt (by omega)]
      · rw [Below.heap_setCell _ _ _ _ (by simp [Value.ownBlock] at hn; simp; omega)]
        exact heap_old _ _ hk
    · obtain ⟨v', w', hrun, hown, hgr⟩ := run_append_arg_grows (P := Try.prog) (w.alloc (.cells #[x] 9)) 43 43 9 i _ 1 16 Try.underlying43 hi hz0 hz1 hz2 rfl (by decide) ⟨g, off, none⟩ vs.length cap vs (by simp)
        (fun j u hj => by
          rw [show (⟨g, off, none⟩ : Addr).add j = ⟨g, off + j, none⟩ from by unfold Addr.add; split <;> simp_all, cell_of_heap hg1]
          exact hc j u hj)
        ⟨w.heap.size, 0, none⟩ 1 1 [x] (by simp) hnews (by omega) (by unfold maxLen; omega) (by omega)
      obtain ⟨g', cp, rfl, h1, h2⟩ := of_new v' w' (by simpa using hown)
      have hsz := hgr.size
      simp at hsz
      exact ⟨g', 0, cp, w', hrun, h2, Or.inr h1, by omega, fun k hk _ => (hgr.block k (by simp; omega) (by simp)).trans (heap_old _ _ hk), hgr.os, hgr.tape, hgr.output⟩
end Go.Proofs.Ytkgjlfbnjccckaa
