/-
  Slices of bytes that a call itself has made: an append of bytes that lie anywhere. For every seat.
-/
import Derived.Test.YtgcpoanjjgbfjaaBOwn
namespace Go.Proofs.Ytgcpoanjjgbfjaa
open Go.RowKit
set_option linter.all false

theorem grown_setCells : ∀ (l : List Value) (w : World) (g o : Nat), w.grownBy (w.setCells g o l) (some g)
  | [], w, g, _ => grown_refl w _
  | v :: r, w, g, o => grown_trans (grown_setCell w g o v) (grown_setCells r _ g (o + 1)) (Or.inl rfl)
def putCells (cur : Array Value) : Nat → List Value → Array Value
  | _, [] => cur
  | o, v :: r => putCells (cur.setIfInBounds o v) (o + 1) r
theorem putCells_size : ∀ (l : List Value) (cur : Array Value) (o : Nat), (putCells cur o l).size = cur.size
  | [], _, _ => rfl
  | v :: r, cur, o => by rw [putCells, putCells_size r]; simp
theorem putCells_take : ∀ (l : List Value) (cur : Array Value) (o : Nat), o + l.length ≤ cur.size → (putCells cur o l).toList.take (o + l.length) = cur.toList.take o ++ l
  | [], cur, o, h => by simp [putCells]
  | v :: r, cur, o, h => by
    simp only [List.length_cons] at h
    have ih := putCells_take r (cur.setIfInBounds o v) (o + 1) (by simp; omega)
    rw [putCells, List.length_cons, show o + (r.length + 1) = o + 1 + r.length from by omega, ih]
    have hl : o < cur.toList.length := by simp; omega
    rw [Array.toList_setIfInBounds, List.take_succ_eq_append_getElem (by simpa using hl)]
    simp [List.take_set_of_le]
theorem heap_setCells : ∀ (l : List Value) (w : World) (g o : Nat) (cur : Array Value) (t : TypeId) (f : Nat × Nat), w.heap[g]? = some (.cells cur t f) → (w.setCells g o l).heap[g]? = some (.cells (putCells cur o l) t f)
  | [], _, _, _, _, _, _, h => h
  | v :: r, w, g, o, cur, t, f, h => by
    rw [World.setCells, putCells]
    exact heap_setCells r _ g (o + 1) _ t f (heap_setCell h)

/-- 'append(v, part...)'. -/
theorem append_part {w : World} {v : Value} {zs : List Int} (h : Row w 5 v (u8s zs)) (pt : Part) (hok : pt.ok w) (hlen : zs.length + pt.zs.length ≤ 140737488355328) (ty : TypeId) :
    ∃ v' w', (Builtin.append_ #[36, 36] ty #[v, pt.val]).run Try.prog w = .ok v' w' ∧ Row w' 5 v' (u8s (zs ++ pt.zs)) ∧ w.grownBy w' v.ownBlock ∧ (v'.ownBlock = v.ownBlock ∨ ∀ b, v'.ownBlock = some b → w.heap.size ≤ b) := by
  obtain ⟨i, hi, hz0, hz1, hz2⟩ := info_three infoU8
  have hml : zs.length + pt.zs.length ≤ maxLen := by unfold maxLen; omega
  have of_new : ∀ (v' : Value) (w' : World), w'.ownsRow w.heap.size 5 1 v' (zs.length + pt.zs.length) (u8s zs ++ u8s pt.zs) → Row w' 5 v' (u8s (zs ++ pt.zs)) ∧ (∀ b, v'.ownBlock = some b → w.heap.size ≤ b) := fun v' w' ho => by
    rcases ho.2 with ⟨hv, h0⟩ | ⟨g, cap, cur, hv, hB, hg, hl, hm, hs, htk⟩
    · refine ⟨Or.inl ⟨hv, ?_⟩, fun b hb => by rw [hv] at hb; simp [Value.ownBlock] at hb⟩
      have : (zs ++ pt.zs).length = 0 := by rw [List.length_append]; exact h0
      rw [List.eq_nil_of_length_eq_zero this]; rfl
    · refine ⟨Or.inr ⟨g, cap, cur, 0, 0, by rw [hv, u8s_len]; simp, hg, Or.inr rfl, by rw [u8s_len]; simpa using hl, hm, by omega, ?_⟩, fun b hb => by rw [hv] at hb; simp [Value.ownBlock] at hb; omega⟩
      rw [u8s_len, List.length_append, u8s_app]
      simpa using htk
  rcases hok.2.2 with he | ⟨b, o, ha, hc⟩
  · have hs : Src Try.prog i.size 36 pt.val 0 [] w := by
      obtain ⟨a, c, ps⟩ := pt
      simp only at he
      subst he
      cases a with
      | none => exact Src.ofNil w Try.underlying36 c
      | some x => exact Src.ofSlice w Try.underlying36 x 0 c [] (by simp) (by simp) (by simp)
    rw [he, List.append_nil]
    have h0 := h
    rcases h with ⟨rfl, hn⟩ | ⟨g, cap, cur, lo, hi', rfl, r⟩
    · exact ⟨_, _, run_append_nothing w _ _ _ _ i Try.underlying36 hi none 0 0 (Nat.le_refl _) _ hs, h0, grown_refl _ _, Or.inl rfl⟩
    · exact ⟨_, _, run_append_nothing w _ _ _ _ i Try.underlying36 hi _ _ _ r.2.2.1 _ hs, h0, grown_refl _ _, Or.inl rfl⟩
  · have hv : pt.val = .slice (some ⟨b, o, none⟩) pt.zs.length pt.c := by unfold Part.val; rw [ha]
    rw [hv]
    have hnews := part_news hc
    rcases h with ⟨rfl, hn⟩ | ⟨g, cap, cur, lo, hi', rfl, hg, hf, hl, hm, hs, ht⟩
    · have hzs : zs = [] := by simpa [u8s] using hn
      subst hzs
      obtain ⟨v', w', hrun, hown, hgr, _⟩ := run_append_own (P := Try.prog) w w.heap.size 36 ty 5 i (.int .u8 0) 1 1 Try.underlying36 hi hz0 hz1 hz2 rfl (by decide) (.slice none 0 0) 0 [] (World.ownsRow_nil w w.heap.size 5 1) ⟨b, o, none⟩ pt.zs.length pt.c (u8s pt.zs) (by simp [u8s_len]) hnews (u8s_one _) (by simpa using hml) (by simp at hlen; omega) (Nat.le_refl _)
      obtain ⟨h1, h2⟩ := of_new v' w' (by simpa [u8s] using hown)
      exact ⟨v', w', hrun, h1, hgr, Or.inr h2⟩
    · rw [u8s_len] at hl ht
      by_cases hroom : zs.length + pt.zs.length ≤ cap
      · have hrun := run_append_room_cells (P := Try.prog) w 36 ty 5 i Try.underlying36 hi g 0 zs.length cap ⟨b, o, none⟩ pt.zs.length pt.c (u8s pt.zs) (by rw [hz1]; simp [u8s_len]) hnews (u8s_one _) hroom
          (fun j hj => by rw [u8s_len] at hj; rw [hz1, cell_of_heap hg, Array.getElem?_eq_getElem (by omega)]; rfl)
          (fun j hj => by rw [u8s_len] at hj; rw [hz1]; exact frozen_of_heap' hg hf _ (by omega))
        simp only [hz1, Nat.mul_one, Nat.zero_add] at hrun
        refine ⟨_, _, by rw [u8s_len]; exact hrun, Or.inr ⟨g, cap, putCells cur zs.length (u8s pt.zs), lo, hi', by simp [u8s_len], heap_setCells _ _ _ _ _ _ _ hg, by rw [putCells_size]; exact hf, by rw [u8s_len]; simpa using hroom, hm, by rw [putCells_size]; exact hs, ?_⟩, by rw [u8s_len] at *; exact grown_setCells _ _ _ _, Or.inl (by simp [Value.ownBlock])⟩
        have hp := putCells_take (u8s pt.zs) cur zs.length (by rw [u8s_len]; omega)
        rw [u8s_len, ht] at hp
        rw [u8s_len, List.length_append, hp, u8s_app]
      · obtain ⟨v', w', hrun, hown, hgr⟩ := run_append_arg_grows (P := Try.prog) w 36 ty 5 i (.int .u8 0) 1 1 Try.underlying36 hi hz0 hz1 hz2 rfl (by decide) ⟨g, 0, none⟩ zs.length cap (u8s zs) (by simp [u8s_len])
          (fun j u hj => by
            have hjl : j < zs.length := by
              have := (List.getElem?_eq_some_iff.1 hj).1
              rw [u8s_len] at this
              exact this
            rw [show (⟨g, 0, none⟩ : Addr).add j = ⟨g, j, none⟩ from by unfold Addr.add; split <;> simp_all, cell_of_heap hg, ← Array.getElem?_toList]
            have h1 : (cur.toList.take zs.length)[j]? = (u8s zs)[j]? := by rw [ht]
            rw [List.getElem?_take, if_pos hjl] at h1
            rw [h1, hj])
          ⟨b, o, none⟩ pt.zs.length pt.c (u8s pt.zs) (by simp [u8s_len]) hnews (by omega) hml (by omega)
        obtain ⟨h1, h2⟩ := of_new v' w' (by simpa using hown)
        exact ⟨v', w', by rw [u8s_len]; exact hrun, h1, ⟨hgr.os, hgr.tape, hgr.output, hgr.size, fun k hk _ => hgr.block k hk (by simp)⟩, Or.inr h2⟩
end Go.Proofs.Ytgcpoanjjgbfjaa
