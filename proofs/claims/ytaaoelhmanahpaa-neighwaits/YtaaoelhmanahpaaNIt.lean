/-
  Neigh: a range over the cache's map.
-/
import Derived.Test.YtaaoelhmanahpaaNMap
namespace Go.Proofs.Ytaaoelhmanahpaa
open Go.RowKit
open Go.ChangeMaps (setBlock)
set_option linter.all false

theorem nodup_of_map {α β : Type} {f : α → β} {l : List α} (h : (l.map f).Nodup) : l.Nodup := (List.pairwise_map.1 h).imp fun hne e => hne (congrArg f e)
/-- a range, under way: D has come, in block r it is told what not. -/
structure It (w : World) (m r : Nat) (L : List Ab) (V : Int → Value) (D : List Ab) (n : Nat) : Prop where
  ne : m ≠ r
  go : ∃ es clock seen c0 since, w.heap[m]? = some (.map es clock) ∧ MapO es clock L V ∧ w.heap[r]? = some (.mapIter (some m) since seen c0) ∧ since ≤ c0 ∧ since ≤ clock ∧ (∀ e ∈ es.toList, e.born < since) ∧
    ∃ F : List Ab, ((leftOf es seen).toList.map kvOf).Perm (F.map (kv V)) ∧ (F ++ D).Perm L ∧ (leftOf es seen).size = n
theorem It.keep {w w' : World} {m r : Nat} {L : List Ab} {V : Int → Value} {D : List Ab} {n : Nat} (h : It w m r L V D n) (h1 : w'.heap[m]? = w.heap[m]?) (h2 : w'.heap[r]? = w.heap[r]?) : It w' m r L V D n := by
  obtain ⟨hne, es, clock, seen, c0, since, a, b, c, d⟩ := h
  exact ⟨hne, es, clock, seen, c0, since, h1.trans a, b, h2.trans c, d⟩
theorem It.lt {w : World} {m r : Nat} {L : List Ab} {V : Int → Value} {D : List Ab} {n : Nat} (h : It w m r L V D n) : m < w.heap.size ∧ r < w.heap.size := by
  obtain ⟨hne, es, clock, seen, c0, since, a, b, c, d⟩ := h
  exact ⟨heap_lt a, heap_lt c⟩
theorem It.below {w w' : World} {m r : Nat} {L : List Ab} {V : Int → Value} {D : List Ab} {n : Nat} (h : It w m r L V D n) (hb : Below w.heap.size w w') : It w' m r L V D n := h.keep (hb.block m h.lt.1) (hb.block r h.lt.2)
theorem It.map {w : World} {m r : Nat} {L : List Ab} {V : Int → Value} {D : List Ab} {n : Nat} (h : It w m r L V D n) : MapE w m L V := by
  obtain ⟨hne, es, clock, seen, c0, since, a, b, c, d⟩ := h
  exact ⟨es, clock, a, b⟩
theorem It.start {w : World} {m : Nat} {L : List Ab} {V : Int → Value} (h : MapE w m L V) : ∃ o, (Instr.range 74 (.map (some m))).run Try.prog w = .ok (.pointer (some ⟨w.heap.size, 0, none⟩)) (w.alloc o) ∧ It (w.alloc o) m w.heap.size L V [] L.length := by
  obtain ⟨es, clock, hm, hO⟩ := h
  have hl := heap_lt hm
  have hle : (leftOf es #[]).toList = es.toList := by unfold leftOf; simp
  refine ⟨.mapIter (some m) clock #[] clock, run_range_map w _ _ _ m es clock Try.underlying74 hm, by omega, es, clock, #[], clock, clock, (heap_old w _ hl).trans hm, hO, heap_new _ _, Nat.le_refl _, Nat.le_refl _, hO.old, L, ?_, ?_, ?_⟩
  · rw [hle]; exact hO.perm
  · simp
  · rw [← Array.length_toList, hle]
    have := hO.perm.length_eq
    simpa using this
theorem It.next {w : World} {m r : Nat} {L : List Ab} {V : Int → Value} {D : List Ab} {n : Nat} (h : It w m r L V D n) (ty : TypeId) :
    ((Instr.next (.pointer (some ⟨r, 0, none⟩)) false ty).run Try.prog w = .ok (.tuple #[.bool false]) w ∧ D.Perm L) ∨
    ∃ x w', x ∈ L ∧ (Instr.next (.pointer (some ⟨r, 0, none⟩)) false ty).run Try.prog w = .ok (.tuple #[.bool true, .int .u32 x.ip, x.val (V x.ip)]) w' ∧ (Instr.entry (.pointer (some ⟨r, 0, none⟩))).run Try.prog w' = .ok (.tuple #[.int .u32 x.ip, x.val (V x.ip)]) w' ∧ But r w w' ∧ ∃ n', n' < n ∧ It w' m r L V (x :: D) n' := by
  obtain ⟨hne, es, clock, seen, c0, since, hm, hO, hr, hsc, hsk, hold, F, hF, hFD, hn⟩ := h
  rcases run_next_at (P := Try.prog) w ty r m since c0 seen es clock hr hm hold hsc with ⟨h0, hrun⟩ | ⟨e, he, w1, hw1, hrun⟩
  · refine Or.inl ⟨hrun, ?_⟩
    have h1 : (leftOf es seen).toList = [] := List.eq_nil_of_length_eq_zero (by rw [Array.length_toList]; exact h0)
    rw [h1] at hF
    have h2 : F = [] := by
      have := hF.length_eq
      simp at this
      exact List.eq_nil_of_length_eq_zero this.symm
    rw [h2] at hFD
    exact hFD
  · have hm1 : w1.heap[m]? = some (.map es clock) := by rcases hw1 with rfl | rfl <;> exact hm
    have hr1 : w1.heap[r]? = some (.mapIter (some m) since seen c0) := by rcases hw1 with rfl | rfl <;> exact hr
    have hb1 : But r w w1 := by
      rcases hw1 with rfl | rfl
      · exact But.refl _ _
      · exact But.drew _ _
    obtain ⟨hes, hns⟩ := mem_left he
    obtain ⟨x, hx, h4, h5⟩ := hO.mem hes
    -- which of F it is
    have hxF : kv V x ∈ F.map (kv V) := hF.mem_iff.1 (List.mem_map.2 ⟨e, he, by simp only [kvOf, kv, h4, h5]⟩)
    obtain ⟨y, hy, hyx⟩ := List.mem_map.1 hxF
    have hyL : y ∈ L := hFD.mem_iff.1 (List.mem_append_left _ hy)
    have hyx2 : y = x := hO.rise.inj hyL hx (by simpa [kv] using congrArg Prod.fst hyx)
    subst hyx2
    obtain ⟨F1, F2, rfl⟩ := List.append_of_mem hy
    -- what is left behind it
    have hleft : (leftOf es seen).toList.Perm (e :: (leftOf es (seen.push e.born)).toList) := by
      have hnd : ((leftOf es seen).toList.map (·.born)).Nodup := by
        unfold leftOf
        rw [Array.toList_filter]
        exact hO.nd.sublist (List.filter_sublist.map _)
      have hnd2 : (leftOf es seen).toList.Nodup := nodup_of_map hnd
      rw [List.perm_ext_iff_of_nodup hnd2]
      · intro z
        rw [List.mem_cons]
        constructor
        · intro hz
          by_cases hb : z.born = e.born
          · exact Or.inl (born_inj hnd hz he hb)
          · right
            obtain ⟨hz1, hz2⟩ := mem_left hz
            unfold leftOf
            rw [Array.toList_filter, List.mem_filter]
            exact ⟨hz1, by rw [contains_push, hz2]; simp [hb]⟩
        · rintro (rfl | hz)
          · exact he
          · obtain ⟨hz1, hz2⟩ := mem_left hz
            rw [contains_push, Bool.or_eq_false_iff] at hz2
            unfold leftOf
            rw [Array.toList_filter, List.mem_filter]
            exact ⟨hz1, by rw [hz2.1]; rfl⟩
      · rw [List.nodup_cons]
        refine ⟨fun hm => ?_, ?_⟩
        · have := (mem_left hm).2
          rw [contains_push] at this
          simp at this
        · unfold leftOf
          rw [Array.toList_filter]
          exact List.Nodup.sublist List.filter_sublist (nodup_of_map hO.nd)
    have hF2 : ((leftOf es (seen.push e.born)).toList.map kvOf).Perm ((F1 ++ F2).map (kv V)) := by
      have h1 := (hleft.map kvOf).symm.trans hF
      have h2 : ((F1 ++ y :: F2).map (kv V)).Perm (kv V y :: (F1 ++ F2).map (kv V)) := (List.perm_middle (a := y) (l₁ := F1) (l₂ := F2)).map (kv V)
      have h3 := h1.trans h2
      rw [List.map_cons, show kvOf e = kv V y from by simp only [kvOf, kv, h4, h5]] at h3
      exact h3.cons_inv
    refine Or.inr ⟨y, setBlock w1 r (.mapIter (some m) since (seen.push e.born) clock), hx, ?_, ?_, hb1.trans (but_setBlock _ _ _), (leftOf es (seen.push e.born)).size, by rw [← hn]; exact left_shrinks es seen e he, hne, es, clock, seen.push e.born, clock, since, ?_, hO, heap_setBlock hr1, hsk, hsk, hold, F1 ++ F2, hF2, ?_, rfl⟩
    · rw [hrun, h4, h5]
    · have := run_entry_at (P := Try.prog) (setBlock w1 r (.mapIter (some m) since (seen.push e.born) clock)) r m since seen es clock e (heap_setBlock hr1) ((heap_setBlock_ne hne).trans hm1) hes hO.nd
      rw [this, h4, h5]
    · exact (heap_setBlock_ne hne).trans hm1
    · refine List.Perm.trans ?_ hFD
      have h1 : ((F1 ++ F2) ++ y :: D).Perm (y :: ((F1 ++ F2) ++ D)) := List.perm_middle
      refine h1.trans ?_
      have h2 : ((F1 ++ y :: F2) ++ D).Perm (y :: ((F1 ++ F2) ++ D)) := by
        rw [List.append_assoc, List.append_assoc, List.cons_append]
        exact List.perm_middle
      exact h2.symm
end Go.Proofs.Ytaaoelhmanahpaa
