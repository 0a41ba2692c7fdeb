/-
  Port: the document's table: an entry turns; Take of a port that is closed, or at which nothing waits.
-/
import Derived.Test.YthipdchdbdmmnaaPRd
namespace Go.Proofs.Ythipdchdbdmmnaa
open Go.RowKit
set_option linter.all false

/-- one entry turns. -/
theorem RPoW.turn {w w' : World} {c : Nat} {v : Value} {M D : Int} {L1 L2 : List Ab} {x x' : Ab} (h : RPoW w c v M D (L1 ++ x :: L2)) (ho : Only (fun k => k = x.b ∨ x.q.ownBlock = some k) w w') (he : REnt w' x') (hi : x'.ip = x.ip) (hb : x'.b = x.b)
    (hq : ∀ k, x'.q.ownBlock = some k → x.q.ownBlock = some k ∨ w.heap.size ≤ k) (hd : ∀ d ∈ x'.ds, ∀ k, d.2.ownBlock = some k → (∃ d' ∈ x.ds, d'.2.ownBlock = some k) ∨ w.heap.size ≤ k) (hlen : (x'.ds.length : Int) ≤ D) :
    RPoW w' c v M D (L1 ++ x' :: L2) ∧ RAct w w' c v v (L1 ++ x :: L2) (L1 ++ x' :: L2) := by
  have hx : x ∈ L1 ++ x :: L2 := by simp
  have ex := h.ents x hx
  have hsub : ∀ y, y ∈ L1 ∨ y ∈ L2 → y ∈ L1 ++ x :: L2 := fun y hy => by
    rcases hy with hy | hy
    · exact List.mem_append_left _ hy
    · exact List.mem_append_right _ (List.mem_cons_of_mem _ hy)
  have hmem : ∀ y, y ∈ L1 ++ x' :: L2 → (y ∈ L1 ∨ y ∈ L2) ∨ y = x' := fun y hy => by
    rcases List.mem_append.1 hy with hy | hy
    · exact Or.inl (Or.inl hy)
    · rcases List.mem_cons.1 hy with hy | hy
      · exact Or.inr hy
      · exact Or.inl (Or.inr hy)
  have hbn : ∀ y, y ∈ L1 ∨ y ∈ L2 → y.b ≠ x.b := fun y hy e => by
    have := h.nb
    rw [List.map_append, List.map_cons, show L1.map (·.b) ++ x.b :: L2.map (·.b) = L1.map (·.b) ++ [x.b] ++ L2.map (·.b) by simp] at this
    have := nodup_mid this (a := x.b) (by simp)
    rcases hy with hy | hy
    · exact this.1 (e ▸ List.mem_map.2 ⟨y, hy, rfl⟩)
    · exact this.2 (e ▸ List.mem_map.2 ⟨y, hy, rfl⟩)
  have hqn : ∀ y, y ∈ L1 ∨ y ∈ L2 → ∀ k, y.q.ownBlock = some k → x.q.ownBlock ≠ some k := fun y hy k e1 e2 => by
    have := h.nq
    rw [show L1 ++ x :: L2 = L1 ++ [x] ++ L2 by simp, List.filterMap_append, List.filterMap_append] at this
    have := nodup_mid this (a := k) (by simp [e2])
    rcases hy with hy | hy
    · exact this.1 (List.mem_filterMap.2 ⟨y, hy, e1⟩)
    · exact this.2 (List.mem_filterMap.2 ⟨y, hy, e1⟩)
  have hne : ∀ {g : Nat} {cs : Array Value} {t : TypeId} {f : Nat × Nat}, w.heap[g]? = some (.cells cs t f) → t ≠ 110 → t ≠ 53 → ¬ (g = x.b ∨ x.q.ownBlock = some g) := fun {g cs t f} hg h1 h2 hk => by
    rcases hk with rfl | hk
    · rw [ex.box] at hg; simp only [Option.some.injEq, Obj.cells.injEq] at hg; exact h1 hg.2.1.symm
    · obtain ⟨cur, hc⟩ := ex.row.obj hk
      rw [hc] at hg; simp only [Option.some.injEq, Obj.cells.injEq] at hg; exact h2 hg.2.1.symm
  have hents : ∀ y, y ∈ L1 ∨ y ∈ L2 → REnt w' y := fun y hy => by
    have ey := h.ents y (hsub y hy)
    refine ey.keep fun k hk => ho.block k (fun hk2 => ?_) (h.lt k (Or.inr (Or.inr ⟨y, hsub y hy, hk⟩)))
    rcases hk with rfl | hk | ⟨d, hd, hk⟩
    · rcases hk2 with hk2 | hk2
      · exact hbn y hy hk2
      · obtain ⟨cur, hc⟩ := ex.row.obj hk2
        rw [ey.box] at hc; simp only [Option.some.injEq, Obj.cells.injEq] at hc; exact absurd hc.2.1 (by decide)
    · rcases hk2 with rfl | hk2
      · obtain ⟨cur, hc⟩ := ey.row.obj hk
        rw [ex.box] at hc; simp only [Option.some.injEq, Obj.cells.injEq] at hc; exact absurd hc.2.1 (by decide)
      · exact hqn y hy k hk hk2
    · obtain ⟨cur, f, hc⟩ := (ey.data d hd).obj hk
      exact hne hc (by decide) (by decide) hk2
  have hrow : ptrs (L1 ++ x' :: L2) = ptrs (L1 ++ x :: L2) := by simp [ptrs, Ab.val, hb]
  refine ⟨{ box := (ho.block c (hne h.box (by decide) (by decide)) (heap_lt h.box)).trans h.box, row := ?_, rise := ?_, ents := fun y hy => ?_, nb := by have := h.nb; simpa [hb] using this, nq := ?_, most := h.most, depth := h.depth, len := by have := h.len; simpa using this, deep := fun y hy => ?_, nums := fun y hy => ?_ }, ⟨ho.mono fun k hk => Or.inr (Or.inr ⟨x, hx, ?_⟩), fun k hk => ?_⟩⟩
  · rw [hrow]
    refine h.row.keep fun k hk => ?_
    obtain ⟨cur, f, hc⟩ := h.row.obj hk
    exact ho.block k (hne hc (by decide) (by decide)) (heap_lt hc)
  · have := h.rise
    unfold Rise at this ⊢
    rw [List.pairwise_append, List.pairwise_cons] at this ⊢
    refine ⟨this.1, ⟨fun y hy => by rw [hi]; exact this.2.1.1 y hy, this.2.1.2⟩, fun a ha b hb' => ?_⟩
    rcases List.mem_cons.1 hb' with rfl | hb'
    · rw [hi]; exact this.2.2 a ha x (by simp)
    · exact this.2.2 a ha b (List.mem_cons_of_mem _ hb')
  · rcases hmem y hy with hy | rfl
    · exact hents y hy
    · exact he
  · have hq0 := h.nq
    rw [show L1 ++ x :: L2 = L1 ++ [x] ++ L2 by simp, List.filterMap_append, List.filterMap_append] at hq0
    rw [show L1 ++ x' :: L2 = L1 ++ [x'] ++ L2 by simp, List.filterMap_append, List.filterMap_append]
    cases e : x'.q.ownBlock with
    | none =>
      rw [show List.filterMap (fun y : Ab => y.q.ownBlock) [x'] = [] by simp [e], List.append_nil]
      exact hq0.sublist (by rw [List.append_assoc]; exact List.Sublist.append_left (List.sublist_append_right _ _) _)
    | some k =>
      rw [show List.filterMap (fun y : Ab => y.q.ownBlock) [x'] = [k] by simp [e]]
      rcases hq k e with h1 | h1
      · rw [show List.filterMap (fun y : Ab => y.q.ownBlock) [x] = [k] by simp [h1]] at hq0
        exact hq0
      · have hnew : ∀ y, y ∈ L1 ∨ y ∈ L2 → y.q.ownBlock ≠ some k := fun y hy e2 => by
          have := (h.ents y (hsub y hy)).row.lt e2; omega
        have h0 : (List.filterMap (fun y : Ab => y.q.ownBlock) L1 ++ List.filterMap (fun y : Ab => y.q.ownBlock) L2).Nodup := hq0.sublist (by rw [List.append_assoc]; exact List.Sublist.append_left (List.sublist_append_right _ _) _)
        rw [List.append_assoc, List.singleton_append]
        have hp : (List.filterMap (fun y : Ab => y.q.ownBlock) L1 ++ k :: List.filterMap (fun y : Ab => y.q.ownBlock) L2).Perm (k :: (List.filterMap (fun y : Ab => y.q.ownBlock) L1 ++ List.filterMap (fun y : Ab => y.q.ownBlock) L2)) := List.perm_middle
        rw [hp.nodup_iff, List.nodup_cons]
        refine ⟨fun hk => ?_, h0⟩
        rcases List.mem_append.1 hk with hk | hk
        · obtain ⟨y, hy, hy2⟩ := List.mem_filterMap.1 hk; exact hnew y (Or.inl hy) hy2
        · obtain ⟨y, hy, hy2⟩ := List.mem_filterMap.1 hk; exact hnew y (Or.inr hy) hy2
  · rcases hmem y hy with hy | rfl
    · exact h.deep y (hsub y hy)
    · exact hlen
  · rcases hmem y hy with hy | rfl
    · exact h.nums y (hsub y hy)
    · rw [hi]; exact h.nums x hx
  · rcases hk with hk | hk
    · exact Or.inl hk
    · exact Or.inr (Or.inl hk)
  · rcases hk with rfl | hk | ⟨y, hy, hk⟩
    · exact Or.inl (Or.inl rfl)
    · exact Or.inl (Or.inr (Or.inl hk))
    · rcases hmem y hy with hy | rfl
      · exact Or.inl (Or.inr (Or.inr ⟨y, hsub y hy, hk⟩))
      · rcases hk with rfl | hk | ⟨d, hdd, hk⟩
        · exact Or.inl (Or.inr (Or.inr ⟨x, hx, Or.inl hb⟩))
        · rcases hq k hk with h1 | h1
          · exact Or.inl (Or.inr (Or.inr ⟨x, hx, Or.inr (Or.inl h1)⟩))
          · exact Or.inr h1
        · rcases hd d hdd k hk with ⟨d', h1, h2⟩ | h1
          · exact Or.inl (Or.inr (Or.inr ⟨x, hx, Or.inr (Or.inr ⟨d', h1, h2⟩)⟩))
          · exact Or.inr h1

set_option maxRecDepth 20000 in
set_option maxHeartbeats 2000000 in
theorem rtake_closed (c : Nat) (v : Value) (M D : Int) (L : List Ab) (n : Int) (w : World) (x : RPoW w c v M D L) (hl : look L n = none) :
    Calls Try.prog 37 #[.pointer (some ⟨c, 0, none⟩), .int .i64 n] w fun e w' => e = .returned (.tuple #[dz, .bool false]) ∧ Hid (RPz w w' c v M D L (abs L)) := by
  have hB1 := bpush (Below.refl w.heap.size w) (.cells #[.int .u32 0, .int .u32 0, .int .i64 0, .int .i64 0, .slice none 0 0] 53)
  have x1 := x.below hB1
  have HAT := hid (rat_any c v M D L n _ x1)
  have h4 : atI L n < 0 := (at_look L n).2 hl
  have H0 := hid (heap_new w (.cells #[.int .u32 0, .int .u32 0, .int .i64 0, .int .i64 0, .slice none 0 0] 53))
  have HZ := hid (RPz.same x (w' := World.setRow (w.alloc (.cells #[.int .u32 0, .int .u32 0, .int .i64 0, .int .i64 0, .slice none 0 0] 53)) w.heap.size #[.int .u32 0, .int .u32 0, .int .i64 0, .int .i64 0, .slice none 0 0]) (bbut hB1 (But.setRow w.heap.size _ _) (Nat.le_refl _)))
  simp only [dz]
  clear x x1 hB1 hl
  generalize atI L n = A at *
  go_enter Try.func37, Try.ntmps37
  go_wp2_with fail
  refine HAT.out.mono ?_
  rintro e w1 ⟨rfl, hw⟩
  subst w1
  go_wp2_with (first
    | (refine wpList_store_row rfl 53 _ _ rfl w.heap.size #[.int .u32 0, .int .u32 0, .int .i64 0, .int .i64 0, .slice none 0 0] rfl rfl 53 _ H0.out (by kernel_rfl) rfl (by first | kernel_rfl | simp [Value.oneCell']) ?_) | fail)
  refine bodyPost_ret (v := .tuple #[.agg #[.int .u32 0, .int .u32 0, .int .i64 0, .int .i64 0, .slice none 0 0], .bool false]) ?_ (by rfl) ⟨rfl, HZ.out⟩
  exact results_row2 Try.results37 _ _ w.heap.size 53 _ (0, 0) _ _ rfl rfl (setRow_heap _ _ _ _ _ _ H0.out) Try.underlying53 rfl (by kernel_rfl)
set_option maxRecDepth 20000 in
set_option maxHeartbeats 2000000 in
theorem rtake_void (c : Nat) (v : Value) (M D : Int) (L : List Ab) (n : Int) (y : Ab) (w : World) (x : RPoW w c v M D L) (hl : look L n = some y) (hd : y.ds = []) :
    Calls Try.prog 37 #[.pointer (some ⟨c, 0, none⟩), .int .i64 n] w fun e w' => e = .returned (.tuple #[dz, .bool false]) ∧ Hid (RPz w w' c v M D L (abs L)) := by
  have hB1 := bpush (Below.refl w.heap.size w) (.cells #[.int .u32 0, .int .u32 0, .int .i64 0, .int .i64 0, .slice none 0 0] 53)
  have x1 := x.below hB1
  have HAT := hid (rat_any c v M D L n _ x1)
  obtain ⟨I, hI, hyI⟩ := at_some hl
  rw [hI] at HAT
  obtain ⟨a, cp, rfl, c0, c1, c2⟩ := x1.cells
  obtain ⟨g, hga, hcp⟩ := x1.ptr hyI
  subst hga
  have ey := x1.ents y (List.mem_of_getElem? hyI)
  obtain ⟨qa, qc, hq⟩ := ey.row.form
  have hbx := ey.box
  rw [hq, hd, List.length_nil] at hbx
  have s2 := cell_of_heap hbx 2
  have hIL : I < L.length := (List.getElem?_eq_some_iff.1 hyI).1
  have H0 := hid (heap_new w (.cells #[.int .u32 0, .int .u32 0, .int .i64 0, .int .i64 0, .slice none 0 0] 53))
  have HZ := hid (RPz.same x (w' := World.setRow (w.alloc (.cells #[.int .u32 0, .int .u32 0, .int .i64 0, .int .i64 0, .slice none 0 0] 53)) w.heap.size #[.int .u32 0, .int .u32 0, .int .i64 0, .int .i64 0, .slice none 0 0]) (bbut hB1 (But.setRow w.heap.size _ _) (Nat.le_refl _)))
  simp only [dz]
  have s2' : (w.alloc (.cells #[.int .u32 0, .int .u32 0, .int .i64 0, .int .i64 0, .slice none 0 0] 53)).cell? ⟨y.b, 2, none⟩ = some (.slice qa 0 qc) := s2
  have hI0 : ¬ (I : Int) < 0 := by omega
  have hI1 : (I : Int) < (L.length : Int) := by omega
  have hI2 : (0 : Int) ≤ (I : Int) := by omega
  clear x x1 hB1 hl hI hyI ey hq hbx s2 c1 c2 hd
  generalize L.length = N at *
  generalize y.b = yb at *
  go_enter Try.func37, Try.ntmps37
  go_wp2_with fail
  refine HAT.out.mono ?_
  rintro e w1 ⟨rfl, hw⟩
  subst w1
  generalize hW : w.alloc (.cells #[.int .u32 0, .int .u32 0, .int .i64 0, .int .i64 0, .slice none 0 0] 53) = W at *
  clear hW
  go_wp2_with (first
    | (refine wpList_store_row rfl 53 _ _ rfl w.heap.size #[.int .u32 0, .int .u32 0, .int .i64 0, .int .i64 0, .slice none 0 0] rfl rfl 53 _ H0.out (by kernel_rfl) rfl (by first | kernel_rfl | simp [Value.oneCell']) ?_) | fail)
  refine bodyPost_ret (v := .tuple #[.agg #[.int .u32 0, .int .u32 0, .int .i64 0, .int .i64 0, .slice none 0 0], .bool false]) ?_ (by rfl) ⟨rfl, HZ.out⟩
  exact results_row2 Try.results37 _ _ w.heap.size 53 _ (0, 0) _ _ rfl rfl (setRow_heap _ _ _ _ _ _ H0.out) Try.underlying53 rfl (by kernel_rfl)
end Go.Proofs.Ythipdchdbdmmnaa
