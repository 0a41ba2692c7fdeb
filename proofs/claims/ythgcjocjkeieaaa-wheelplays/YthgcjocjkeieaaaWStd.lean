/-
  stands, of the lists that the statement keeps.
-/
import Derived.Test.YthgcjocjkeieaaaWStdM
namespace Go.Proofs.Ythgcjocjkeieaaa
open Go.RowKit
set_option linter.all false

def nilS : Value := .slice none 0 0
/-- the lists read as they came, and none shares memory with another one. -/
structure CT (w : World) (ls ws : List Value) : Prop where
  each : ∀ j, j < ls.length → ∃ F, RowF w (ls.getD j nilS) F ∧ RowF w (ws.getD j nilS) F ∧ F.length ≤ 1024
  apart : ∀ i j, i < ls.length → j < ls.length → i ≠ j → ∀ k, blkOf (ls.getD i nilS) k → ¬ blkOf (ls.getD j nilS) k
theorem row_get {w : World} {v : Value} {vs : List Value} {e : TypeId} (h : Row w e v vs) {j : Nat} (hj : j < vs.length) : ∃ g cap, v = .slice (some ⟨g, 0, none⟩) vs.length cap ∧ w.cell? ⟨g, j, none⟩ = some (vs.getD j nilS) := by
  obtain ⟨g, cap, hv, hc⟩ := h.cell j hj
  refine ⟨g, cap, hv, ?_⟩
  rw [hc, List.getD_eq_getElem?_getD, List.getElem?_eq_getElem hj]
  rfl
/-- how it stands while the lists are written: i of them are done. -/
structure P2 (w : World) (kb : Nat) (lv wv : Value) (ls : List Value) (wr : World) (i : Nat) (gv : Value) (gs : List Value) : Prop where
  box : wr.heap[kb]? = some (.cells #[lv, wv] 31 (0, 0))
  lrow : Row wr 41 lv ls
  grow : Row wr 41 gv gs
  glen : gs.length = i
  gnew : ∀ k, blkOf gv k → w.heap.size ≤ k
  done : ∀ j, j < i → ∃ n, RowF wr (ls.getD j nilS) (marks j n) ∧ RowF wr (gs.getD j nilS) (marks j (n + 9)) ∧ n ≤ 1024
  gown : ∀ j, j < i → ∀ k, blkOf (gs.getD j nilS) k → blkOf (ls.getD j nilS) k ∨ w.heap.size ≤ k
  left : ∀ j, i ≤ j → j < ls.length → ∃ F, RowF wr (ls.getD j nilS) F ∧ F.length ≤ 1024
  only : Only (fun k => ∃ j, j < ls.length ∧ blkOf (ls.getD j nilS) k) w wr
/-- list i is being written, n of its places are; or grown, by n. -/
structure P2W (w : World) (kb : Nat) (lv wv : Value) (ls : List Value) (wr : World) (i : Nat) (gv : Value) (gs : List Value) (F : List Tm) (n : Nat) : Prop where
  p2 : ∃ w1, P2 w kb lv wv ls w1 i gv gs ∧ RowF w1 (ls.getD i nilS) F ∧ Only (blkOf (ls.getD i nilS)) w1 wr
  row : RowF wr (ls.getD i nilS) (marks i n ++ F.drop n)
  le : n ≤ F.length
  fl : F.length ≤ 1024
structure P2G (w : World) (kb : Nat) (lv wv : Value) (ls : List Value) (wr : World) (i : Nat) (gv : Value) (gs : List Value) (N : Nat) (n : Nat) (cv : Value) : Prop where
  p2 : ∃ w1, P2 w kb lv wv ls w1 i gv gs ∧ Only (blkOf (ls.getD i nilS)) w1 wr ∧ ∀ k, blkOf cv k → blkOf (ls.getD i nilS) k ∨ w1.heap.size ≤ k
  row : RowF wr (ls.getD i nilS) (marks i N)
  cur : RowF wr cv (marks i (N + n))
  fl : N ≤ 1024
section
variable {w : World} {kb : Nat} {lv wv : Value} {ls ws : List Value} {wr : World} {i : Nat} {gv : Value} {gs : List Value}
/-- what blocks are left alone while list i is worked on. -/
theorem P2.keepAll {w1 : World} (h : P2 w kb lv wv ls w1 i gv gs) (hbk : BK w kb ls ws lv wv) (hct : CT w ls ws) (hi : i < ls.length) (ho : Only (blkOf (ls.getD i nilS)) w1 wr) :
    wr.heap[kb]? = w1.heap[kb]? ∧ (∀ g, blkOf lv g → wr.heap[g]? = w1.heap[g]?) ∧ (∀ g, blkOf gv g → wr.heap[g]? = w1.heap[g]?) ∧ (∀ j, j < ls.length → j ≠ i → ∀ g, blkOf (ls.getD j nilS) g → wr.heap[g]? = w1.heap[g]?) ∧ (∀ j, j < i → ∀ g, blkOf (gs.getD j nilS) g → wr.heap[g]? = w1.heap[g]?) := by
  obtain ⟨F0, r0, _⟩ := hct.each i hi
  have hlt0 : ∀ k, blkOf (ls.getD i nilS) k → k < w.heap.size := fun k hk => RowS.lt r0 hk
  have hty : ∀ k, blkOf (ls.getD i nilS) k → ∃ c, w1.heap[k]? = some (.cells c 44 (0, 0)) := fun k hk => by
    obtain ⟨F, rF, _⟩ := h.left i (Nat.le_refl _) hi
    exact RowS.obj rF hk
  have hs := h.only.size
  refine ⟨ho.block kb (fun e => ?_) (heap_lt h.box), fun g hg => ho.block g (fun e => ?_) (h.lrow.lt hg), fun g hg => ho.block g (fun e => ?_) (h.grow.lt hg), fun j hj hne g hg => ?_, fun j hj g hg => ?_⟩
  · obtain ⟨c, h1⟩ := hty kb e
    rw [h.box] at h1
    simp only [Option.some.injEq, Obj.cells.injEq] at h1
    exact absurd h1.2.1 (by decide)
  · obtain ⟨c, h1⟩ := hty g e
    obtain ⟨c2, f2, h2⟩ := h.lrow.obj hg
    rw [h1] at h2
    simp only [Option.some.injEq, Obj.cells.injEq] at h2
    exact absurd h2.2.1 (by decide)
  · have := hlt0 g e; have := h.gnew g hg; omega
  · obtain ⟨Fj, rj, _⟩ := hct.each j hj
    exact ho.block g (hct.apart j i hj hi hne g hg) (by have := RowS.lt rj hg; omega)
  · obtain ⟨n, _, r2, _⟩ := h.done j hj
    refine ho.block g (fun e => ?_) (RowS.lt r2 hg)
    rcases h.gown j hj g hg with h1 | h1
    · exact hct.apart j i (by omega) hi (by omega) g h1 e
    · have := hlt0 g e; omega
theorem P2.start (hbk : BK w kb ls ws lv wv) (hct : CT w ls ws) (q : Nat) : P2 w kb lv wv ls (w.drewN q) 0 (.slice none 0 0) [] :=
  ⟨hbk.box, hbk.lrow.keep fun _ _ => rfl, Row.nil _ _, rfl, fun k hk => absurd hk (blk_nil k), fun j hj => by omega, fun j hj => by omega, fun j _ hj => by
    obtain ⟨F, h1, _, h3⟩ := hct.each j hj
    exact ⟨F, RowS.keep h1 fun _ _ => rfl, h3⟩, ⟨rfl, rfl, rfl, Nat.le_refl _, fun _ _ _ => rfl⟩⟩
theorem P2.enter (h : P2 w kb lv wv ls wr i gv gs) (hi : i < ls.length) : ∃ F, P2W w kb lv wv ls wr i gv gs F 0 := by
  obtain ⟨F, h1, h2⟩ := h.left i (Nat.le_refl _) hi
  exact ⟨F, ⟨wr, h, h1, Only.refl _ _⟩, h1, Nat.zero_le _, h2⟩
theorem P2W.write {F : List Tm} {n : Nat} (h : P2W w kb lv wv ls wr i gv gs F n) (hn : n < F.length) :
    ∃ g cap, ls.getD i nilS = .slice (some ⟨g, 0, none⟩) F.length cap ∧ (∀ t, t < 3 → ∃ u, wr.cell? ⟨g, n * 3 + t, none⟩ = some u) ∧ (∀ j, wr.frozen? ⟨g, j, none⟩ = false) ∧ P2W w kb lv wv ls (((wr.setCell ⟨g, n * 3, none⟩ (.int .i64 (-1000 - (i : Int)))).setCell ⟨g, n * 3 + 1, none⟩ (.int .i64 n)).setCell ⟨g, n * 3 + 2, none⟩ (.int .i64 0)) i gv gs F (n + 1) := by
  obtain ⟨w1, h1, h2, h3⟩ := h.p2
  have hrow := h.row
  have hLl : (marks i n ++ F.drop n).length = F.length := by rw [List.length_append, marks_len, List.length_drop]; have := h.le; omega
  obtain ⟨g, cap, hv, hlc, hcm⟩ := RowS.some_of h2 (by omega)
  have hv0 := hv
  rw [hv] at hrow
  have hrow' : RowF wr (.slice (some ⟨g, 0, none⟩) (marks i n ++ F.drop n).length cap) (marks i n ++ F.drop n) := by rw [hLl]; exact hrow
  obtain ⟨c1, c2, c3⟩ := hrow'.set3 (n := n) (by omega) (mk1 i n)
  rw [hLl] at c3
  have hset : (marks i n ++ F.drop n).set n (mk1 i n) = marks i (n + 1) ++ F.drop (n + 1) := by
    rw [List.set_append_right _ _ (by rw [marks_len]; omega), marks_len, Nat.sub_self, marks_succ, List.append_assoc]
    congr 1
    rw [List.drop_eq_getElem_cons hn, List.set_cons_zero]
    rfl
  rw [hset] at c3
  refine ⟨g, cap, hv0, c1, c2, ⟨w1, h1, h2, ?_⟩, by rw [hv]; exact c3, by omega, h.fl⟩
  have hb : blkOf (ls.getD i nilS) g := by rw [hv]; rfl
  exact ((h3.trans (Only.of_but (But.setCell g _ _ _) hb)).trans (Only.of_but (But.setCell g _ _ _) hb)).trans (Only.of_but (But.setCell g _ _ _) hb)
theorem P2W.grow {F : List Tm} {n : Nat} (h : P2W w kb lv wv ls wr i gv gs F n) (hn : F.length ≤ n) : P2G w kb lv wv ls wr i gv gs F.length 0 (ls.getD i nilS) := by
  obtain ⟨w1, h1, h2, h3⟩ := h.p2
  have e : n = F.length := by have := h.le; omega
  have hr := h.row
  rw [e, List.drop_length, List.append_nil] at hr
  exact ⟨⟨w1, h1, h3, fun k hk => Or.inl hk⟩, hr, hr, h.fl⟩
theorem P2G.push {N n : Nat} {cv : Value} (h : P2G w kb lv wv ls wr i gv gs N n cv) (hn : n < 9) :
    ∃ ad cap w', (Builtin.append_ #[41, 41] 41 #[cv, .slice (some ⟨wr.heap.size, 0, none⟩) 1 1]).run Try.prog (wr.alloc (.cells #[.int .i64 (-1000 - (i : Int)), .int .i64 (N + n : Nat), .int .i64 0] 44)) = .ok (.slice ad (N + (n + 1)) cap) w' ∧ P2G w kb lv wv ls w' i gv gs N (n + 1) (.slice ad (N + (n + 1)) cap) := by
  obtain ⟨w1, h1, h3, h4⟩ := h.p2
  have hfl := h.fl
  have hcl : (marks i (N + n)).length = N + n := marks_len _ _
  obtain ⟨ad, cap, w', hrun, hrow, hcase⟩ := row_push2 h.cur (mk1 i (N + n)) (by omega)
  rw [← marks_succ, hcl] at hrow
  rw [hcl] at hrun hcase
  have hs3 := h3.size
  refine ⟨ad, cap, w', hrun, ?_⟩
  rcases hcase with ⟨g, e1, e2, ho⟩ | ⟨hf, hb⟩
  · subst e2
    have hcg : blkOf cv g := by rw [e1]; rfl
    refine ⟨⟨w1, h1, ?_, fun k hk => h4 k (by rw [e1]; exact hk)⟩, ?_, hrow, hfl⟩
    · rcases h4 g hcg with hg | hg
      · exact h3.trans (ho.mono fun k hk => by rw [hk]; exact hg)
      · exact ⟨ho.os.trans h3.os, ho.tape.trans h3.tape, ho.output.trans h3.output, Nat.le_trans hs3 ho.size, fun k hk hkl => by rw [ho.block k (by omega) (by omega)]; exact h3.block k hk hkl⟩
    · by_cases hg : blkOf (ls.getD i nilS) g
      · -- in the list's own block
        have hlv : ∃ c, ls.getD i nilS = .slice (some ⟨g, 0, none⟩) N c := by
          rcases h.row.2 with ⟨e, _⟩ | ⟨g', c, cur, hv, _, r⟩
          · rw [e] at hg; exact absurd hg (blk_nil g)
          · rw [marks_len] at hv
            rw [hv] at hg
            simp [blkOf, Value.ownBlock] at hg
            subst hg
            exact ⟨c, hv⟩
        obtain ⟨c, hlv⟩ := hlv
        have hr0 := h.row
        rw [hlv] at hr0 ⊢
        obtain ⟨cu1, q1, q2⟩ := RowF.size hr0
        have hc0 := h.cur
        rw [e1] at hc0
        obtain ⟨cu2, q3, q4⟩ := RowF.size hc0
        rw [q1] at q3
        simp only [Option.some.injEq, Obj.cells.injEq] at q3
        have hcc : c = cap := by rw [← q3.1] at q4; omega
        refine RowF.cut hrow (by rw [marks_len]) (by rw [marks_len]; omega) ?_ hcc
        have : ∀ m n, n ≤ m → marks i n = (marks i m).take n := fun m n h => by unfold marks; rw [← List.map_take, List.take_range, Nat.min_eq_left h]
        exact this _ _ (by omega)
      · exact RowS.keep h.row fun k hk => ho.block k (fun e => hg (e ▸ hk)) (RowS.lt h.row hk)
  · refine ⟨⟨w1, h1, ⟨hb.os.trans h3.os, hb.tape.trans h3.tape, hb.output.trans h3.output, Nat.le_trans hs3 hb.size, fun k hk hkl => by rw [hb.block k (by omega)]; exact h3.block k hk hkl⟩, fun k hk => Or.inr (by have := hf k hk; omega)⟩, RowS.below h.row hb, hrow, hfl⟩
/-- the list is grown, and laid aside. -/
theorem P2G.aside {N : Nat} {ad : Option Addr} {cap : Nat} (h : P2G w kb lv wv ls wr i gv gs N 9 (.slice ad (N + 9) cap)) (hbk : BK w kb ls ws lv wv) (hct : CT w ls ws) (hi : i < ls.length) (hl : (ls.length + 1) * 24 ≤ 140737488355328) :
    ∃ w' ad' cap', (Builtin.append_ #[29, 29] 29 #[gv, .slice (some ⟨wr.heap.size, 0, none⟩) 1 1]).run Try.prog (wr.alloc (.cells #[.slice ad (N + 9) cap] 41)) = .ok (.slice ad' (i + 1) cap') w' ∧ P2 w kb lv wv ls w' (i + 1) (.slice ad' (i + 1) cap') (gs ++ [.slice ad (N + 9) cap]) := by
  obtain ⟨w1, h1, h3, h4⟩ := h.p2
  obtain ⟨k1, k2, k3, k4, k5⟩ := h1.keepAll hbk hct hi h3
  have hgl := h1.glen
  have hs1 := h1.only.size
  have hs3 := h3.size
  have hgr : Row wr 41 gv gs := h1.grow.keep k3
  obtain ⟨w', ad', cap', hrun, hrow, ht⟩ := lists_push hgr ad (N + 9) cap (by omega)
  rw [hgl] at hrun hrow ht
  -- what the append of the list leaves alone
  have hkp : ∀ k, k < wr.heap.size → ¬ blkOf gv k → w'.heap[k]? = wr.heap[k]? := fun k hk hn => ht.only.block k hn hk
  have hgF : ∀ k c f, wr.heap[k]? = some (.cells c 44 f) → ¬ blkOf gv k := fun k c f hk e => by
    obtain ⟨c2, f2, h2⟩ := hgr.obj e
    rw [hk] at h2
    simp only [Option.some.injEq, Obj.cells.injEq] at h2
    exact absurd h2.2.1 (by decide)
  have hFk : ∀ (v : Value) (L : List Tm), RowF wr v L → RowF w' v L := fun v L hr => RowS.keep hr fun k hk => by
    obtain ⟨c, h2⟩ := RowS.obj hr hk
    exact hkp k (RowS.lt hr hk) (hgF k c _ h2)
  have hgd : ∀ j, j < i → (gs ++ [Value.slice ad (N + 9) cap]).getD j nilS = gs.getD j nilS := fun j hj => by
    rw [List.getD_eq_getElem?_getD, List.getElem?_append_left (by omega), ← List.getD_eq_getElem?_getD]
  have hge : (gs ++ [Value.slice ad (N + 9) cap]).getD i nilS = Value.slice ad (N + 9) cap := by
    rw [List.getD_eq_getElem?_getD, ← hgl]; simp
  refine ⟨w', ad', cap', hrun, ?_, ?_, hrow, by simp [hgl], fun k hk => ?_, fun j hj => ?_, fun j hj k hk => ?_, fun j h5 h6 => ?_, ⟨?_, ?_, ?_, ?_, fun k hk hkl => ?_⟩⟩
  · have hb := (k1.trans h1.box)
    have hnb : ¬ blkOf gv kb := fun e => by have := h1.gnew kb e; have := heap_lt hbk.box; omega
    exact (hkp kb (heap_lt hb) hnb).trans hb
  · have hr := h1.lrow.keep k2
    refine hr.keep fun g hg => hkp g (hr.lt hg) (fun e => ?_)
    have := h1.gnew g e
    have := hbk.lrow.lt hg
    omega
  · rcases ht.new k hk with h6 | h6
    · exact h1.gnew k h6
    · omega
  · by_cases e : j = i
    · subst e
      rw [hge]
      exact ⟨N, hFk _ _ h.row, hFk _ _ h.cur, h.fl⟩
    · obtain ⟨n, r1, r2, r3⟩ := h1.done j (by omega)
      rw [hgd j (by omega)]
      exact ⟨n, hFk _ _ (RowS.keep r1 (k4 j (by omega) e)), hFk _ _ (RowS.keep r2 (k5 j (by omega))), r3⟩
  · by_cases e : j = i
    · subst e
      rw [hge] at hk
      exact (h4 k hk).imp id (fun h => by omega)
    · rw [hgd j (by omega)] at hk
      exact h1.gown j (by omega) k hk
  · obtain ⟨F, r1, r2⟩ := h1.left j (by omega) h6
    exact ⟨F, hFk _ _ (RowS.keep r1 (k4 j h6 (by omega))), r2⟩
  · exact ht.only.os.trans (h3.os.trans h1.only.os)
  · exact ht.only.tape.trans (h3.tape.trans h1.only.tape)
  · exact ht.only.output.trans (h3.output.trans h1.only.output)
  · have := ht.only.size; omega
  · rw [hkp k (by omega) (fun e => by have := h1.gnew k e; omega), h3.block k (fun e => hk ⟨i, hi, e⟩) (by omega)]
    exact h1.only.block k hk hkl
end
end Go.Proofs.Ythgcjocjkeieaaa
