/-
  The statements' book of rows of options: what Owned keeps, round by round.
-/
import Derived.Test.YtmdkanbfpmdimaaOBkV
import Derived.Test.YtmdkanbfpmdimaaOSame
namespace Go.Proofs.Ytmdkanbfpmdimaa
open Go.RowKit
set_option linter.all false

/-- as append_s; and a row that moved left its old place as it was. -/
theorem append_t (t ty e : TypeId) (z : Value) (sz bytes : Nat) (ht : Try.prog.underlying t = some (.slice e)) (hinfo : (Try.prog.info? e).map (fun i => (i.zero, i.size, i.bytes)) = some (some z, sz, bytes)) (hzc : z.cells.size = sz) (hsz : 0 < sz)
    {w : World} {v : Value} {n : Nat} {xs : List Value} (h : RowS w e sz v n xs) (a : Addr) (m c : Nat) (news : List Value) (hl : news.length = m * sz) (hnews : ∀ j u, news[j]? = some u → w.cell? (a.add j) = some u) (h1 : ∀ u ∈ news, u.oneCell' = true)
    (hml : n + m ≤ maxLen) (hbytes : (n + m) * bytes ≤ 140737488355328) :
    ∃ v' w', (Builtin.append_ #[t, t] ty #[v, .slice (some a) m c]).run Try.prog w = .ok v' w' ∧ RowS w' e sz v' (n + m) (xs ++ news) ∧ w.grownBy w' v.ownBlock ∧ (v'.ownBlock = v.ownBlock ∨ (w.grownBy w' none ∧ ∀ k, v'.ownBlock = some k → w.heap.size ≤ k)) := by
  obtain ⟨i, hi, hz0, hz1, hz2⟩ := info_sz hinfo
  have weak : ∀ (v' : Value) (w' : World), w'.ownsRow w.heap.size e sz v' (n + m) (xs ++ news) → RowS w' e sz v' (n + m) (xs ++ news) ∧ ∀ k, v'.ownBlock = some k → w.heap.size ≤ k := fun v' w' ho => by
    refine ⟨⟨ho.1, ?_⟩, fun k hk => (World.ownsRow.lt ho k hk).1⟩
    rcases ho.2 with h1 | ⟨g, cap, cur, hv, hB, r⟩
    · exact Or.inl h1
    · exact Or.inr ⟨g, cap, cur, hv, Nat.zero_le _, r⟩
  rcases h.2 with ⟨rfl, rfl⟩ | ⟨g, cap, cur, rfl, _, hg, hnc, hm, hs, htk⟩
  · have hx : xs = [] := List.eq_nil_of_length_eq_zero (by rw [h.1]; simp)
    subst hx
    obtain ⟨v', w', hrun, hown, hgr, _⟩ := run_append_own (P := Try.prog) w w.heap.size t ty e i z sz bytes ht hi hz0 hz1 hz2 hzc hsz (.slice none 0 0) 0 [] (World.ownsRow_nil w w.heap.size e sz) a m c news hl hnews h1 hml hbytes (Nat.le_refl _)
    obtain ⟨h2, h3⟩ := weak v' w' hown
    exact ⟨v', w', hrun, h2, hgr, Or.inr ⟨hgr, h3⟩⟩
  · by_cases hroom : n + m ≤ cap
    · have hfit : n * sz + news.length ≤ cur.size := by rw [hl, hs, ← Nat.add_mul]; exact Nat.mul_le_mul_right _ hroom
      have hrun := run_append_room_cells (P := Try.prog) w t ty e i ht hi g 0 n cap a m c news (by rw [hz1]; exact hl) hnews h1 hroom
        (fun j hj => by rw [hz1, Nat.zero_add, cell_of_heap hg, Array.getElem?_eq_getElem (by omega)]; rfl)
        (fun j hj => by rw [hz1, Nat.zero_add]; exact frozen_of_heap hg _)
      rw [hz1, Nat.zero_add] at hrun
      refine ⟨_, _, hrun, ⟨by rw [List.length_append, h.1, hl, ← Nat.add_mul], Or.inr ⟨g, cap, putCells cur (n * sz) news, rfl, Nat.zero_le _, heap_setCells _ _ _ _ _ _ _ hg, hroom, hm, by rw [putCells_size]; exact hs, ?_⟩⟩, grown_setCells _ _ _ _, Or.inl rfl⟩
      rw [Nat.add_mul, ← hl, putCells_take news cur (n * sz) hfit, htk]
    · obtain ⟨v', w', hrun, hown, hgr⟩ := run_append_arg_grows (P := Try.prog) w t ty e i z sz bytes ht hi hz0 hz1 hz2 hzc hsz ⟨g, 0, none⟩ n cap xs h.1
        (fun j u hj => by
          rw [show (⟨g, 0, none⟩ : Addr).add j = ⟨g, j, none⟩ from by unfold Addr.add; split <;> simp_all]
          exact RowS.cell h hj)
        a m c news hl hnews (by omega) hml hbytes
      obtain ⟨h2, h3⟩ := weak v' w' hown
      exact ⟨v', w', hrun, h2, ⟨hgr.os, hgr.tape, hgr.output, hgr.size, fun k hk _ => hgr.block k hk (by simp)⟩, Or.inr ⟨hgr, h3⟩⟩

/-- the marks of row i. -/
def mk15 (i : Nat) : Nat → List Value
  | 0 => []
  | n + 1 => mk15 i n ++ [.int .i64 ((1000 : Int) * i + n), .slice none 0 0]
theorem mk15_len (i n : Nat) : (mk15 i n).length = n * 2 := by
  induction n with
  | zero => rfl
  | succ n ih => simp only [mk15, List.length_append, ih, List.length_cons, List.length_nil]; omega
theorem mk15_at (i n j : Nat) (h : j < n) : (mk15 i n)[j * 2]? = some (.int .i64 ((1000 : Int) * i + j)) := by
  induction n with
  | zero => omega
  | succ n ih =>
    rw [mk15]
    rcases Nat.lt_or_ge j n with h1 | h1
    · rw [List.getElem?_append_left (by rw [mk15_len]; omega)]
      exact ih h1
    · have : j = n := by omega
      subst this
      rw [List.getElem?_append_right (by rw [mk15_len]; omega), mk15_len, Nat.sub_self]
      rfl
theorem set_two (a zs : List Value) (x y : Value) (m : Nat) (h : a.length = m * 2) (hz : m * 2 + 1 < zs.length) : ((a ++ zs.drop (m * 2)).set (m * 2) x).set (m * 2 + 1) y = (a ++ [x, y]) ++ zs.drop ((m + 1) * 2) := by
  rw [List.drop_eq_getElem_cons (by omega : m * 2 < zs.length), List.drop_eq_getElem_cons hz, List.set_append_right _ _ (by omega), h, Nat.sub_self, List.set_cons_zero, List.set_append_right _ _ (by omega), h, show m * 2 + 1 - m * 2 = 1 by omega, show (m + 1) * 2 = m * 2 + 1 + 1 by omega]
  simp only [List.set_cons_succ, List.set_cons_zero, List.append_assoc, List.cons_append, List.nil_append]
/-- v reads as n marks of row i, at the head of its block. -/
def Reads15 (w : World) (v : Value) (i n : Nat) : Prop := ∀ j, j < n → ∃ b cap, v = .slice (some ⟨b, 0, none⟩) n cap ∧ w.cell? ⟨b, j * 2, none⟩ = some (.int .i64 ((1000 : Int) * i + j))
theorem Reads15.of_row {w : World} {v : Value} {i n : Nat} (h : RowS w 45 2 v n (mk15 i n)) : Reads15 w v i n := fun j hj => by
  obtain ⟨g, cap, rfl, _⟩ := h.some_of (by omega)
  exact ⟨g, cap, rfl, RowS.cell h (mk15_at i n j hj)⟩
theorem Reads15.keep {w w' : World} {v : Value} {i n : Nat} (h : Reads15 w v i n) (hk : ∀ b, v.ownBlock = some b → b < w.heap.size → w'.heap[b]? = w.heap[b]?) : Reads15 w' v i n := fun j hj => by
  obtain ⟨b, cap, hv, hc⟩ := h j hj
  exact ⟨b, cap, hv, by rw [World.cell?_of_block (w := w) (a := ⟨b, j * 2, none⟩) (hk b (by rw [hv]; rfl) (World.block_lt_of_cell? w _ hc)), hc]⟩
theorem Reads15.of_longer {w : World} {b n m cap c i : Nat} (h : RowS w 45 2 (.slice (some ⟨b, 0, none⟩) m cap) m (mk15 i m)) (hn : n ≤ m) : Reads15 w (.slice (some ⟨b, 0, none⟩) n c) i n := fun j hj =>
  ⟨b, c, rfl, RowS.cell h (mk15_at i m j (by omega))⟩
theorem RowS.grown {w w' : World} {e : TypeId} {sz n : Nat} {v : Value} {xs : List Value} {row : Option Nat} (h : RowS w e sz v n xs) (hg : w.grownBy w' row) (hn : ∀ b, v.ownBlock = some b → row ≠ some b) : RowS w' e sz v n xs := h.keep fun b hb => hg.block b (h.lt hb) (fun e => hn b hb e.symm)
/-- an option is put behind a row that is being grown. -/
theorem grow15 {W0 wx : World} {a : Option Addr} {l c k q : Nat} {g : Value} (hrow : RowS wx 45 2 g (l + q) (mk15 k (l + q))) (hrd : Reads15 wx (.slice a l c) k l) (hgb : g.ownBlock = (Value.slice a l c).ownBlock ∨ ∃ b, g.ownBlock = some b ∧ W0.heap.size ≤ b)
    (hgr : W0.grownBy wx (Value.slice a l c).ownBlock) (hlv : a = none ∨ ∃ b, a = some ⟨b, 0, none⟩ ∧ b < W0.heap.size) (hl : l ≤ 1000) (hq : q ≤ 5) :
    ∃ gg cc w', (Builtin.append_ #[25, 25] 25 #[g, .slice (some ⟨wx.heap.size, 0, none⟩) 1 1]).run Try.prog (wx.alloc (.cells #[.int .i64 ((1000 : Int) * k + l + q), .slice none 0 0] 45)) = .ok (.slice (some ⟨gg, 0, none⟩) (l + (q + 1)) cc) w' ∧
      W0.grownBy w' (Value.slice a l c).ownBlock ∧ RowS w' 45 2 (.slice (some ⟨gg, 0, none⟩) (l + (q + 1)) cc) (l + (q + 1)) (mk15 k (l + (q + 1))) ∧ Reads15 w' (.slice a l c) k l ∧ ((Value.slice (some ⟨gg, 0, none⟩) (l + (q + 1)) cc).ownBlock = (Value.slice a l c).ownBlock ∨ ∃ b, (Value.slice (some ⟨gg, 0, none⟩) (l + (q + 1)) cc).ownBlock = some b ∧ W0.heap.size ≤ b) := by
  have ra := hrow.below (w' := wx.alloc (.cells #[.int .i64 ((1000 : Int) * k + l + q), .slice none 0 0] 45)) ((Below.refl _ _).alloc (Nat.le_refl _) _)
  have hsz := hgr.size
  obtain ⟨v', w', hrun, row', hgr', hcase⟩ := append_t 25 25 45 _ 2 32 Try.underlying25 infoOpt rfl (by decide) ra ⟨wx.heap.size, 0, none⟩ 1 1 [.int .i64 ((1000 : Int) * k + l + q), .slice none 0 0] rfl (fun j u hj => by
    have e : (⟨wx.heap.size, 0, none⟩ : Addr).add j = ⟨wx.heap.size, j, none⟩ := by unfold Addr.add; split <;> simp_all
    rw [e, cell_of_heap (heap_new wx _)]
    simpa using hj) (by
      intro u hu
      simp only [List.mem_cons, List.not_mem_nil, or_false] at hu
      rcases hu with rfl | rfl <;> rfl) (by unfold maxLen; omega) (by omega)
  have erow : mk15 k (l + q) ++ [Value.int .i64 ((1000 : Int) * k + l + q), .slice none 0 0] = mk15 k (l + (q + 1)) := by
    rw [show l + (q + 1) = l + q + 1 by omega, mk15, show ((1000 : Int) * k + ((l + q : Nat) : Int)) = (1000 : Int) * k + l + q by omega]
  rw [erow] at row'
  have row2 : RowS w' 45 2 v' (l + (q + 1)) (mk15 k (l + (q + 1))) := row'
  obtain ⟨gg, cc, rfl, _⟩ := row2.some_of (by omega)
  have hgr2 : W0.grownBy w' (Value.slice a l c).ownBlock := by
    refine grown_trans (grown_trans hgr (grown_alloc wx _ _) (Or.inl rfl)) hgr' ?_
    rcases hgb with h1 | ⟨b, h1, h2⟩
    · exact Or.inl h1
    · exact Or.inr fun g hg => by rw [h1] at hg; simp only [Option.some.injEq] at hg; omega
  refine ⟨gg, cc, w', hrun, hgr2, row2, ?_, ?_⟩
  · rcases hcase with e1 | ⟨hnone, hnew⟩
    · rcases hlv with rfl | ⟨b, rfl, hb⟩
      · intro j hj
        obtain ⟨b, cap, hv, _⟩ := hrd j hj
        simp at hv
      · rcases hgb with h1 | ⟨b', h1, h2⟩
        · rw [h1] at e1
          simp [Value.ownBlock] at e1
          subst e1
          exact Reads15.of_longer row2 (by omega)
        · refine hrd.keep fun b2 hb2 hlt => ?_
          simp [Value.ownBlock] at hb2
          subst hb2
          rw [hgr'.block b (by simp; omega) (fun e => by rw [h1] at e; simp only [Option.some.injEq] at e; omega)]
          exact heap_old wx _ hlt
    · refine hrd.keep fun b2 hb2 hlt => ?_
      rw [hnone.block b2 (by simp; omega) (by simp)]
      exact heap_old wx _ hlt
  · rcases hcase with e1 | ⟨hnone, hnew⟩
    · rw [e1]
      exact hgb
    · exact Or.inr ⟨gg, rfl, by have := hnew gg rfl; simp at this; omega⟩
/-- the rows that are asked for: from block B on, each by itself, none of them the book's. -/
structure Own15 (w : World) (B : Nat) (P : Nat → Prop) (ps : List (Value × Nat)) : Prop where
  at_ : ∀ (j : Nat) p b, ps[j]? = some p → p.1.ownBlock = some b → B ≤ b ∧ b < w.heap.size ∧ ¬ P b
  ap : ∀ (j j' : Nat) p p' b, j' ≠ j → ps[j]? = some p → ps[j']? = some p' → p.1.ownBlock = some b → p'.1.ownBlock ≠ some b
  bk : ∀ b, P b → b < w.heap.size
/-- behind k rounds of Owned's second loop. -/
structure OI15 (w wr : World) (B : Nat) (P : Nat → Prop) (ps : List (Value × Nat)) (k : Nat) (gv : Value) (gvs : List Value) : Prop where
  len : gvs.length = k
  row : Row wr 25 gv gvs
  book : ∀ b, P b → wr.heap[b]? = w.heap[b]?
  later : ∀ j p b, k ≤ j → ps[j]? = some p → p.1.ownBlock = some b → wr.heap[b]? = w.heap[b]?
  done : ∀ j p, j < k → ps[j]? = some p → ∃ g, gvs[j]? = some g ∧ RowS wr 45 2 g (p.2 + 5) (mk15 j (p.2 + 5)) ∧ Reads15 wr p.1 j p.2 ∧ (g.ownBlock = p.1.ownBlock ∨ ∀ b, g.ownBlock = some b → w.heap.size ≤ b)
  off : ∀ (j : Nat) g b, gvs[j]? = some g → g.ownBlock = some b → gv.ownBlock ≠ some b
  fresh : ∀ b, gv.ownBlock = some b → w.heap.size ≤ b
  below : Below B w wr
theorem OI15.start {w wr : World} {B : Nat} {P : Nat → Prop} {ps : List (Value × Nat)} (hh : wr.heap = w.heap) (hb : Below B w wr) : OI15 w wr B P ps 0 (.slice none 0 0) [] :=
  ⟨rfl, Row.nil _ _, fun b _ => by rw [hh], fun j p b _ _ _ => by rw [hh], fun j p h => by omega, by simp, by simp [Value.ownBlock], hb⟩
theorem OI15.step {w wr w2 w3 : World} {B : Nat} {P : Nat → Prop} {gv gv' g : Value} {ps : List (Value × Nat)} {k : Nat} {gvs : List Value} {p : Value × Nat} (hB : B ≤ w.heap.size) (hbk : Own15 w B P ps) (h : OI15 w wr B P ps k gv gvs) (hp : ps[k]? = some p)
    (hg2 : wr.grownBy w2 p.1.ownBlock) (rg : RowS w2 45 2 g (p.2 + 5) (mk15 k (p.2 + 5))) (rd : Reads15 w2 p.1 k p.2) (hgb : g.ownBlock = p.1.ownBlock ∨ ∃ b, g.ownBlock = some b ∧ wr.heap.size ≤ b)
    (hg3 : w2.grownBy w3 gv.ownBlock) (rv : Row w3 25 gv' (gvs ++ [g])) (hm : Moved w2.heap.size gv gv') : OI15 w w3 B P ps (k + 1) gv' (gvs ++ [g]) := by
  have hl := h.len
  have plt : ∀ b, p.1.ownBlock = some b → b < w.heap.size := fun b hb => (hbk.at_ k p b hp hb).2.1
  have s2 := hg2.size
  have s3 := hg3.size
  have ss := h.below.size
  have gvlt : ∀ b, gv.ownBlock = some b → b < wr.heap.size := fun b hb => h.row.lt hb
  have keep : ∀ b, b < wr.heap.size → p.1.ownBlock ≠ some b → gv.ownBlock ≠ some b → w3.heap[b]? = wr.heap[b]? := fun b hb h1 h2 => by
    rw [hg3.block b (by omega) (fun e => h2 e.symm), hg2.block b hb (fun e => h1 e.symm)]
  have old : ∀ b, b < w.heap.size → p.1.ownBlock ≠ some b → w3.heap[b]? = wr.heap[b]? := fun b hb h1 => keep b (by omega) h1 (fun e => by have := h.fresh b e; omega)
  have goff : ∀ b, g.ownBlock = some b → gv.ownBlock ≠ some b := fun b hb e => by
    rcases hgb with h1 | ⟨b', h1, h2⟩
    · have a1 := plt b (by rw [← h1]; exact hb)
      have a2 := h.fresh b e
      omega
    · rw [hb] at h1
      simp only [Option.some.injEq] at h1
      have := gvlt b e
      omega
  refine ⟨by simp [hl], rv, fun b hb => ?_, fun j pj b hj hpj hb => ?_, fun j pj hj hpj => ?_, fun j g1 b h1 hb => ?_, fun b hb => ?_, ?_⟩
  · have hlt := hbk.bk b hb
    rw [old b hlt (fun e => (hbk.at_ k p b hp e).2.2 hb), h.book b hb]
  · have hlt : b < w.heap.size := (hbk.at_ j pj b hpj hb).2.1
    rw [old b hlt (fun e => hbk.ap k j p pj b (by omega) hp hpj e hb), h.later j pj b (by omega) hpj hb]
  · rcases Nat.lt_or_ge j k with hjk | hjk
    · obtain ⟨gj, hgj, rj, dj, oj⟩ := h.done j pj hjk hpj
      refine ⟨gj, by rw [List.getElem?_append_left (by omega)]; exact hgj, rj.keep fun b hb => ?_, dj.keep fun b hb hlt => ?_, oj⟩
      · refine keep b (rj.lt hb) (fun e => ?_) (fun e => h.off j gj b hgj hb e)
        rcases oj with o1 | o1
        · exact hbk.ap k j p pj b (by omega) hp hpj e (by rw [← o1]; exact hb)
        · have a1 := o1 b hb
          have a2 := plt b e
          omega
      · exact old b (hbk.at_ j pj b hpj hb).2.1 (fun e => hbk.ap k j p pj b (by omega) hp hpj e hb)
    · have hjk' : j = k := by omega
      subst hjk'
      rw [hp] at hpj
      simp only [Option.some.injEq] at hpj
      subst hpj
      refine ⟨g, by rw [List.getElem?_append_right (by omega), hl]; simp, rg.grown hg3 (fun b hb e => goff b hb e), rd.keep fun b hb hlt => ?_, ?_⟩
      · exact hg3.block b hlt (fun e => by
          have a1 := plt b hb
          have a2 := h.fresh b e.symm
          omega)
      · rcases hgb with h1 | ⟨b', h1, h2⟩
        · exact Or.inl h1
        · exact Or.inr fun b hb => by rw [hb] at h1; simp only [Option.some.injEq] at h1; omega
  · intro e
    have hblt : b < w2.heap.size ∧ gv.ownBlock ≠ some b := by
      rcases Nat.lt_or_ge j k with hjk | hjk
      · rw [List.getElem?_append_left (by omega)] at h1
        obtain ⟨pj, hpj⟩ : ∃ pj, ps[j]? = some pj := by
          have : k < ps.length := (List.getElem?_eq_some_iff.1 hp).1
          exact ⟨ps[j]'(by omega), List.getElem?_eq_getElem _⟩
        obtain ⟨gj, hgj, rj, _, _⟩ := h.done j pj hjk hpj
        rw [h1] at hgj
        simp only [Option.some.injEq] at hgj
        subst hgj
        have := rj.lt hb
        exact ⟨by omega, h.off j g1 b h1 hb⟩
      · have hj : j = k := by have := (List.getElem?_eq_some_iff.1 h1).1; simp [hl] at this; omega
        subst hj
        rw [List.getElem?_append_right (by omega), hl] at h1
        simp at h1
        subst h1
        exact ⟨rg.lt hb, goff b hb⟩
    rcases hm.own e with h3 | h3
    · exact hblt.2 h3
    · omega
  · rcases hm.own hb with h3 | h3
    · exact h.fresh b h3
    · omega
  · exact ⟨hg3.os.trans (hg2.os.trans h.below.os), hg3.tape.trans (hg2.tape.trans h.below.tape), hg3.output.trans (hg2.output.trans h.below.output), by have := h.below.size; omega, fun b hb => by
      rw [old b (by omega) (fun e => by have := (hbk.at_ k p b hp e).1; omega), h.below.block b hb]⟩
end Go.Proofs.Ytmdkanbfpmdimaa
