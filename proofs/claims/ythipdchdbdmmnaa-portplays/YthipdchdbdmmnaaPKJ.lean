import Derived.Test.YthipdchdbdmmnaaPSame
import Derived.Test.YthipdchdbdmmnaaPRg
/-
  Port: the lists that the statement keeps. Written by mkpkb.py.
-/
namespace Go.Proofs.Ythipdchdbdmmnaa
open Go.RowKit
set_option linter.all false

structure Tm where
  t : Int
  id : Int
  tag : Int
def tmC (x : Tm) : List Value := [.int .i64 x.t, .int .i64 x.id, .int .i64 x.tag]
def cellsF (F : List Tm) : List Value := F.flatMap tmC
theorem cellsF_len : ∀ F : List Tm, (cellsF F).length = F.length * 3
  | [] => rfl
  | x :: r => by
    have := cellsF_len r
    unfold cellsF at *
    rw [List.flatMap_cons, List.length_append, this, List.length_cons, Nat.add_mul]
    simp [tmC]; omega
theorem cellsF_app (F : List Tm) (y : Tm) : cellsF (F ++ [y]) = cellsF F ++ tmC y := by simp [cellsF]
theorem infoF : (Try.prog.info? 72).map (fun i => (i.zero, i.size, i.bytes)) = some (some (.agg #[.int .i64 0, .int .i64 0, .int .i64 0]), 3, 24) := by kernel_rfl
/-- v is a list of what went off. -/
abbrev RowF (w : World) (v : Value) (F : List Tm) : Prop := RowS w 72 3 v F.length (cellsF F)
def blkOf (v : Value) (k : Nat) : Prop := v.ownBlock = some k
theorem blk_nil (k : Nat) : ¬ blkOf (.slice none 0 0) k := by simp [blkOf, Value.ownBlock]
structure Turned (K : Nat → Prop) (w : World) (K' : Nat → Prop) (w' : World) : Prop where
  only : Only K w w'
  new : ∀ k, K' k → K k ∨ w.heap.size ≤ k
theorem Turned.refl (K : Nat → Prop) (w : World) : Turned K w K w := ⟨Only.refl _ _, fun k hk => Or.inl hk⟩
theorem Turned.below {K : Nat → Prop} {w w' : World} (h : Below w.heap.size w w') : Turned K w K w' := ⟨Only.of_below h, fun k hk => Or.inl hk⟩
/-- what is read of a list, also of one that is not at its block's head. -/
structure PartF (w : World) (v : Value) (F : List Tm) : Prop where
  ex : ∃ ad cap, v = .slice ad F.length cap ∧ F.length ≤ 1048576 ∧ (0 < F.length → ∃ g, ad = some ⟨g, 0, none⟩ ∧ ∀ j x, F[j]? = some x → w.cell? ⟨g, j * 3, none⟩ = some (.int .i64 x.t) ∧ w.cell? ⟨g, j * 3 + 1, none⟩ = some (.int .i64 x.id) ∧ w.cell? ⟨g, j * 3 + 2, none⟩ = some (.int .i64 x.tag))
theorem cellsF_get : ∀ (F : List Tm) (j t : Nat) (x : Tm), F[j]? = some x → t < 3 → (cellsF F)[j * 3 + t]? = (tmC x)[t]?
  | [], j, t, x, h, _ => by simp at h
  | f :: r, 0, t, x, h, ht => by
    simp at h
    subst h
    unfold cellsF
    rw [List.flatMap_cons, Nat.zero_mul, Nat.zero_add, List.getElem?_append_left (by exact ht)]
  | f :: r, j + 1, t, x, h, ht => by
    unfold cellsF
    rw [List.flatMap_cons, List.getElem?_append_right (by show 3 ≤ _; omega)]
    rw [show (j + 1) * 3 + t - (tmC f).length = j * 3 + t from by show (j + 1) * 3 + t - 3 = _; omega]
    exact cellsF_get r j t x (by simpa using h) ht
theorem PartF.of {w : World} {v : Value} {F : List Tm} (h : RowF w v F) (hl : F.length ≤ 1048576) : PartF w v F := by
  obtain ⟨ad, cap, hv, _⟩ := RowS.form h
  refine ⟨ad, cap, hv, hl, fun h0 => ?_⟩
  obtain ⟨g, cap', hv', _⟩ := RowS.some_of h h0
  rw [hv] at hv'
  simp only [Value.slice.injEq] at hv'
  obtain ⟨rfl, _, rfl⟩ := hv'
  subst hv
  refine ⟨g, rfl, fun j x hx => ⟨?_, ?_, ?_⟩⟩
  · exact RowS.cell h (by have := cellsF_get F j 0 x hx (by omega); rw [Nat.add_zero] at this; rw [this]; rfl)
  · exact RowS.cell h (by rw [cellsF_get F j 1 x hx (by omega)]; rfl)
  · exact RowS.cell h (by rw [cellsF_get F j 2 x hx (by omega)]; rfl)
theorem PartF.keep {w w' : World} {v : Value} {F : List Tm} (h : PartF w v F) (hk : ∀ g, v.ownBlock = some g → w'.heap[g]? = w.heap[g]?) : PartF w' v F := by
  obtain ⟨ad, cap, rfl, hl, h1⟩ := h.ex
  refine ⟨ad, cap, rfl, hl, fun h0 => ?_⟩
  obtain ⟨g, rfl, h2⟩ := h1 h0
  have hc : ∀ o, w'.cell? ⟨g, o, none⟩ = w.cell? ⟨g, o, none⟩ := fun o => World.cell?_of_block (w := w) (a := ⟨g, o, none⟩) (hk g rfl)
  exact ⟨g, rfl, fun j x hx => by rw [hc, hc, hc]; exact h2 j x hx⟩
theorem PartF.drewN {w : World} {v : Value} {F : List Tm} (h : PartF w v F) (n : Nat) : PartF (w.drewN n) v F := h.keep fun _ _ => rfl
set_option maxRecDepth 20000 in
theorem fired_same (a b c : Int) (w : World) : (Op.equalIn 10000 72 (.agg #[.int .i64 a, .int .i64 b, .int .i64 c]) (.agg #[.int .i64 a, .int .i64 b, .int .i64 c])).run Try.prog w = .ok true w := by
  have h1 : Try.prog.stoodInHeld 72 = false := by kernel_rfl
  have e3 : ∀ d z, (Op.equalIn (d + 1) 3 (.int .i64 z) (.int .i64 z)).run Try.prog w = .ok true w := fun d z => by
    simp [Op.equalIn, run_underlying Try.underlying3]
  rw [show (10000 : Nat) = 9998 + 1 + 1 from rfl]
  unfold Op.equalIn
  have p0 : (part 3 #[.int .i64 a, .int .i64 b, .int .i64 c] 0).run Try.prog w = .ok (.int .i64 a) w := by kernel_rfl
  have p1 : (part 3 #[.int .i64 a, .int .i64 b, .int .i64 c] 1).run Try.prog w = .ok (.int .i64 b) w := by kernel_rfl
  have p2 : (part 3 #[.int .i64 a, .int .i64 b, .int .i64 c] 2).run Try.prog w = .ok (.int .i64 c) w := by kernel_rfl
  have e9 : ∀ z, (Op.equalIn 9999 3 (.int .i64 z) (.int .i64 z)).run Try.prog w = .ok true w := fun z => e3 9998 z
  simp [run_underlying Try.underlying72, h1, p0, p1, p2, e9, Result.andThen]
def paT (y : Pa) : Tm := ⟨y.n, y.ds.length, y.dr⟩
theorem cellsF_pa : ∀ l : List Pa, cellsF (l.map paT) = pst l
  | [] => rfl
  | y :: l => by
    have := cellsF_pa l
    unfold cellsF pst at *
    rw [List.map_cons, List.flatMap_cons, List.flatMap_cons, this]
    rfl
theorem infoL : (Try.prog.info? 25).map (fun i => (i.zero, i.size, i.bytes)) = some (some (.slice none 0 0), 1, 24) := by kernel_rfl
/-- the book: a struct of two lists of lists. -/
structure BK (w : World) (kb : Nat) (bp : Value) (ls ws : List Value) (lv wv : Value) : Prop where
  box : w.heap[kb]? = some (.cells #[bp, lv, wv] 48 (0, 0))
  lrow : Row w 25 lv ls
  wrow : Row w 25 wv ws
  apart : ∀ k, blkOf lv k → ¬ blkOf wv k
  len : ls.length = ws.length
def BKK (kb : Nat) (lv wv : Value) (k : Nat) : Prop := k = kb ∨ blkOf lv k ∨ blkOf wv k
theorem BK.ne {w : World} {kb : Nat} {bp : Value} {ls ws : List Value} {lv wv : Value} (h : BK w kb bp ls ws lv wv) {k : Nat} (hk : blkOf lv k ∨ blkOf wv k) : k ≠ kb := by
  rintro rfl
  rcases hk with hk | hk
  · obtain ⟨c, f, h1⟩ := h.lrow.obj hk
    rw [h.box] at h1
    simp only [Option.some.injEq, Obj.cells.injEq] at h1
    exact absurd h1.2.1 (by decide)
  · obtain ⟨c, f, h1⟩ := h.wrow.obj hk
    rw [h.box] at h1
    simp only [Option.some.injEq, Obj.cells.injEq] at h1
    exact absurd h1.2.1 (by decide)
theorem BK.keep {w w' : World} {kb : Nat} {bp : Value} {ls ws : List Value} {lv wv : Value} (h : BK w kb bp ls ws lv wv) (hk : ∀ k, BKK kb lv wv k → w'.heap[k]? = w.heap[k]?) : BK w' kb bp ls ws lv wv :=
  ⟨(hk kb (Or.inl rfl)).trans h.box, h.lrow.keep fun g hg => hk g (Or.inr (Or.inl hg)), h.wrow.keep fun g hg => hk g (Or.inr (Or.inr hg)), h.apart, h.len⟩
theorem BK.lt {w : World} {kb : Nat} {bp : Value} {ls ws : List Value} {lv wv : Value} (h : BK w kb bp ls ws lv wv) {k : Nat} (hk : BKK kb lv wv k) : k < w.heap.size := by
  rcases hk with rfl | hk | hk
  · exact heap_lt h.box
  · exact h.lrow.lt hk
  · exact h.wrow.lt hk
/-- one more list at the end of a list of lists. -/
theorem lists_push {w : World} {v : Value} {ls : List Value} (h : Row w 25 v ls) (ad : Option Addr) (n c : Nat) (hl : (ls.length + 1) * 24 ≤ 140737488355328) :
    ∃ w' ad' cap', (Builtin.append_ #[46, 46] 46 #[v, .slice (some ⟨w.heap.size, 0, none⟩) 1 1]).run Try.prog (w.alloc (.cells #[.slice ad n c] 25)) = .ok (.slice ad' (ls.length + 1) cap') w' ∧ Row w' 25 (.slice ad' (ls.length + 1) cap') (ls ++ [.slice ad n c]) ∧ Turned (blkOf v) w (blkOf (.slice ad' (ls.length + 1) cap')) w' := by
  have hb0 := balloc w (.cells #[.slice ad n c] 25)
  obtain ⟨v', w', hrun, hrow, hgr, hcase⟩ := append_one 46 46 25 _ 24 Try.underlying46 infoL rfl (h.below hb0) (.slice ad n c) rfl w.heap.size (0, 0) (heap_new w _) (by unfold maxLen; omega) (by omega)
  have hform : ∃ ad' cap', v' = .slice ad' (ls.length + 1) cap' ∧ ∀ g, v'.ownBlock = some g → v.ownBlock = some g ∨ w.heap.size ≤ g := by
    rcases hcase with ⟨g, cap, h1, h2⟩ | ⟨g, cap, h1, h2, _⟩
    · exact ⟨_, _, h2, fun k hk => Or.inl (by rw [h1]; rw [h2] at hk; exact hk)⟩
    · refine ⟨_, _, h1, fun k hk => Or.inr ?_⟩
      rw [h1] at hk
      simp [Value.ownBlock] at hk
      have := hb0.size
      omega
  obtain ⟨ad', cap', rfl, hown⟩ := hform
  refine ⟨w', ad', cap', hrun, hrow, ⟨hgr.os.trans hb0.os, hgr.tape.trans hb0.tape, hgr.output.trans hb0.output, Nat.le_trans hb0.size hgr.size, fun k hk hkl => ?_⟩, fun k hk => hown k hk⟩
  exact (hgr.block k (by have := hb0.size; omega) (fun e => hk e.symm)).trans (hb0.block k hkl)
end Go.Proofs.Ythipdchdbdmmnaa

/-
  Port: stands: how lists are written full, and grown. Written by mkpkb.py.
-/
namespace Go.Proofs.Ythipdchdbdmmnaa
open Go.RowKit
set_option linter.all false

def mk1 (i n : Nat) : Tm := ⟨-1000 - (i : Int), n, 0⟩
def markT (i n : Nat) : List Tm := (List.range n).map (mk1 i)
theorem markT_len (i n : Nat) : (markT i n).length = n := by simp [markT]
theorem markT_succ (i n : Nat) : markT i (n + 1) = markT i n ++ [mk1 i n] := by simp [markT, List.range_succ]
theorem markT_get {i n j : Nat} (h : j < n) : (markT i n)[j]? = some (mk1 i j) := by simp [markT, h]
theorem cellsF_set : ∀ (L : List Tm) (n : Nat) (y : Tm), n < L.length → cellsF (L.set n y) = (((cellsF L).set (n * 3) (.int .i64 y.t)).set (n * 3 + 1) (.int .i64 y.id)).set (n * 3 + 2) (.int .i64 y.tag)
  | [], n, y, h => by simp at h
  | x :: r, 0, y, h => by simp [cellsF, tmC]
  | x :: r, n + 1, y, h => by
    have ih := cellsF_set r n y (by simpa using h)
    unfold cellsF at *
    rw [List.set_cons_succ, List.flatMap_cons, ih, List.flatMap_cons]
    have e : ∀ (k : Nat) (l : List Value) (u : Value), (tmC x ++ l).set (k + 3) u = tmC x ++ l.set k u := fun k l u => by simp [tmC]
    rw [show (n + 1) * 3 = n * 3 + 3 from by omega, e, show n * 3 + 3 + 1 = n * 3 + 1 + 3 from by omega, e, show n * 3 + 3 + 2 = n * 3 + 2 + 3 from by omega, e]
/-- 'g[n] = y'. -/
theorem RowF.set3 {w : World} {g n cap : Nat} {L : List Tm} (h : RowF w (.slice (some ⟨g, 0, none⟩) L.length cap) L) (hn : n < L.length) (y : Tm) :
    (∀ t, t < 3 → ∃ u, w.cell? ⟨g, n * 3 + t, none⟩ = some u) ∧ (∀ j, w.frozen? ⟨g, j, none⟩ = false) ∧ RowF (((w.setCell ⟨g, n * 3, none⟩ (.int .i64 y.t)).setCell ⟨g, n * 3 + 1, none⟩ (.int .i64 y.id)).setCell ⟨g, n * 3 + 2, none⟩ (.int .i64 y.tag)) (.slice (some ⟨g, 0, none⟩) L.length cap) (L.set n y) := by
  rcases h.2 with ⟨h1, _⟩ | ⟨g', cap', cur, hv, _, hg, hl, hm, hs, ht⟩
  · simp at h1
  · simp only [Value.slice.injEq, Option.some.injEq, Addr.mk.injEq] at hv
    obtain ⟨⟨rfl, _⟩, _, rfl⟩ := hv
    have hcl := cellsF_len L
    have hcs : L.length * 3 ≤ cur.size := by rw [hs]; exact Nat.mul_le_mul_right 3 hl
    refine ⟨fun t ht3 => ⟨cur[n * 3 + t]'(by omega), by rw [cell_of_heap hg, Array.getElem?_eq_getElem (by omega)]⟩, fun j => frozen_of_heap hg j, cellsF_len _, Or.inr ⟨g, cap, _, by rw [List.length_set], Nat.zero_le _, heap_setCell (heap_setCell (heap_setCell hg)), by rw [List.length_set]; exact hl, hm, by simpa using hs, ?_⟩⟩
    rw [List.length_set, cellsF_set L n y hn, ← ht]
    simp only [Array.toList_setIfInBounds, List.take_set]
/-- one more at the end: in its place, or in a new block and nothing else is touched. -/
theorem row_push2 {w : World} {v : Value} {F : List Tm} (h : RowF w v F) (y : Tm) (hl : F.length ≤ 1048575) :
    ∃ ad cap w', (Builtin.append_ #[25, 25] 25 #[v, .slice (some ⟨w.heap.size, 0, none⟩) 1 1]).run Try.prog (w.alloc (.cells #[.int .i64 y.t, .int .i64 y.id, .int .i64 y.tag] 72)) = .ok (.slice ad (F.length + 1) cap) w' ∧ RowF w' (.slice ad (F.length + 1) cap) (F ++ [y]) ∧
      ((∃ g, v = .slice (some ⟨g, 0, none⟩) F.length cap ∧ ad = some ⟨g, 0, none⟩ ∧ Only (fun k => k = g) w w') ∨ ((∀ k, blkOf (.slice ad (F.length + 1) cap) k → w.heap.size ≤ k) ∧ Below w.heap.size w w')) := by
  have hb0 := balloc w (.cells #[.int .i64 y.t, .int .i64 y.id, .int .i64 y.tag] 72)
  have hml : 1048577 ≤ maxLen := by unfold maxLen; omega
  have h' := RowS.below h hb0
  obtain ⟨i, hi, hz0, hz1, hz2⟩ := info_sz infoF
  have hnews : ∀ j u, (tmC y)[j]? = some u → (w.alloc (.cells #[.int .i64 y.t, .int .i64 y.id, .int .i64 y.tag] 72)).cell? ((⟨w.heap.size, 0, none⟩ : Addr).add j) = some u := fun j u hj => by
    rw [show (⟨w.heap.size, 0, none⟩ : Addr).add j = ⟨w.heap.size, j, none⟩ from by unfold Addr.add; split <;> simp_all, cell_of_heap (heap_new w _), ← Array.getElem?_toList]
    exact hj
  have hone : ∀ u ∈ tmC y, u.oneCell' = true := fun u hu => by simp [tmC] at hu; rcases hu with rfl | rfl | rfl <;> rfl
  rcases h'.2 with ⟨rfl, h0⟩ | ⟨g, cap, cur, rfl, _, hg, hnc, hm, hs, htk⟩
  · have hF : F = [] := List.eq_nil_of_length_eq_zero h0
    subst hF
    obtain ⟨v', w', hrun, hrow, hgr, hown⟩ := append_s 25 25 72 _ 3 24 Try.underlying25 infoF rfl (by decide) h' ⟨w.heap.size, 0, none⟩ 1 1 (tmC y) rfl hnews hone (by simp; omega) (by simp)
    obtain ⟨ad, cap, rfl, _⟩ := RowS.form hrow
    refine ⟨ad, cap, w', hrun, hrow, Or.inr ⟨fun k hk => ?_, hb0.trans ⟨hgr.os, hgr.tape, hgr.output, hgr.size, fun k hk => hgr.block k (by have := hb0.size; omega) (by simp [Value.ownBlock])⟩⟩⟩
    rcases hown k hk with h1 | h1
    · simp [Value.ownBlock] at h1
    · have := hb0.size; omega
  · by_cases hroom : F.length + 1 ≤ cap
    · have hfit : F.length * 3 + (tmC y).length ≤ cur.size := by show F.length * 3 + 3 ≤ _; rw [hs]; omega
      have hrun := run_append_room_cells (P := Try.prog) (w.alloc (.cells #[.int .i64 y.t, .int .i64 y.id, .int .i64 y.tag] 72)) 25 25 72 i Try.underlying25 hi g 0 F.length cap ⟨w.heap.size, 0, none⟩ 1 1 (tmC y) (by rw [hz1]; rfl) hnews hone hroom
        (fun j hj => by rw [hz1, Nat.zero_add, cell_of_heap hg, Array.getElem?_eq_getElem (by omega)]; rfl)
        (fun j hj => by rw [hz1, Nat.zero_add]; exact frozen_of_heap hg _)
      rw [hz1, Nat.zero_add] at hrun
      have hgs := grown_setCells (tmC y) (w.alloc (.cells #[.int .i64 y.t, .int .i64 y.id, .int .i64 y.tag] 72)) g (F.length * 3)
      refine ⟨some ⟨g, 0, none⟩, cap, _, hrun, ⟨cellsF_len _ ▸ (by simp), Or.inr ⟨g, cap, putCells cur (F.length * 3) (tmC y), by simp, Nat.zero_le _, heap_setCells _ _ _ _ _ _ _ hg, by simpa using hroom, hm, by rw [putCells_size]; exact hs, ?_⟩⟩, Or.inl ⟨g, rfl, rfl, ⟨hgs.os.trans hb0.os, hgs.tape.trans hb0.tape, hgs.output.trans hb0.output, Nat.le_trans hb0.size hgs.size, fun k hk hkl => (hgs.block k (by have := hb0.size; omega) (by simpa using hk)).trans (hb0.block k hkl)⟩⟩⟩
      have := putCells_take (tmC y) cur (F.length * 3) hfit
      rw [show (F ++ [y]).length * 3 = F.length * 3 + (tmC y).length from by simp [tmC]; omega, this, htk, cellsF_app]
    · obtain ⟨v', w', hrun, hown, hgr⟩ := run_append_arg_grows (P := Try.prog) (w.alloc (.cells #[.int .i64 y.t, .int .i64 y.id, .int .i64 y.tag] 72)) 25 25 72 i _ 3 24 Try.underlying25 hi hz0 hz1 hz2 rfl (by decide) ⟨g, 0, none⟩ F.length cap (cellsF F) h'.1
        (fun j u hj => by
          rw [show (⟨g, 0, none⟩ : Addr).add j = ⟨g, j, none⟩ from by unfold Addr.add; split <;> simp_all]
          exact RowS.cell h' hj)
        ⟨w.heap.size, 0, none⟩ 1 1 (tmC y) rfl hnews (by omega) (by omega) (by omega)
      have hrow : RowF w' v' (F ++ [y]) := by
        refine ⟨cellsF_len _, ?_⟩
        rw [cellsF_app, List.length_append]
        rcases hown.2 with h1 | ⟨g', cap', cur', hv', hB, r⟩
        · exact Or.inl h1
        · exact Or.inr ⟨g', cap', cur', hv', Nat.zero_le _, r⟩
      obtain ⟨ad, cap', rfl, _⟩ := RowS.form hrow
      have hlo := fun k hk => (World.ownsRow.lt hown k hk).1
      rw [List.length_append] at hrun hrow hlo
      refine ⟨ad, cap', w', hrun, hrow, Or.inr ⟨fun k hk => by have := hlo k hk; have := hb0.size; omega, hb0.trans ⟨hgr.os, hgr.tape, hgr.output, hgr.size, fun k hk => hgr.block k (by have := hb0.size; omega) (by simp)⟩⟩⟩
/-- a list's beginning, in the same block. -/
theorem RowF.cut {w : World} {g n cap c2 m : Nat} {L K : List Tm} (h : RowF w (.slice (some ⟨g, 0, none⟩) n cap) L) (hn : n = L.length) (hm : m ≤ L.length) (hk : K = L.take m) (hc : c2 = cap) : RowF w (.slice (some ⟨g, 0, none⟩) m c2) K := by
  subst hk hc hn
  have hlen : (L.take m).length = m := by rw [List.length_take]; omega
  have hcl : ∀ (L : List Tm) (m : Nat), m ≤ L.length → cellsF (L.take m) = (cellsF L).take (m * 3) := fun L => by
    induction L with
    | nil => intro m hm; simp at hm; subst hm; rfl
    | cons x r ih =>
      intro m hm
      cases m with
      | zero => rfl
      | succ m =>
        have := ih m (by simpa using hm)
        unfold cellsF at *
        rw [List.take_succ_cons, List.flatMap_cons, List.flatMap_cons, this, show (m + 1) * 3 = m * 3 + 3 from by omega]
        simp [tmC]
  rcases h.2 with ⟨h1, _⟩ | ⟨g', cap', cur, hv, _, hg, hl, hmx, hs, ht⟩
  · simp at h1
  · simp only [Value.slice.injEq, Option.some.injEq, Addr.mk.injEq] at hv
    obtain ⟨⟨rfl, _⟩, _, rfl⟩ := hv
    refine ⟨by rw [hlen]; have := cellsF_len (L.take m); rw [hlen] at this; exact this, Or.inr ⟨g, c2, cur, by rw [hlen], Nat.zero_le _, hg, by omega, hmx, hs, ?_⟩⟩
    rw [hlen, hcl L m hm, ← ht, List.take_take, Nat.min_eq_left (Nat.mul_le_mul_right 3 hm)]
theorem RowF.size {w : World} {g n cap : Nat} {L : List Tm} (h : RowF w (.slice (some ⟨g, 0, none⟩) n cap) L) : ∃ cur, w.heap[g]? = some (.cells cur 72 (0, 0)) ∧ cur.size = cap * 3 := by
  rcases h.2 with ⟨h1, _⟩ | ⟨g', cap', cur, hv, _, hg, hl, hmx, hs, ht⟩
  · simp at h1
  · simp only [Value.slice.injEq, Option.some.injEq, Addr.mk.injEq] at hv
    obtain ⟨⟨rfl, _⟩, _, rfl⟩ := hv
    exact ⟨cur, hg, hs⟩
end Go.Proofs.Ythipdchdbdmmnaa

/-
  Port: stands, of the lists that the statement keeps. Written by mkpkb.py.
-/
namespace Go.Proofs.Ythipdchdbdmmnaa
open Go.RowKit
set_option linter.all false

def nilS : Value := .slice none 0 0
/-- the lists read as they came, and none shares memory with another one. -/
structure CT (w : World) (ls ws : List Value) : Prop where
  eachP : ∀ j, j < ls.length → ∃ l : List Pa, RowS w 72 3 (ls.getD j nilS) l.length (pst l) ∧ RowS w 72 3 (ws.getD j nilS) l.length (pst l) ∧ l.length ≤ 64 ∧ ∀ y ∈ l, y.in64
  apart : ∀ i j, i < ls.length → j < ls.length → i ≠ j → ∀ k, blkOf (ls.getD i nilS) k → ¬ blkOf (ls.getD j nilS) k
theorem CT.each {w : World} {ls ws : List Value} (h : CT w ls ws) (j : Nat) (hj : j < ls.length) : ∃ F, RowF w (ls.getD j nilS) F ∧ RowF w (ws.getD j nilS) F ∧ F.length ≤ 1024 := by
  obtain ⟨l, h1, h2, h3, _⟩ := h.eachP j hj
  refine ⟨l.map paT, ?_, ?_, by rw [List.length_map]; omega⟩
  · show RowS _ _ _ _ (l.map paT).length (cellsF (l.map paT))
    rw [cellsF_pa, List.length_map]
    exact h1
  · show RowS _ _ _ _ (l.map paT).length (cellsF (l.map paT))
    rw [cellsF_pa, List.length_map]
    exact h2
theorem row_get {w : World} {v : Value} {vs : List Value} {e : TypeId} (h : Row w e v vs) {j : Nat} (hj : j < vs.length) : ∃ g cap, v = .slice (some ⟨g, 0, none⟩) vs.length cap ∧ w.cell? ⟨g, j, none⟩ = some (vs.getD j nilS) := by
  obtain ⟨g, cap, hv, hc⟩ := h.cell j hj
  refine ⟨g, cap, hv, ?_⟩
  rw [hc, List.getD_eq_getElem?_getD, List.getElem?_eq_getElem hj]
  rfl
/-- how it stands while the lists are written: i of them are done. -/
structure P2 (w : World) (kb : Nat) (bp : Value) (lv wv : Value) (ls : List Value) (wr : World) (i : Nat) (gv : Value) (gs : List Value) : Prop where
  box : wr.heap[kb]? = some (.cells #[bp, lv, wv] 48 (0, 0))
  lrow : Row wr 25 lv ls
  grow : Row wr 25 gv gs
  glen : gs.length = i
  gnew : ∀ k, blkOf gv k → w.heap.size ≤ k
  done : ∀ j, j < i → ∃ n, RowF wr (ls.getD j nilS) (markT j n) ∧ RowF wr (gs.getD j nilS) (markT j (n + 9)) ∧ n ≤ 1024
  gown : ∀ j, j < i → ∀ k, blkOf (gs.getD j nilS) k → blkOf (ls.getD j nilS) k ∨ w.heap.size ≤ k
  left : ∀ j, i ≤ j → j < ls.length → ∃ F, RowF wr (ls.getD j nilS) F ∧ F.length ≤ 1024
  only : Only (fun k => ∃ j, j < ls.length ∧ blkOf (ls.getD j nilS) k) w wr
/-- list i is being written, n of its places are; or grown, by n. -/
structure P2W (w : World) (kb : Nat) (bp : Value) (lv wv : Value) (ls : List Value) (wr : World) (i : Nat) (gv : Value) (gs : List Value) (F : List Tm) (n : Nat) : Prop where
  p2 : ∃ w1, P2 w kb bp lv wv ls w1 i gv gs ∧ RowF w1 (ls.getD i nilS) F ∧ Only (blkOf (ls.getD i nilS)) w1 wr
  row : RowF wr (ls.getD i nilS) (markT i n ++ F.drop n)
  le : n ≤ F.length
  fl : F.length ≤ 1024
structure P2G (w : World) (kb : Nat) (bp : Value) (lv wv : Value) (ls : List Value) (wr : World) (i : Nat) (gv : Value) (gs : List Value) (N : Nat) (n : Nat) (cv : Value) : Prop where
  p2 : ∃ w1, P2 w kb bp lv wv ls w1 i gv gs ∧ Only (blkOf (ls.getD i nilS)) w1 wr ∧ ∀ k, blkOf cv k → blkOf (ls.getD i nilS) k ∨ w1.heap.size ≤ k
  row : RowF wr (ls.getD i nilS) (markT i N)
  cur : RowF wr cv (markT i (N + n))
  fl : N ≤ 1024
section
variable {w : World} {kb : Nat} {bp : Value} {lv wv : Value} {ls ws : List Value} {wr : World} {i : Nat} {gv : Value} {gs : List Value}
/-- what blocks are left alone while list i is worked on. -/
theorem P2.keepAll {w1 : World} (h : P2 w kb bp lv wv ls w1 i gv gs) (hbk : BK w kb bp ls ws lv wv) (hct : CT w ls ws) (hi : i < ls.length) (ho : Only (blkOf (ls.getD i nilS)) w1 wr) :
    wr.heap[kb]? = w1.heap[kb]? ∧ (∀ g, blkOf lv g → wr.heap[g]? = w1.heap[g]?) ∧ (∀ g, blkOf gv g → wr.heap[g]? = w1.heap[g]?) ∧ (∀ j, j < ls.length → j ≠ i → ∀ g, blkOf (ls.getD j nilS) g → wr.heap[g]? = w1.heap[g]?) ∧ (∀ j, j < i → ∀ g, blkOf (gs.getD j nilS) g → wr.heap[g]? = w1.heap[g]?) := by
  obtain ⟨F0, r0, _⟩ := hct.each i hi
  have hlt0 : ∀ k, blkOf (ls.getD i nilS) k → k < w.heap.size := fun k hk => RowS.lt r0 hk
  have hty : ∀ k, blkOf (ls.getD i nilS) k → ∃ c, w1.heap[k]? = some (.cells c 72 (0, 0)) := fun k hk => by
    obtain ⟨F, rF, _⟩ := h.left i (Nat.le_refl _) hi
    exact RowS.obj rF hk
  have hs := h.only.size
  refine ⟨ho.block kb (fun e => ?_) (heap_lt h.box), fun g hg => ho.block g (fun e => ?_) (h.lrow.lt hg), fun g hg => ho.block g (fun e => ?_) (h.grow.lt hg), fun j hj hne g hg => ?_, fun j hj g hg => ?_⟩
  · obtain ⟨c, h1⟩ := hty kb e
    rw [h.box] at h1
    simp only [Option.some.injEq, Obj.cells.injEq] at h1
    exact absurd h1.2.1 (by decide)
  · obtain ⟨c, h1⟩ := hty g e
    obtain ⟨c2, f2, h2⟩ := h.lrow.obj hg
    rw [h1] at h2
    simp only [Option.some.injEq, Obj.cells.injEq] at h2
    exact absurd h2.2.1 (by decide)
  · have := hlt0 g e; have := h.gnew g hg; omega
  · obtain ⟨Fj, rj, _⟩ := hct.each j hj
    exact ho.block g (hct.apart j i hj hi hne g hg) (by have := RowS.lt rj hg; omega)
  · obtain ⟨n, _, r2, _⟩ := h.done j hj
    refine ho.block g (fun e => ?_) (RowS.lt r2 hg)
    rcases h.gown j hj g hg with h1 | h1
    · exact hct.apart j i (by omega) hi (by omega) g h1 e
    · have := hlt0 g e; omega
theorem P2.start (hbk : BK w kb bp ls ws lv wv) (hct : CT w ls ws) (q : Nat) : P2 w kb bp lv wv ls (w.drewN q) 0 (.slice none 0 0) [] :=
  ⟨hbk.box, hbk.lrow.keep fun _ _ => rfl, Row.nil _ _, rfl, fun k hk => absurd hk (blk_nil k), fun j hj => by omega, fun j hj => by omega, fun j _ hj => by
    obtain ⟨F, h1, _, h3⟩ := hct.each j hj
    exact ⟨F, RowS.keep h1 fun _ _ => rfl, h3⟩, ⟨rfl, rfl, rfl, Nat.le_refl _, fun _ _ _ => rfl⟩⟩
theorem P2.enter (h : P2 w kb bp lv wv ls wr i gv gs) (hi : i < ls.length) : ∃ F, P2W w kb bp lv wv ls wr i gv gs F 0 := by
  obtain ⟨F, h1, h2⟩ := h.left i (Nat.le_refl _) hi
  exact ⟨F, ⟨wr, h, h1, Only.refl _ _⟩, h1, Nat.zero_le _, h2⟩
theorem P2W.write {F : List Tm} {n : Nat} (h : P2W w kb bp lv wv ls wr i gv gs F n) (hn : n < F.length) :
    ∃ g cap, ls.getD i nilS = .slice (some ⟨g, 0, none⟩) F.length cap ∧ (∀ t, t < 3 → ∃ u, wr.cell? ⟨g, n * 3 + t, none⟩ = some u) ∧ (∀ j, wr.frozen? ⟨g, j, none⟩ = false) ∧ P2W w kb bp lv wv ls (((wr.setCell ⟨g, n * 3, none⟩ (.int .i64 (-1000 - (i : Int)))).setCell ⟨g, n * 3 + 1, none⟩ (.int .i64 n)).setCell ⟨g, n * 3 + 2, none⟩ (.int .i64 0)) i gv gs F (n + 1) := by
  obtain ⟨w1, h1, h2, h3⟩ := h.p2
  have hrow := h.row
  have hLl : (markT i n ++ F.drop n).length = F.length := by rw [List.length_append, markT_len, List.length_drop]; have := h.le; omega
  obtain ⟨g, cap, hv, hlc, hcm⟩ := RowS.some_of h2 (by omega)
  have hv0 := hv
  rw [hv] at hrow
  have hrow' : RowF wr (.slice (some ⟨g, 0, none⟩) (markT i n ++ F.drop n).length cap) (markT i n ++ F.drop n) := by rw [hLl]; exact hrow
  obtain ⟨c1, c2, c3⟩ := hrow'.set3 (n := n) (by omega) (mk1 i n)
  rw [hLl] at c3
  have hset : (markT i n ++ F.drop n).set n (mk1 i n) = markT i (n + 1) ++ F.drop (n + 1) := by
    rw [List.set_append_right _ _ (by rw [markT_len]; omega), markT_len, Nat.sub_self, markT_succ, List.append_assoc]
    congr 1
    rw [List.drop_eq_getElem_cons hn, List.set_cons_zero]
    rfl
  rw [hset] at c3
  refine ⟨g, cap, hv0, c1, c2, ⟨w1, h1, h2, ?_⟩, by rw [hv]; exact c3, by omega, h.fl⟩
  have hb : blkOf (ls.getD i nilS) g := by rw [hv]; rfl
  exact ((h3.trans (Only.of_but (But.setCell g _ _ _) hb)).trans (Only.of_but (But.setCell g _ _ _) hb)).trans (Only.of_but (But.setCell g _ _ _) hb)
theorem P2W.grow {F : List Tm} {n : Nat} (h : P2W w kb bp lv wv ls wr i gv gs F n) (hn : F.length ≤ n) : P2G w kb bp lv wv ls wr i gv gs F.length 0 (ls.getD i nilS) := by
  obtain ⟨w1, h1, h2, h3⟩ := h.p2
  have e : n = F.length := by have := h.le; omega
  have hr := h.row
  rw [e, List.drop_length, List.append_nil] at hr
  exact ⟨⟨w1, h1, h3, fun k hk => Or.inl hk⟩, hr, hr, h.fl⟩
theorem P2G.push {N n : Nat} {cv : Value} (h : P2G w kb bp lv wv ls wr i gv gs N n cv) (hn : n < 9) :
    ∃ ad cap w', (Builtin.append_ #[25, 25] 25 #[cv, .slice (some ⟨wr.heap.size, 0, none⟩) 1 1]).run Try.prog (wr.alloc (.cells #[.int .i64 (-1000 - (i : Int)), .int .i64 (N + n : Nat), .int .i64 0] 72)) = .ok (.slice ad (N + (n + 1)) cap) w' ∧ P2G w kb bp lv wv ls w' i gv gs N (n + 1) (.slice ad (N + (n + 1)) cap) := by
  obtain ⟨w1, h1, h3, h4⟩ := h.p2
  have hfl := h.fl
  have hcl : (markT i (N + n)).length = N + n := markT_len _ _
  obtain ⟨ad, cap, w', hrun, hrow, hcase⟩ := row_push2 h.cur (mk1 i (N + n)) (by omega)
  rw [← markT_succ, hcl] at hrow
  rw [hcl] at hrun hcase
  have hs3 := h3.size
  refine ⟨ad, cap, w', hrun, ?_⟩
  rcases hcase with ⟨g, e1, e2, ho⟩ | ⟨hf, hb⟩
  · subst e2
    have hcg : blkOf cv g := by rw [e1]; rfl
    refine ⟨⟨w1, h1, ?_, fun k hk => h4 k (by rw [e1]; exact hk)⟩, ?_, hrow, hfl⟩
    · rcases h4 g hcg with hg | hg
      · exact h3.trans (ho.mono fun k hk => by rw [hk]; exact hg)
      · exact ⟨ho.os.trans h3.os, ho.tape.trans h3.tape, ho.output.trans h3.output, Nat.le_trans hs3 ho.size, fun k hk hkl => by rw [ho.block k (by omega) (by omega)]; exact h3.block k hk hkl⟩
    · by_cases hg : blkOf (ls.getD i nilS) g
      · -- in the list's own block
        have hlv : ∃ c, ls.getD i nilS = .slice (some ⟨g, 0, none⟩) N c := by
          rcases h.row.2 with ⟨e, _⟩ | ⟨g', c, cur, hv, _, r⟩
          · rw [e] at hg; exact absurd hg (blk_nil g)
          · rw [markT_len] at hv
            rw [hv] at hg
            simp [blkOf, Value.ownBlock] at hg
            subst hg
            exact ⟨c, hv⟩
        obtain ⟨c, hlv⟩ := hlv
        have hr0 := h.row
        rw [hlv] at hr0 ⊢
        obtain ⟨cu1, q1, q2⟩ := RowF.size hr0
        have hc0 := h.cur
        rw [e1] at hc0
        obtain ⟨cu2, q3, q4⟩ := RowF.size hc0
        rw [q1] at q3
        simp only [Option.some.injEq, Obj.cells.injEq] at q3
        have hcc : c = cap := by rw [← q3.1] at q4; omega
        refine RowF.cut hrow (by rw [markT_len]) (by rw [markT_len]; omega) ?_ hcc
        have : ∀ m n, n ≤ m → markT i n = (markT i m).take n := fun m n h => by unfold markT; rw [← List.map_take, List.take_range, Nat.min_eq_left h]
        exact this _ _ (by omega)
      · exact RowS.keep h.row fun k hk => ho.block k (fun e => hg (e ▸ hk)) (RowS.lt h.row hk)
  · refine ⟨⟨w1, h1, ⟨hb.os.trans h3.os, hb.tape.trans h3.tape, hb.output.trans h3.output, Nat.le_trans hs3 hb.size, fun k hk hkl => by rw [hb.block k (by omega)]; exact h3.block k hk hkl⟩, fun k hk => Or.inr (by have := hf k hk; omega)⟩, RowS.below h.row hb, hrow, hfl⟩
/-- the list is grown, and laid aside. -/
theorem P2G.aside {N : Nat} {ad : Option Addr} {cap : Nat} (h : P2G w kb bp lv wv ls wr i gv gs N 9 (.slice ad (N + 9) cap)) (hbk : BK w kb bp ls ws lv wv) (hct : CT w ls ws) (hi : i < ls.length) (hl : (ls.length + 1) * 24 ≤ 140737488355328) :
    ∃ w' ad' cap', (Builtin.append_ #[46, 46] 46 #[gv, .slice (some ⟨wr.heap.size, 0, none⟩) 1 1]).run Try.prog (wr.alloc (.cells #[.slice ad (N + 9) cap] 25)) = .ok (.slice ad' (i + 1) cap') w' ∧ P2 w kb bp lv wv ls w' (i + 1) (.slice ad' (i + 1) cap') (gs ++ [.slice ad (N + 9) cap]) := by
  obtain ⟨w1, h1, h3, h4⟩ := h.p2
  obtain ⟨k1, k2, k3, k4, k5⟩ := h1.keepAll hbk hct hi h3
  have hgl := h1.glen
  have hs1 := h1.only.size
  have hs3 := h3.size
  have hgr : Row wr 25 gv gs := h1.grow.keep k3
  obtain ⟨w', ad', cap', hrun, hrow, ht⟩ := lists_push hgr ad (N + 9) cap (by omega)
  rw [hgl] at hrun hrow ht
  -- what the append of the list leaves alone
  have hkp : ∀ k, k < wr.heap.size → ¬ blkOf gv k → w'.heap[k]? = wr.heap[k]? := fun k hk hn => ht.only.block k hn hk
  have hgF : ∀ k c f, wr.heap[k]? = some (.cells c 72 f) → ¬ blkOf gv k := fun k c f hk e => by
    obtain ⟨c2, f2, h2⟩ := hgr.obj e
    rw [hk] at h2
    simp only [Option.some.injEq, Obj.cells.injEq] at h2
    exact absurd h2.2.1 (by decide)
  have hFk : ∀ (v : Value) (L : List Tm), RowF wr v L → RowF w' v L := fun v L hr => RowS.keep hr fun k hk => by
    obtain ⟨c, h2⟩ := RowS.obj hr hk
    exact hkp k (RowS.lt hr hk) (hgF k c _ h2)
  have hgd : ∀ j, j < i → (gs ++ [Value.slice ad (N + 9) cap]).getD j nilS = gs.getD j nilS := fun j hj => by
    rw [List.getD_eq_getElem?_getD, List.getElem?_append_left (by omega), ← List.getD_eq_getElem?_getD]
  have hge : (gs ++ [Value.slice ad (N + 9) cap]).getD i nilS = Value.slice ad (N + 9) cap := by
    rw [List.getD_eq_getElem?_getD, ← hgl]; simp
  refine ⟨w', ad', cap', hrun, ?_, ?_, hrow, by simp [hgl], fun k hk => ?_, fun j hj => ?_, fun j hj k hk => ?_, fun j h5 h6 => ?_, ⟨?_, ?_, ?_, ?_, fun k hk hkl => ?_⟩⟩
  · have hb := (k1.trans h1.box)
    have hnb : ¬ blkOf gv kb := fun e => by have := h1.gnew kb e; have := heap_lt hbk.box; omega
    exact (hkp kb (heap_lt hb) hnb).trans hb
  · have hr := h1.lrow.keep k2
    refine hr.keep fun g hg => hkp g (hr.lt hg) (fun e => ?_)
    have := h1.gnew g e
    have := hbk.lrow.lt hg
    omega
  · rcases ht.new k hk with h6 | h6
    · exact h1.gnew k h6
    · omega
  · by_cases e : j = i
    · subst e
      rw [hge]
      exact ⟨N, hFk _ _ h.row, hFk _ _ h.cur, h.fl⟩
    · obtain ⟨n, r1, r2, r3⟩ := h1.done j (by omega)
      rw [hgd j (by omega)]
      exact ⟨n, hFk _ _ (RowS.keep r1 (k4 j (by omega) e)), hFk _ _ (RowS.keep r2 (k5 j (by omega))), r3⟩
  · by_cases e : j = i
    · subst e
      rw [hge] at hk
      exact (h4 k hk).imp id (fun h => by omega)
    · rw [hgd j (by omega)] at hk
      exact h1.gown j (by omega) k hk
  · obtain ⟨F, r1, r2⟩ := h1.left j (by omega) h6
    exact ⟨F, hFk _ _ (RowS.keep r1 (k4 j h6 (by omega))), r2⟩
  · exact ht.only.os.trans (h3.os.trans h1.only.os)
  · exact ht.only.tape.trans (h3.tape.trans h1.only.tape)
  · exact ht.only.output.trans (h3.output.trans h1.only.output)
  · have := ht.only.size; omega
  · rw [hkp k (by omega) (fun e => by have := h1.gnew k e; omega), h3.block k (fun e => hk ⟨i, hi, e⟩) (by omega)]
    exact h1.only.block k hk hkl
end
end Go.Proofs.Ythipdchdbdmmnaa

/-
  Port: stands, walked. Written by mkpkb.py.
-/
namespace Go.Proofs.Ythipdchdbdmmnaa
open Go.RowKit
set_option linter.all false

theorem P2.part {w : World} {kb : Nat} {bp : Value} {lv wv : Value} {ls : List Value} {wr : World} {i : Nat} {gv : Value} {gs : List Value} (h : P2 w kb bp lv wv ls wr i gv gs) {j : Nat} (hj : j < i) : ∃ n, PartF wr (ls.getD j nilS) (markT j n) ∧ PartF wr (gs.getD j nilS) (markT j (n + 9)) ∧ n ≤ 1024 := by
  obtain ⟨n, h1, h2, h3⟩ := h.done j hj
  exact ⟨n, PartF.of h1 (by rw [markT_len]; omega), PartF.of h2 (by rw [markT_len]; omega), h3⟩
theorem belowN {B : Nat} {a w : World} (h : Below B a w) (n : Nat) : Below B a (w.drewN n) := ⟨h.os, h.tape, h.output, h.size, h.block⟩
/-- what stands leaves. -/
structure StI (w : World) (kb : Nat) (bp : Value) (lv : Value) (ls : List Value) (w' : World) : Prop where
  only : Only (fun k => ∃ j, j < ls.length ∧ blkOf (ls.getD j nilS) k) w w'
theorem P2.below {w : World} {kb : Nat} {bp : Value} {lv wv : Value} {ls : List Value} {w2 wr : World} {i : Nat} {gv : Value} {gs : List Value} (h : P2 w kb bp lv wv ls w2 i gv gs) (hb : Below w2.heap.size w2 wr) : P2 w kb bp lv wv ls wr i gv gs :=
  ⟨(hb.block kb (heap_lt h.box)).trans h.box, h.lrow.below hb, h.grow.below hb, h.glen, h.gnew, fun j hj => by
    obtain ⟨n, h1, h2, h3⟩ := h.done j hj
    exact ⟨n, RowS.below h1 hb, RowS.below h2 hb, h3⟩, h.gown, fun j h1 h2 => by
    obtain ⟨F, h3, h4⟩ := h.left j h1 h2
    exact ⟨F, RowS.below h3 hb, h4⟩, ⟨hb.os.trans h.only.os, hb.tape.trans h.only.tape, hb.output.trans h.only.output, Nat.le_trans h.only.size hb.size, fun k hk hkl => (hb.block k (by have := h.only.size; omega)).trans (h.only.block k hk hkl)⟩⟩
set_option maxRecDepth 20000 in
set_option maxHeartbeats 4000000 in
theorem stands_any (kb : Nat) (bp : Value) (Q : World → World → Prop) (ls ws : List Value) (lv wv : Value) (hl : (ls.length + 1) * 24 ≤ 140737488355328) (w : World) (x : BK w kb bp ls ws lv wv) (hct : CT w ls ws) (HOW : Hid (∀ wr, StI w kb bp lv ls wr → Calls Try.prog 41 #[bp] wr fun e w' => e = .returned (.bool true) ∧ Hid (Q wr w'))) :
    Calls Try.prog 15 #[.pointer (some ⟨kb, 0, none⟩)] w fun e w' => e = .returned (.bool true) ∧ Hid (∃ wr, StI w kb bp lv ls wr ∧ Q wr w') := by
  obtain ⟨N, hN⟩ : ∃ N, N = ls.length := ⟨_, rfl⟩
  have HN := hid hN
  have hNb : (N : Int) ≤ 5864062014805 := by omega
  have X := hid x
  have C := hid hct
  have HL := hid hl
  clear x hct hl hN
  go_enter Try.func15, Try.ntmps15
  go_wp2
  -- they read as they came
  go_loopw [3, 4] (fun v _ wr => ∃ j q : Nat, v = .int .i64 j ∧ Hid (j ≤ N) ∧ wr = w.drewN q) (fun v _ _ => N - (intOf v).toNat)
  case atStart => exact ⟨0, 0, rfl, Nat.zero_le _, rfl⟩
  case round =>
    obtain ⟨j, q, rfl, HJ, hwr⟩ := hrel
    by_cases hj : j < N
    · have hj2 : (j : Int) < N := by omega
      have hjl : j < ls.length := by rw [← HN.out]; exact hj
      obtain ⟨g1, p1, hv1, k1⟩ := row_get X.out.lrow hjl
      obtain ⟨g2, p2, hv2, k2⟩ := row_get X.out.wrow (by rw [← X.out.len]; exact hjl)
      rw [← HN.out] at hv1
      rw [← X.out.len, ← HN.out] at hv2
      have b0 := cellHeap X.out.box 1 rfl
      have b1 := cellHeap X.out.box 2 rfl
      obtain ⟨l, r1, r2, hF, hz⟩ := C.out.eachP j hjl
      rw [hv1] at b0
      rw [hv2] at b1
      have HS : Hid (∀ n, Calls Try.prog 23 #[ls.getD j nilS, ws.getD j nilS] (wr.drewN n) fun e w' => e = .returned (.bool true) ∧ ∃ q, w' = (wr.drewN n).drewN q) := fun n => by
        rw [hwr]
        obtain ⟨aa, ca, ea, _⟩ := RowS.form r1
        obtain ⟨ab, cb, eb, _⟩ := RowS.form r2
        rw [ea] at r1 ⊢
        rw [eb] at r2 ⊢
        exact same_states _ aa ab ca cb l (RowS.keep r1 fun _ _ => rfl) (RowS.keep r2 fun _ _ => rfl) hz hF
      have hc : ∀ p, wr.cell? p = w.cell? p := fun p => by rw [hwr]; rfl
      rw [← hc] at b0 b1 k1 k2
      have HW : Hid (∀ n, wr.drewN n = w.drewN (q + n)) := fun n => by rw [hwr]; exact World.drewN_drewN _ _ _
      clear hwr hc hv1 hv2 r1 r2 hF hz hjl
      generalize ls.getD j nilS = u1 at *
      generalize ws.getD j nilS = u2 at *
      go_wp2_with fail
      go_quiet (first | (go_at_call 23; refine Calls.quiet_of (HS.out _)) | fail)
      go_wp2
      go_roundw
      case rel => exact ⟨j + 1, q + nq, by go_num, by unfold Hid; omega, HW.out nq⟩
      case measure => simp [intOf]; omega
    · have hje : j = N := by have := HJ.out; omega
      subst hje
      have b0 := cellHeap X.out.box 1 rfl
      obtain ⟨a1, p1, hv1, _⟩ := Row.form X.out.lrow
      rw [hv1, ← HN.out] at b0
      have hc : ∀ p, wr.cell? p = w.cell? p := fun p => by rw [hwr]; rfl
      rw [← hc] at b0
      have HP0 : Hid (P2 w kb bp lv wv ls wr 0 (.slice none 0 0) []) := by rw [hwr]; exact P2.start X.out C.out q
      clear hwr hc hv1 HJ hj
      go_wp2
      clear b0
      -- each is written full, and grown
      go_loopw [5, 6, 7, 8, 9] (fun gv v _ _ _ wr => ∃ (i : Nat) (ad : Option Addr) (cap : Nat) (gs : List Value), gv = .slice ad i cap ∧ v = .int .i64 i ∧ Hid (i ≤ j) ∧ Hid (P2 w kb bp lv wv ls wr i (.slice ad i cap) gs)) (fun _ v _ _ _ _ => j - (intOf v).toNat)
      case atStart => exact ⟨0, none, 0, [], rfl, rfl, Nat.zero_le _, HP0⟩
      case round =>
        clear HP0
        obtain ⟨i, gad, gcap, gs, rfl, rfl, HI, HP⟩ := hrel
        by_cases hi : i < j
        · have hi2 : (i : Int) < j := by omega
          have hil : i < ls.length := by rw [← HN.out]; exact hi
          obtain ⟨F, HF⟩ := HP.out.enter hil
          have HF := hid HF
          obtain ⟨g1, p1, hv1, k1⟩ := row_get HP.out.lrow hil
          have b0 := cellHeap HP.out.box 1 rfl
          rw [hv1, ← HN.out] at b0
          obtain ⟨w1, _, hr1, _⟩ := HF.out.p2
          obtain ⟨la, lc, hlv, _⟩ := RowS.form hr1
          have hFl := HF.out.fl
          rw [hlv] at k1
          have HV := hid hlv
          have HZ := hid (⟨F.length, rfl⟩ : ∃ M, M = F.length)
          obtain ⟨M, hM⟩ := HZ.out
          have HM := hid hM
          rw [← hM] at k1 hFl
          have hMb : (M : Int) ≤ 1024 := by omega
          clear HZ hM hr1 hlv hv1 HP hFl
          go_wp2
          clear k1 b0
          go_loopw [8] (fun v wr => ∃ n : Nat, v = .int .i64 n ∧ Hid (P2W w kb bp lv wv ls wr i (.slice gad i gcap) gs F n)) (fun v _ => M - (intOf v).toNat)
          case atStart => exact ⟨0, rfl, HF⟩
          case round =>
            clear HF
            obtain ⟨n, rfl, HF⟩ := hrel
            by_cases hn : n < M
            · have hn2 : (n : Int) < M := by omega
              obtain ⟨g, cp, hv, hc1, hf1, hW⟩ := HF.out.write (by rw [← HM.out]; exact hn)
              rw [HV.out] at hv
              simp only [Value.slice.injEq] at hv
              obtain ⟨hla, _, hlc⟩ := hv
              subst hla
              subst hlc
              obtain ⟨u0, c0⟩ := hc1 0 (by omega)
              obtain ⟨u1, c1⟩ := hc1 1 (by omega)
              obtain ⟨u2, c2⟩ := hc1 2 (by omega)
              rw [Nat.add_zero] at c0
              have f0 := hf1 (n * 3)
              have f1 := hf1 (n * 3 + 1)
              have f2 := hf1 (n * 3 + 2)
              have HW := hid hW
              clear hc1 hf1 hW HF
              go_wp2
              go_roundw
              case rel => exact ⟨n + 1, by go_num, HW⟩
              case measure => simp [intOf]; omega
            · have HG := hid (HF.out.grow (by rw [← HM.out]; omega))
              rw [HV.out, ← HM.out] at HG
              have hn2 : ¬ (n : Int) < M := by omega
              clear HF HM hn
              go_wp2
              go_loopw [7, 9] (fun cv v wr => ∃ (n m : Nat) (ad : Option Addr) (cap : Nat), cv = .slice ad m cap ∧ v = .int .i64 n ∧ Hid (n ≤ 9) ∧ Hid (m = M + n) ∧ Hid (P2G w kb bp lv wv ls wr i (.slice gad i gcap) gs M n (.slice ad m cap))) (fun _ v _ => 9 - (intOf v).toNat)
              case atStart => exact ⟨0, M, la, lc, rfl, rfl, Nat.zero_le _, rfl, HG⟩
              case round =>
                clear HG
                obtain ⟨n, m, ad, cap, rfl, rfl, H9, HM, HG⟩ := hrel
                by_cases hn : n < 9
                · have hn2 : (n : Int) < 9 := by omega
                  have hmb : (m : Int) ≤ 1033 := by have := HM.out; omega
                  obtain ⟨ad', cap', w', hrun, hG'⟩ := HG.out.push hn
                  rw [← HM.out] at hrun
                  have HR := hid hrun
                  have HG' := hid hG'
                  clear hrun hG' HG
                  go_wp2_with (first
                    | (at_builtin; refine wpList_append_run _ rfl _ _ _ _ rfl _ _ rfl rfl HR.out ?_; clear HR)
                    | fail)
                  go_roundw
                  case rel => exact ⟨n + 1, M + (n + 1), ad', cap', rfl, by go_num, by unfold Hid; omega, rfl, HG'⟩
                  case measure => simp [intOf]; omega
                · have hn9 : n = 9 := by have := H9.out; omega
                  subst hn9
                  have hm := HM.out
                  unfold Hid at hm
                  subst hm
                  obtain ⟨w', ad', cap', hrun, hP'⟩ := HG.out.aside X.out C.out hil HL.out
                  have HR := hid hrun
                  have HP' := hid hP'
                  clear hrun hP' HG HM H9
                  go_wp2_with (first
                    | (at_builtin; refine wpList_append_run _ rfl _ _ _ _ rfl _ _ rfl rfl HR.out ?_; clear HR)
                    | fail)
                  go_roundw
                  case rel => exact ⟨i + 1, ad', cap', _, rfl, by go_num, by unfold Hid; omega, HP'⟩
                  case measure => simp [intOf]; omega
        · have hie : i = j := by have := HI.out; omega
          subst hie
          have b0 := cellHeap HP.out.box 1 rfl
          obtain ⟨a1, p1, hv1, _⟩ := Row.form HP.out.lrow
          rw [hv1, ← HN.out] at b0
          clear hv1 HI hi
          go_wp2
          clear b0
          -- and each is as it was left
          obtain ⟨W2, hW2⟩ : ∃ W2, W2 = wr := ⟨_, rfl⟩
          have HB0 : Hid (Below W2.heap.size W2 wr) := by rw [hW2]; exact Below.refl _ _
          have HP2 : Hid (P2 w kb bp lv wv ls W2 i (.slice gad i gcap) gs) := by rw [hW2]; exact HP
          clear HP hW2
          go_loopw [10, 11, 12, 13] (fun v _ _ _ wr => ∃ j : Nat, v = .int .i64 j ∧ Hid (j ≤ i) ∧ Hid (Below W2.heap.size W2 wr)) (fun v _ _ _ _ => i - (intOf v).toNat)
          case atStart => exact ⟨0, rfl, Nat.zero_le _, HB0⟩
          case round =>
            clear HB0
            obtain ⟨j, rfl, HJ, HB⟩ := hrel
            by_cases hj : j < i
            · have hj2 : (j : Int) < i := by omega
              have hjl : j < ls.length := by rw [← HN.out]; exact hj
              have HP := hid (HP2.out.below HB.out)
              obtain ⟨g1, p1, hv1, k1⟩ := row_get HP.out.lrow hjl
              have b0 := cellHeap HP.out.box 1 rfl
              rw [hv1, ← HN.out] at b0
              obtain ⟨M, q1, q2, hMb⟩ := HP2.out.part hj
              obtain ⟨a1, c1, h1, _, h2⟩ := q1.ex
              obtain ⟨a3, c3, h3, _, h4⟩ := q2.ex
              rw [markT_len] at h1 h2 h3 h4
              have HM : Hid (0 < M → ∃ g, a1 = some ⟨g, 0, none⟩ ∧ g < W2.heap.size ∧ ∀ n, n < M → W2.cell? ⟨g, n * 3, none⟩ = some (.int .i64 (-1000 - (j : Int))) ∧ W2.cell? ⟨g, n * 3 + 1, none⟩ = some (.int .i64 n) ∧ W2.cell? ⟨g, n * 3 + 2, none⟩ = some (.int .i64 0)) := fun h0 => by
                obtain ⟨g, rfl, hg⟩ := h2 h0
                refine ⟨g, rfl, ?_, fun n hn => hg n _ (markT_get hn)⟩
                have := (hg 0 _ (markT_get h0)).1
                exact World.block_lt_of_cell? _ _ this
              have HM9 : Hid (∃ g, a3 = some ⟨g, 0, none⟩ ∧ g < W2.heap.size ∧ ∀ n, n < M + 9 → W2.cell? ⟨g, n * 3, none⟩ = some (.int .i64 (-1000 - (j : Int))) ∧ W2.cell? ⟨g, n * 3 + 1, none⟩ = some (.int .i64 n) ∧ W2.cell? ⟨g, n * 3 + 2, none⟩ = some (.int .i64 0)) := by
                obtain ⟨g, rfl, hg⟩ := h4 (by omega)
                refine ⟨g, rfl, ?_, fun n hn => hg n _ (markT_get hn)⟩
                have := (hg 0 _ (markT_get (by omega))).1
                exact World.block_lt_of_cell? _ _ this
              rw [h1] at k1
              have H3 := hid h3
              have hMb2 : (M : Int) ≤ 1024 := by omega
              clear q1 q2 h1 h2 h3 h4 hMb hv1
              go_wp2
              clear k1 b0
              have HB1 := HB
              clear HP
              go_loopw [12, 13] (fun v _ wr => ∃ n : Nat, v = .int .i64 n ∧ Hid (n ≤ M + 9) ∧ Hid (Below W2.heap.size W2 wr)) (fun v _ _ => M + 9 - (intOf v).toNat)
              case atStart => exact ⟨0, rfl, Nat.zero_le _, HB⟩
              case round =>
                clear HB HB1
                obtain ⟨n, rfl, HNn, HB⟩ := hrel
                have hgl : j < gs.length := by rw [HP2.out.glen]; exact hj
                obtain ⟨gg, gp, hgv, kg⟩ := row_get (HP2.out.below HB.out).grow hgl
                rw [H3.out] at kg
                simp only [Value.slice.injEq] at hgv
                obtain ⟨hga, -, hgc⟩ := hgv
                subst hga
                clear hgc hgl
                obtain ⟨g9, e9, l9, h9⟩ := HM9.out
                subst e9
                have hs := HB.out.size
                by_cases hn : n < M + 9
                · have hn2 : (n : Int) < M + 9 := by omega
                  obtain ⟨x0, x1, x2⟩ := h9 n hn
                  have hc : ∀ (g o : Nat), g < W2.heap.size → wr.cell? ⟨g, o, none⟩ = W2.cell? ⟨g, o, none⟩ := fun g o hg => World.cell?_of_block (w := W2) (a := ⟨g, o, none⟩) (HB.out.block g hg)
                  rw [← hc _ _ l9] at x0 x1 x2
                  have hS := fun wx => fired_same (-1000 - (j : Int)) n 0 wx
                  have lg : gg < wr.heap.size := World.block_lt_of_cell? _ _ kg
                  have l9' : g9 < wr.heap.size := by omega
                  by_cases hm : n < M
                  · have hm2 : (n : Int) < M := by omega
                    obtain ⟨g, e, l, h⟩ := HM.out (by omega)
                    subst e
                    obtain ⟨y0, y1, y2⟩ := h n hm
                    rw [← hc _ _ l] at y0 y1 y2
                    have l' : g < wr.heap.size := by omega
                    clear hc h h9 HM HM9 hs HP2 H3 l l9
                    go_wp2_with fail
                    go_quiet (fail)
                    go_wp2
                    go_roundw
                    case rel => exact ⟨n + 1, by go_num, by unfold Hid; omega, belowN (bpush HB.out _) _⟩
                    case measure => simp [intOf]; omega
                  · have hm2 : ¬ (n : Int) < M := by omega
                    have hd : decide ((n : Int) < M) = false := by simp; omega
                    clear hc h9 HM HM9 hs HP2 H3 l9
                    go_wp2_with fail
                    go_quiet (fail)
                    go_wp2
                    go_roundw
                    case rel => exact ⟨n + 1, by go_num, by unfold Hid; omega, belowN (bpush HB.out _) _⟩
                    case measure => simp [intOf]; omega
                · have hne : n = M + 9 := by have := HNn.out; omega
                  have hn2 : ¬ (n : Int) < M + 9 := by omega
                  clear hne
                  go_wp2
                  go_roundw
                  case rel => exact ⟨j + 1, by go_num, by unfold Hid; omega, HB⟩
                  case measure => simp [intOf]; omega
            · have hje : j = i := by have := HJ.out; omega
              have hj2 : ¬ (j : Int) < i := by omega
              have HE : Hid (StI w kb bp lv ls wr) := ⟨(HP2.out.below HB.out).only⟩
              have hbk := (HP2.out.below HB.out).box
              have b0 : wr.cell? ⟨kb, 0, none⟩ = some bp := cellHeap hbk 0 rfl
              have HOX := hid (HOW.out wr HE.out)
              clear HJ hj HP2 HB hje hbk
              go_wp2_with (first
                | (go_at_call 41; refine HOX.out.mono ?_; rintro e w' ⟨rfl, HQ⟩)
                | fail)
              go_ret
              exact ⟨rfl, wr, HE.out, HQ.out⟩
end Go.Proofs.Ythipdchdbdmmnaa
