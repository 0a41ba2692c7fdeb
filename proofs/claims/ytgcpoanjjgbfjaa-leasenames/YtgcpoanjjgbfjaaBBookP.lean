/-
  The statements' book: what Owned keeps, round by round. For every seat.
-/
import Derived.Test.YtgcpoanjjgbfjaaBBook
namespace Go.Proofs.Ytgcpoanjjgbfjaa
open Go.RowKit
set_option linter.all false

def markV (i n : Nat) : Int := ((i : Int) * 7 + (n : Int) * 13 + (i : Int) / 256 + 1) % 256
def marks (i n : Nat) : List Int := (List.range n).map (markV i)
theorem marks_len (i n : Nat) : (marks i n).length = n := by simp [marks]
theorem marks_succ (i n : Nat) : marks i (n + 1) = marks i n ++ [markV i n] := by simp [marks, List.range_succ]
theorem marks_at (i n j : Nat) (h : j < n) : (marks i n)[j]? = some (markV i j) := by simp [marks, h]
theorem marks_take (i n m : Nat) (h : m ≤ n) : (marks i n).take m = marks i m := by
  apply List.ext_getElem?
  intro j
  rw [List.getElem?_take]
  by_cases hj : j < m
  · rw [if_pos hj, marks_at i n j (by omega), marks_at i m j hj]
  · rw [if_neg hj, List.getElem?_eq_none (by rw [marks_len]; omega)]
theorem set_drop (a zs : List Int) (x : Int) (m : Nat) (hm : m = a.length) (h : m < zs.length) : (a ++ zs.drop m).set m x = (a ++ [x]) ++ zs.drop (m + 1) := by
  subst hm
  rw [List.set_append_right _ _ (Nat.le_refl _), Nat.sub_self, List.drop_eq_getElem_cons h, List.set_cons_zero, List.append_assoc]
  rfl
/-- v reads as zs at the head of its block. -/
def Reads (w : World) (v : Value) (zs : List Int) : Prop := ∀ j, j < zs.length → ∃ b cap, v = .slice (some ⟨b, 0, none⟩) zs.length cap ∧ w.cell? ⟨b, j, none⟩ = some (.int .u8 (zs.getD j 0))
theorem Reads.of_row {w : World} {v : Value} {zs : List Int} (h : Row w 5 v (u8s zs)) : Reads w v zs := fun j hj => by
  obtain ⟨g, cap, hv, hc⟩ := h.cell j (by rw [u8s_len]; exact hj)
  rw [u8s_len] at hv
  refine ⟨g, cap, hv, ?_⟩
  rw [hc]
  simp [u8s, hj]
theorem Reads.keep {w w' : World} {v : Value} {zs : List Int} (h : Reads w v zs) (hk : ∀ b, v.ownBlock = some b → b < w.heap.size → w'.heap[b]? = w.heap[b]?) : Reads w' v zs := fun j hj => by
  obtain ⟨b, cap, hv, hc⟩ := h j hj
  exact ⟨b, cap, hv, by rw [World.cell?_of_block (w := w) (a := ⟨b, j, none⟩) (hk b (by rw [hv]; rfl) (World.block_lt_of_cell? w _ hc)), hc]⟩
/-- a longer slice of the same block reads as the shorter one does. -/
theorem Reads.of_longer {w : World} {b n m cap : Nat} {zs ys : List Int} (h : Row w 5 (.slice (some ⟨b, 0, none⟩) m cap) (u8s ys)) (hp : ys.take zs.length = zs) : Reads w (.slice (some ⟨b, 0, none⟩) zs.length n) zs := fun j hj => by
  have hl : zs.length ≤ ys.length := by have := congrArg List.length hp; simp at this; omega
  obtain ⟨g, cap', hv, hc⟩ := h.cell j (by rw [u8s_len]; omega)
  simp only [Value.slice.injEq, Option.some.injEq, Addr.mk.injEq] at hv
  obtain ⟨⟨rfl, _⟩, _⟩ := hv
  refine ⟨b, n, rfl, ?_⟩
  rw [hc]
  have e : (ys.take zs.length)[j]? = zs[j]? := by rw [hp]
  rw [List.getElem?_take, if_pos hj] at e
  have hjy : j < ys.length := by omega
  simp only [u8s, List.getElem_map, List.getD_eq_getElem?_getD]
  rw [← e, List.getElem?_eq_getElem hjy]
  rfl

/-- behind k rounds of Owned's second loop: gv is the list of the grown ones, gvs. -/
structure OwnedI (w wr : World) (B gk : Nat) (L V : Value) (ls : List (Value × List Int)) (k : Nat) (gv : Value) (gvs : List Value) : Prop where
  len : gvs.length = k
  row : Row wr 36 gv gvs
  book : ∀ b, InBook gk L V b → wr.heap[b]? = w.heap[b]?
  later : ∀ j p b, k ≤ j → ls[j]? = some p → p.1.ownBlock = some b → wr.heap[b]? = w.heap[b]?
  done : ∀ j p, j < k → ls[j]? = some p → ∃ g, gvs[j]? = some g ∧ Row wr 5 g (u8s (marks j (p.2.length + 9))) ∧ Reads wr p.1 (marks j p.2.length) ∧ (g.ownBlock = p.1.ownBlock ∨ ∀ b, g.ownBlock = some b → w.heap.size ≤ b)
  apart : ∀ (j j' : Nat) g g' b, j ≠ j' → gvs[j]? = some g → gvs[j']? = some g' → g.ownBlock = some b → g'.ownBlock ≠ some b
  off : ∀ (j : Nat) g b, gvs[j]? = some g → g.ownBlock = some b → gv.ownBlock ≠ some b
  fresh : ∀ b, gv.ownBlock = some b → w.heap.size ≤ b
  size : w.heap.size ≤ wr.heap.size
  below : Below B w wr
  rest : ∀ b, b < w.heap.size → ¬ InBook gk L V b → (∀ p, p ∈ ls → p.1.ownBlock ≠ some b) → wr.heap[b]? = w.heap[b]?
theorem OwnedI.start {w wr : World} {B gk : Nat} {L V : Value} {ls : List (Value × List Int)} (hh : wr.heap = w.heap) (hb : Below B w wr) : OwnedI w wr B gk L V ls 0 (.slice none 0 0) [] :=
  ⟨rfl, Row.nil _ _, fun b _ => by rw [hh], fun j p b _ _ _ => by rw [hh], fun j p h => by omega, by simp, by simp, by simp [Value.ownBlock], by rw [hh]; exact Nat.le_refl _, hb, fun b _ _ _ => by rw [hh]⟩

theorem u8s_set (zs : List Int) (j : Nat) (x : Int) : (u8s zs).set j (.int .u8 x) = u8s (zs.set j x) := by simp [u8s, List.map_set]
theorem Row.head {w : World} {e : TypeId} {a : Option Addr} {n c : Nat} {vs : List Value} (h : Row w e (.slice a n c) vs) : n = vs.length ∧ (a = none ∨ ∃ b, a = some ⟨b, 0, none⟩ ∧ b < w.heap.size) := by
  rcases h with ⟨h1, rfl⟩ | ⟨g, cap, cur, lo, hi, hv, hg, _⟩
  · simp only [Value.slice.injEq] at h1
    exact ⟨by simp [h1.2.1], Or.inl h1.1⟩
  · simp only [Value.slice.injEq] at hv
    exact ⟨hv.2.1, Or.inr ⟨g, hv.1, heap_lt hg⟩⟩
/-- a byte is put behind a list that is being grown. -/
theorem grow_step {W0 wx : World} {a : Option Addr} {l c k q : Nat} {g : Value} (hrow : Row wx 5 g (u8s (marks k (l + q)))) (hrd : Reads wx (.slice a l c) (marks k l)) (hgb : g.ownBlock = (Value.slice a l c).ownBlock ∨ ∃ b, g.ownBlock = some b ∧ W0.heap.size ≤ b)
    (hgr : W0.grownBy wx (Value.slice a l c).ownBlock) (hlv : a = none ∨ ∃ b, a = some ⟨b, 0, none⟩ ∧ b < W0.heap.size) (hl : l ≤ 140737488351232) (hq : q ≤ 9) :
    ∃ gg nn cc w', (Builtin.append_ #[36, 36] 36 #[g, .slice (some ⟨wx.heap.size, 0, none⟩) 1 1]).run Try.prog (wx.alloc (.cells #[.int .u8 (markV k (l + q))] 5)) = .ok (.slice (some ⟨gg, 0, none⟩) nn cc) w' ∧
      W0.grownBy w' (Value.slice a l c).ownBlock ∧ Row w' 5 (.slice (some ⟨gg, 0, none⟩) nn cc) (u8s (marks k (l + (q + 1)))) ∧ Reads w' (.slice a l c) (marks k l) ∧ ((Value.slice (some ⟨gg, 0, none⟩) nn cc).ownBlock = (Value.slice a l c).ownBlock ∨ ∃ b, (Value.slice (some ⟨gg, 0, none⟩) nn cc).ownBlock = some b ∧ W0.heap.size ≤ b) := by
  have ra := hrow.below (w' := wx.alloc (.cells #[.int .u8 (markV k (l + q))] 5)) ((Below.refl _ _).alloc (Nat.le_refl _) _)
  have hsz := hgr.size
  obtain ⟨g', w', hrun, row', hgr', hcase⟩ := append_one 36 36 5 _ 1 Try.underlying36 infoU8 rfl ra (.int .u8 (markV k (l + q))) rfl wx.heap.size _ (heap_new _ _) (by rw [u8s_len, marks_len]; unfold maxLen; omega) (by rw [u8s_len, marks_len]; omega)
  have erow : u8s (marks k (l + q)) ++ [Value.int .u8 (markV k (l + q))] = u8s (marks k (l + (q + 1))) := by
    rw [show l + (q + 1) = l + q + 1 by omega, marks_succ, u8s_app]; rfl
  rw [erow] at row'
  have hgr2 : W0.grownBy w' (Value.slice a l c).ownBlock := by
    refine grown_trans (grown_trans hgr (grown_alloc wx _ _) (Or.inl rfl)) hgr' ?_
    rcases hgb with h1 | ⟨b, h1, h2⟩
    · exact Or.inl h1
    · exact Or.inr fun g hg => by rw [h1] at hg; simp only [Option.some.injEq] at hg; omega
  rcases hcase with ⟨g0, cap, e1, e2⟩ | ⟨g0, cap, e2, hnew, hnone⟩
  · subst e1 e2
    refine ⟨g0, _, cap, w', hrun, hgr2, row', ?_, ?_⟩
    · rcases hlv with rfl | ⟨b, rfl, hb⟩
      · intro j hj
        obtain ⟨b, cap, hv, _⟩ := hrd j hj
        simp at hv
      · rcases hgb with h1 | ⟨b', h1, h2⟩
        · simp [Value.ownBlock] at h1
          subst h1
          have := Reads.of_longer (n := c) (zs := marks k l) row' (by rw [marks_len]; exact marks_take _ _ _ (by omega))
          rw [marks_len] at this
          exact this
        · refine hrd.keep fun b2 hb2 hlt => ?_
          simp [Value.ownBlock] at hb2
          subst hb2
          rw [hgr'.block b (by simp; omega) (fun e => by rw [h1] at e; simp only [Option.some.injEq] at e; omega)]
          exact heap_old wx _ hlt
    · exact hgb
  · subst e2
    refine ⟨g0, _, cap, w', hrun, hgr2, row', ?_, Or.inr ⟨g0, rfl, by simp at hnew; omega⟩⟩
    refine hrd.keep fun b2 hb2 hlt => ?_
    rw [hnone.block b2 (by simp; omega) (by simp)]
    exact heap_old wx _ hlt
end Go.Proofs.Ytgcpoanjjgbfjaa
