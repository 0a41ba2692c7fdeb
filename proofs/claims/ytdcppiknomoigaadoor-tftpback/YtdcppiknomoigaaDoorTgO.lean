/-
  Tftp: the statement's owned, of lists of choices: how they are written over, and grown.
-/
import Derived.Test.YtdcppiknomoigaaDoorTfAc
import Derived.Test.YtdcppiknomoigaaDoorTfAg
namespace Go.Proofs.YtdcppiknomoigaaDoor
open Go.RowKit
set_option linter.all false

def nilS : Value := .slice none 0 0
def emS : ByteArray := ⟨#[]⟩
def mk1 (i : Nat) : Ch := ⟨emS, -100 - (i : Int)⟩
def mkL (i n : Nat) : List Ch := List.replicate n (mk1 i)
theorem mkL_len (i n : Nat) : (mkL i n).length = n := by simp [mkL]
theorem mkL_succ (i n : Nat) : mkL i (n + 1) = mkL i n ++ [mk1 i] := by simp [mkL, List.replicate_succ']
theorem mkL_get {i n j : Nat} (h : j < n) : (mkL i n)[j]? = some (mk1 i) := by simp [mkL, h]
/-- a row of choices. -/
def RowC (w : World) (v : Value) (l : List Ch) : Prop := RowS w 56 2 v l.length (chs l)
theorem chs_set : ∀ (L : List Ch) (n : Nat) (y : Ch), n < L.length → chs (L.set n y) = ((chs L).set (n * 2) (.string y.nm)).set (n * 2 + 1) (.int .i64 y.v)
  | [], n, y, h => by simp at h
  | x :: r, 0, y, h => by simp [chs, chC]
  | x :: r, n + 1, y, h => by
    have ih := chs_set r n y (by simpa using h)
    unfold chs at *
    rw [List.set_cons_succ, List.flatMap_cons, ih, List.flatMap_cons]
    have e : ∀ (k : Nat) (l : List Value) (u : Value), ((chC x).toList ++ l).set (k + 2) u = (chC x).toList ++ l.set k u := fun k l u => by simp [chC]
    rw [show (n + 1) * 2 = n * 2 + 2 from by omega, e, show n * 2 + 2 + 1 = n * 2 + 1 + 2 from by omega, e]
theorem RowC.form {w : World} {v : Value} {l : List Ch} (h : RowC w v l) : ∃ a c, v = .slice a l.length c := by
  obtain ⟨a, c, e, _⟩ := RowS.form h
  exact ⟨a, c, e⟩
theorem RowC.chv {w : World} {a : Option Addr} {n cp : Nat} {l : List Ch} (h : RowC w (.slice a n cp) l) : n = l.length ∧ ChV w a l := by
  obtain ⟨a', c', e⟩ := h.form
  simp only [Value.slice.injEq] at e
  obtain ⟨rfl, rfl, rfl⟩ := e
  refine ⟨rfl, ?_⟩
  by_cases h0 : l.length = 0
  · left
    exact List.eq_nil_of_length_eq_zero h0
  · obtain ⟨g, rfl, hc⟩ := RowS.at0 h (by omega)
    refine Or.inr ⟨g, 0, rfl, fun k x hx => ?_⟩
    rw [Nat.zero_add]
    exact ⟨hc _ _ (chs_get hx (j := 0) (by omega)), hc _ _ (chs_get hx (j := 1) (by omega))⟩
/-- 'l[n] = y'. -/
theorem RowC.set2 {w : World} {g n cap : Nat} {L : List Ch} (h : RowC w (.slice (some ⟨g, 0, none⟩) L.length cap) L) (hn : n < L.length) (y : Ch) :
    (∃ u, w.cell? ⟨g, n * 2, none⟩ = some u) ∧ (∃ u, w.cell? ⟨g, n * 2 + 1, none⟩ = some u) ∧ (∀ j, w.frozen? ⟨g, j, none⟩ = false) ∧ RowC ((w.setCell ⟨g, n * 2, none⟩ (.string y.nm)).setCell ⟨g, n * 2 + 1, none⟩ (.int .i64 y.v)) (.slice (some ⟨g, 0, none⟩) L.length cap) (L.set n y) := by
  rcases h.2 with ⟨h1, _⟩ | ⟨g', cap', cur, hv, _, hg, hl, hm, hs, ht⟩
  · simp at h1
  · simp only [Value.slice.injEq, Option.some.injEq, Addr.mk.injEq] at hv
    obtain ⟨⟨rfl, _⟩, _, rfl⟩ := hv
    have hcs : L.length * 2 ≤ cur.size := by rw [hs]; exact Nat.mul_le_mul_right 2 hl
    refine ⟨⟨cur[n * 2]'(by omega), by rw [cell_of_heap hg, Array.getElem?_eq_getElem (by omega)]⟩, ⟨cur[n * 2 + 1]'(by omega), by rw [cell_of_heap hg, Array.getElem?_eq_getElem (by omega)]⟩, fun j => frozen_of_heap hg j, chs_len _, Or.inr ⟨g, cap, _, by rw [List.length_set], Nat.zero_le _, heap_setCell (heap_setCell hg), by rw [List.length_set]; exact hl, hm, by simpa using hs, ?_⟩⟩
    rw [List.length_set, chs_set L n y hn, ← ht]
    simp only [Array.toList_setIfInBounds, List.take_set]
/-- one more at the end: in its place, or in a new block and nothing else is touched. -/
theorem ch_push {w : World} {v : Value} {F : List Ch} (h : RowC w v F) (y : Ch) (hl : F.length ≤ 1048575) :
    ∃ ad cap w', (Builtin.append_ #[23, 23] 23 #[v, .slice (some ⟨w.heap.size, 0, none⟩) 1 1]).run Tryd.prog (w.alloc (.cells #[.string y.nm, .int .i64 y.v] 56)) = .ok (.slice ad (F.length + 1) cap) w' ∧ RowC w' (.slice ad (F.length + 1) cap) (F ++ [y]) ∧
      ((∃ g, v = .slice (some ⟨g, 0, none⟩) F.length cap ∧ ad = some ⟨g, 0, none⟩ ∧ But g w w') ∨ ((∀ k, (Value.slice ad (F.length + 1) cap).ownBlock = some k → w.heap.size ≤ k) ∧ Below w.heap.size w w')) := by
  have hb0 := bpush (Below.refl w.heap.size w) (.cells #[.string y.nm, .int .i64 y.v] 56)
  have hml : 1048577 ≤ maxLen := by unfold maxLen; omega
  have h' := RowS.below h hb0
  obtain ⟨i, hi, hz0, hz1, hz2⟩ := info_sz infoCh
  have hnews : ∀ j u, (chC y).toList[j]? = some u → (w.alloc (.cells #[.string y.nm, .int .i64 y.v] 56)).cell? ((⟨w.heap.size, 0, none⟩ : Addr).add j) = some u := fun j u hj => by
    rw [show (⟨w.heap.size, 0, none⟩ : Addr).add j = ⟨w.heap.size, j, none⟩ from by unfold Addr.add; split <;> simp_all, cell_of_heap (heap_new w _), ← Array.getElem?_toList]
    exact hj
  have hone : ∀ u ∈ (chC y).toList, u.oneCell' = true := fun u hu => by simp [chC] at hu; rcases hu with rfl | rfl <;> rfl
  rcases h'.2 with ⟨rfl, h0⟩ | ⟨g, cap, cur, rfl, _, hg, hnc, hm, hs, htk⟩
  · have hF : F = [] := List.eq_nil_of_length_eq_zero h0
    subst hF
    obtain ⟨v', w', hrun, hrow, hgr, hown⟩ := append_s 23 23 56 _ 2 24 Tryd.underlying23 infoCh rfl (by decide) h' ⟨w.heap.size, 0, none⟩ 1 1 (chC y).toList rfl hnews hone (by simp; omega) (by simp)
    obtain ⟨ad, cap, rfl, _⟩ := RowS.form hrow
    refine ⟨ad, cap, w', hrun, hrow, Or.inr ⟨fun k hk => ?_, hb0.trans ⟨hgr.os, hgr.tape, hgr.output, hgr.size, fun k hk => hgr.block k (by have := hb0.size; omega) (by simp [Value.ownBlock])⟩⟩⟩
    rcases hown k hk with h1 | h1
    · simp [Value.ownBlock] at h1
    · have := hb0.size; omega
  · by_cases hroom : F.length + 1 ≤ cap
    · have hfit : F.length * 2 + (chC y).toList.length ≤ cur.size := by show F.length * 2 + 2 ≤ _; rw [hs]; omega
      have hrun := run_append_room_cells (P := Tryd.prog) (w.alloc (.cells #[.string y.nm, .int .i64 y.v] 56)) 23 23 56 i Tryd.underlying23 hi g 0 F.length cap ⟨w.heap.size, 0, none⟩ 1 1 (chC y).toList (by rw [hz1]; rfl) hnews hone hroom
        (fun j hj => by rw [hz1, Nat.zero_add, cell_of_heap hg, Array.getElem?_eq_getElem (by omega)]; rfl)
        (fun j hj => by rw [hz1, Nat.zero_add]; exact frozen_of_heap hg _)
      rw [hz1, Nat.zero_add] at hrun
      have hgs := grown_setCells (chC y).toList (w.alloc (.cells #[.string y.nm, .int .i64 y.v] 56)) g (F.length * 2)
      refine ⟨some ⟨g, 0, none⟩, cap, _, hrun, ⟨chs_len _ ▸ (by simp), Or.inr ⟨g, cap, putCells cur (F.length * 2) (chC y).toList, by simp, Nat.zero_le _, heap_setCells _ _ _ _ _ _ _ hg, by simpa using hroom, hm, by rw [putCells_size]; exact hs, ?_⟩⟩, Or.inl ⟨g, rfl, rfl, ⟨hgs.os.trans hb0.os, hgs.tape.trans hb0.tape, hgs.output.trans hb0.output, Nat.le_trans hb0.size hgs.size, fun k hk hkl => (hgs.block k (by have := hb0.size; omega) (by simpa using hk)).trans (hb0.block k hkl)⟩⟩⟩
      have := putCells_take (chC y).toList cur (F.length * 2) hfit
      rw [show (F ++ [y]).length * 2 = F.length * 2 + (chC y).toList.length from by simp [chC]; omega, this, htk, chs_snoc]
    · obtain ⟨v', w', hrun, hown, hgr⟩ := run_append_arg_grows (P := Tryd.prog) (w.alloc (.cells #[.string y.nm, .int .i64 y.v] 56)) 23 23 56 i _ 2 24 Tryd.underlying23 hi hz0 hz1 hz2 rfl (by decide) ⟨g, 0, none⟩ F.length cap (chs F) h'.1
        (fun j u hj => by
          rw [show (⟨g, 0, none⟩ : Addr).add j = ⟨g, j, none⟩ from by unfold Addr.add; split <;> simp_all]
          exact RowS.cell h' hj)
        ⟨w.heap.size, 0, none⟩ 1 1 (chC y).toList rfl hnews (by omega) (by omega) (by omega)
      have hrow : RowC w' v' (F ++ [y]) := by
        refine ⟨chs_len _, ?_⟩
        rw [chs_snoc, List.length_append]
        rcases hown.2 with h1 | ⟨g', cap', cur', hv', hB, r⟩
        · exact Or.inl h1
        · exact Or.inr ⟨g', cap', cur', hv', Nat.zero_le _, r⟩
      obtain ⟨ad, cap', rfl⟩ := hrow.form
      have hlo := fun k hk => (World.ownsRow.lt hown k hk).1
      rw [List.length_append] at hrun hrow hlo
      refine ⟨ad, cap', w', hrun, hrow, Or.inr ⟨fun k hk => by have := hlo k hk; have := hb0.size; omega, hb0.trans ⟨hgr.os, hgr.tape, hgr.output, hgr.size, fun k hk => hgr.block k (by have := hb0.size; omega) (by simp)⟩⟩⟩
/-! ### written over -/
/-- rows of a call's own, none shares memory with another one, none of more than 1000. -/
structure Rows (B : Nat) (w : World) (vs : List Value) : Prop where
  each : ∀ j, j < vs.length → ∃ l, RowC w (vs.getD j nilS) l ∧ l.length ≤ 1000
  apart : ∀ i j, i < vs.length → j < vs.length → i ≠ j → ∀ b, (vs.getD i nilS).ownBlock = some b → (vs.getD j nilS).ownBlock ≠ some b
  new : ∀ j, j < vs.length → ∀ b, (vs.getD j nilS).ownBlock = some b → B ≤ b
/-- the list's block. -/
def ListB (w : World) (gl : Nat) (vs : List Value) : Prop := w.heap[gl]? = some (.cells vs.toArray 23 (0, 0))
/-- rows ahead of i are written over, of row i n choices. -/
structure Ov (B : Nat) (w : World) (gl : Nat) (vs : List Value) (wr : World) (i n : Nat) : Prop where
  list : ListB wr gl vs
  each : ∀ j, j < vs.length → ∃ l, RowC wr (vs.getD j nilS) l ∧ l.length ≤ 1000 ∧ (j < i → l = mkL j l.length) ∧ (j = i → n ≤ l.length ∧ l.take n = mkL i n)
  below : Below B w wr
  le : B ≤ wr.heap.size
section
variable {B : Nat} {w : World} {gl : Nat} {vs : List Value} {wr : World} {i n : Nat}
theorem listB_get (h : ListB wr gl vs) {j : Nat} (hj : j < vs.length) : wr.cell? ⟨gl, j, none⟩ = some (vs.getD j nilS) := by
  rw [cell_of_heap h, List.getD_eq_getElem?_getD, List.getElem?_eq_getElem hj]
  simp [hj]
theorem Ov.start (hr : Rows B w vs) (hl : ListB w gl vs) (hB : B ≤ w.heap.size) : Ov B w gl vs w 0 0 :=
  ⟨hl, fun j hj => by
    obtain ⟨l, h1, h2⟩ := hr.each j hj
    exact ⟨l, h1, h2, fun h => by omega, fun h => ⟨by omega, by simp [mkL]⟩⟩, Below.refl _ _, hB⟩
theorem Ov.write (h : Ov B w gl vs wr i n) (hr : Rows B w vs) (hi : i < vs.length) {a : Option Addr} {N c : Nat} (hv : vs.getD i nilS = .slice a N c) (hn : n < N) :
    ∃ g, a = some ⟨g, 0, none⟩ ∧ (∃ u, wr.cell? ⟨g, n * 2, none⟩ = some u) ∧ (∃ u, wr.cell? ⟨g, n * 2 + 1, none⟩ = some u) ∧ (∀ j, wr.frozen? ⟨g, j, none⟩ = false) ∧ Ov B w gl vs ((wr.setCell ⟨g, n * 2, none⟩ (.string ⟨#[]⟩)).setCell ⟨g, n * 2 + 1, none⟩ (.int .i64 (-100 - (i : Int)))) i (n + 1) := by
  obtain ⟨l, h1, h2, _, h4⟩ := h.each i hi
  obtain ⟨h5, h6⟩ := h4 rfl
  rw [hv] at h1
  obtain ⟨hN, _⟩ := h1.chv
  subst hN
  obtain ⟨g, rfl, _⟩ := RowS.at0 h1 (by omega)
  obtain ⟨c1, c2, c3, c4⟩ := h1.set2 hn (mk1 i)
  refine ⟨g, rfl, c1, c2, c3, ?_⟩
  have hown : (vs.getD i nilS).ownBlock = some g := by rw [hv]; rfl
  have hgn := hr.new i hi g hown
  have hb1 : But g wr (wr.setCell ⟨g, n * 2, none⟩ (.string ⟨#[]⟩)) := But.setCell _ _ _ _
  have hbt : But g wr ((wr.setCell ⟨g, n * 2, none⟩ (.string ⟨#[]⟩)).setCell ⟨g, n * 2 + 1, none⟩ (.int .i64 (-100 - (i : Int)))) := hb1.trans (But.setCell _ _ _ _)
  have hng : gl ≠ g := fun e => by
    obtain ⟨cur, h7⟩ := RowS.obj h1 (g := g) rfl
    rw [← e, h.list] at h7
    simp only [Option.some.injEq, Obj.cells.injEq] at h7
    exact absurd h7.2.1 (by decide)
  refine ⟨(hbt.block gl hng (heap_lt h.list)).trans h.list, fun j hj => ?_, h.below.trans (hbt.below hgn h.le), Nat.le_trans h.le hbt.size⟩
  by_cases e : j = i
  · subst e
    refine ⟨l.set n (mk1 j), by rw [hv]; exact c4, by simpa using h2, fun h => by omega, fun _ => ⟨by simp; omega, ?_⟩⟩
    have e1 : (l.take n).length = n := by rw [List.length_take]; omega
    rw [List.take_set, List.take_succ_eq_append_getElem hn, List.set_append_right _ _ (by omega), e1, Nat.sub_self, List.set_cons_zero, h6, mkL_succ]
  · obtain ⟨l', q1, q2, q3, q4⟩ := h.each j hj
    exact ⟨l', RowS.keep q1 fun b hb => hbt.block b (fun e2 => hr.apart j i hj hi e b hb (e2 ▸ hown)) (RowS.lt q1 hb), q2, q3, fun e2 => absurd e2 e⟩
theorem Ov.next (h : Ov B w gl vs wr i n) (hi : i < vs.length) {a : Option Addr} {N c : Nat} (hv : vs.getD i nilS = .slice a N c) (hn : N ≤ n) : Ov B w gl vs wr (i + 1) 0 :=
  ⟨h.list, fun j hj => by
    obtain ⟨l, h1, h2, h3, h4⟩ := h.each j hj
    refine ⟨l, h1, h2, fun h5 => ?_, fun h5 => ⟨by omega, by simp [mkL]⟩⟩
    rcases Nat.lt_or_ge j i with h6 | h6
    · exact h3 h6
    · obtain rfl : j = i := by omega
      obtain ⟨h7, h8⟩ := h4 rfl
      rw [hv] at h1
      have h9 := h1.chv.1
      have h10 : l.take n = l := List.take_of_length_le (by omega)
      rw [h10] at h8
      have : l.length = n := by rw [h8, mkL_len]
      rw [this]; exact h8, h.below, h.le⟩
end
/-! ### grown -/
/-- how it stands while they are grown: x the row in hand, of nx choices; gs what was laid aside. -/
structure Gw (B : Nat) (w1 : World) (gl : Nat) (vs : List Value) (wr : World) (i : Nat) (x : Value) (nx : Nat) (gv : Value) (gs : List Value) : Prop where
  list : ListB wr gl vs
  cur : RowC wr x (mkL i nx)
  curn : nx ≤ 1005
  curb : ∀ b, x.ownBlock = some b → (vs.getD i nilS).ownBlock = some b ∨ w1.heap.size ≤ b
  left : ∀ j, i < j → j < vs.length → ∃ N, RowC wr (vs.getD j nilS) (mkL j N) ∧ N ≤ 1000
  grow : Row wr 23 gv gs
  gnew : ∀ b, gv.ownBlock = some b → w1.heap.size ≤ b
  ent : ∀ t, t < gs.length → ∃ b N cp, gs.getD t nilS = .slice (some ⟨b, 0, none⟩) N cp ∧ N ≤ 1005 ∧ ChV wr (some ⟨b, 0, none⟩) (mkL (t / 5) N) ∧ 1 ≤ N ∧ ((vs.getD (t / 5) nilS).ownBlock = some b ∨ w1.heap.size ≤ b) ∧ (x.ownBlock = some b → N ≤ nx ∧ t / 5 = i) ∧ ∃ cur, wr.heap[b]? = some (.cells cur 56 (0, 0))
  below : Below B w1 wr
  le : w1.heap.size ≤ wr.heap.size
section
variable {B : Nat} {w1 : World} {gl : Nat} {vs : List Value} {wr : World} {i nx : Nat} {x gv : Value} {gs : List Value}
theorem ChV.keepB {w w' : World} {b o : Nat} {l : List Ch} (h : ChV w (some ⟨b, o, none⟩) l) (hk : w'.heap[b]? = w.heap[b]?) : ChV w' (some ⟨b, o, none⟩) l := by
  rcases h with h | ⟨b', o', h1, h2⟩
  · exact Or.inl h
  · simp only [Option.some.injEq, Addr.mk.injEq, and_true] at h1
    obtain ⟨rfl, rfl⟩ := h1
    exact Or.inr ⟨b, o, rfl, fun k x hx => ⟨(World.cell?_of_block hk).trans (h2 k x hx).1, (World.cell?_of_block hk).trans (h2 k x hx).2⟩⟩
theorem ChV.lt {w : World} {b o n i : Nat} (h : ChV w (some ⟨b, o, none⟩) (mkL i n)) (hn : 1 ≤ n) : b < w.heap.size := by
  rcases h with h | ⟨b', o', h1, h2⟩
  · have := congrArg List.length h; rw [mkL_len] at this; simp at this; omega
  · simp only [Option.some.injEq, Addr.mk.injEq, and_true] at h1
    obtain ⟨rfl, rfl⟩ := h1
    exact World.block_lt_of_cell? w _ (h2 0 _ (mkL_get (by omega))).1
theorem Gw.push (h : Gw B w1 gl vs wr i x nx gv gs) (hvs : ∀ j, j < vs.length → ∀ b, (vs.getD j nilS).ownBlock = some b → B ≤ b ∧ b < w1.heap.size) (hap : ∀ i j, i < vs.length → j < vs.length → i ≠ j → ∀ b, (vs.getD i nilS).ownBlock = some b → (vs.getD j nilS).ownBlock ≠ some b) (hi : i < vs.length) (hnx : nx + 1 ≤ 1005) (hgs : ∀ t, t < gs.length → t / 5 < vs.length) (hB : B ≤ w1.heap.size) :
    ∃ ad cap w', (Builtin.append_ #[23, 23] 23 #[x, .slice (some ⟨wr.heap.size, 0, none⟩) 1 1]).run Tryd.prog (wr.alloc (.cells #[.string ⟨#[]⟩, .int .i64 (-100 - (i : Int))] 56)) = .ok (.slice ad (nx + 1) cap) w' ∧ Gw B w1 gl vs w' i (.slice ad (nx + 1) cap) (nx + 1) gv gs ∧ ad ≠ none := by
  obtain ⟨ad, cap, w', hrun, hrow, hcase⟩ := ch_push h.cur (mk1 i) (by rw [mkL_len]; omega)
  rw [← mkL_succ] at hrow
  rw [mkL_len] at hrun hrow hcase
  have hsz := h.le
  have hne : ad ≠ none := by
    obtain ⟨g, e, _⟩ := RowS.at0 (by have := hrow; unfold RowC at this; rw [mkL_len] at this; exact this) (by omega)
    rw [e]; simp
  have htyp : ∀ b, x.ownBlock = some b → ∃ cur, wr.heap[b]? = some (.cells cur 56 (0, 0)) := fun b hb => RowS.obj h.cur hb
  have hxb : ∀ b, x.ownBlock = some b → B ≤ b := fun b hb => by
    rcases h.curb b hb with h1 | h1
    · exact (hvs i hi b h1).1
    · omega
  have hlt : ∀ b, x.ownBlock = some b → b ≠ gl := fun b hb e => by
    obtain ⟨cur, h1⟩ := htyp b hb
    rw [e, h.list] at h1
    simp only [Option.some.injEq, Obj.cells.injEq] at h1
    exact absurd h1.2.1 (by decide)
  have hgv : ∀ b b', x.ownBlock = some b → gv.ownBlock = some b' → b' ≠ b := fun b b' hb hb' e => by
    obtain ⟨cur, h1⟩ := htyp b hb
    rcases h.grow with ⟨h2, _⟩ | ⟨g, cp, cur2, lo, hi2, h2, h3, _⟩
    · rw [h2] at hb'; cases hb'
    · rw [h2] at hb'
      simp only [Value.ownBlock, Option.some.injEq] at hb'
      rw [hb', e, h1] at h3
      simp only [Option.some.injEq, Obj.cells.injEq] at h3
      exact absurd h3.2.1 (by decide)
  refine ⟨ad, cap, w', hrun, ?_, hne⟩
  rcases hcase with ⟨g, e1, e2, hbt⟩ | ⟨hf, hb⟩
  · subst e2
    have hxg : x.ownBlock = some g := by rw [e1]; rfl
    refine ⟨(hbt.block gl (fun e => hlt g hxg e.symm) (heap_lt h.list)).trans h.list, hrow, hnx, fun b hb => h.curb b (by rw [hxg]; exact hb), fun j hj hjl => ?_, h.grow.but hbt fun b hb => hgv g b hxg hb, h.gnew, fun t ht => ?_, h.below.trans (hbt.below (hxb g hxg) (by omega)), Nat.le_trans hsz hbt.size⟩
    · obtain ⟨N, h1, h2⟩ := h.left j hj hjl
      refine ⟨N, RowS.keep h1 fun b hb => hbt.block b (fun e => ?_) (RowS.lt h1 hb), h2⟩
      subst e
      have h3 := hvs j hjl b hb
      rcases h.curb b hxg with h4 | h4
      · exact hap i j hi hjl (by omega) b h4 hb
      · omega
    · obtain ⟨b, N, cp, q1, q2, q3, q4, q5, q6, cur, q9⟩ := h.ent t ht
      by_cases e : b = g
      · subst e
        obtain ⟨q7, q8⟩ := q6 hxg
        refine ⟨b, N, cp, q1, q2, ?_, q4, q5, fun _ => ⟨by omega, q8⟩, RowS.obj hrow rfl⟩
        have hc := (RowC.chv hrow).2
        rcases hc with hc | ⟨b', o', hc1, hc2⟩
        · have := congrArg List.length hc; rw [mkL_len] at this; simp at this
        · refine Or.inr ⟨b', o', hc1, fun k y hy => hc2 k y ?_⟩
          have hk : k < N := by
            have := (List.getElem?_eq_some_iff.1 hy).1
            rwa [mkL_len] at this
          rw [mkL_get hk] at hy
          rw [mkL_get (by omega), ← q8]
          exact hy
      · exact ⟨b, N, cp, q1, q2, q3.keepB (hbt.block b e (q3.lt q4)), q4, q5, fun e2 => by simp only [Value.ownBlock, Option.some.injEq] at e2; exact absurd e2.symm e, cur, (hbt.block b e (q3.lt q4)).trans q9⟩
  · refine ⟨(hb.block gl (heap_lt h.list)).trans h.list, hrow, hnx, fun b hb' => Or.inr (by have := hf b hb'; omega), fun j hj hjl => ?_, h.grow.below hb, h.gnew, fun t ht => ?_, h.below.trans (hb.mono (by omega)), Nat.le_trans hsz hb.size⟩
    · obtain ⟨N, h1, h2⟩ := h.left j hj hjl
      exact ⟨N, RowS.below h1 hb, h2⟩
    · obtain ⟨b, N, cp, q1, q2, q3, q4, q5, q6, cur, q9⟩ := h.ent t ht
      exact ⟨b, N, cp, q1, q2, q3.keepB (hb.block b (q3.lt q4)), q4, q5, fun e2 => by have := hf b e2; have := q3.lt q4; omega, cur, (hb.block b (q3.lt q4)).trans q9⟩
theorem infoLc : (Tryd.prog.info? 23).map (fun i => (i.zero, i.size, i.bytes)) = some (some (.slice none 0 0), 1, 24) := by kernel_rfl
/-- the row in hand is laid aside. -/
theorem Gw.aside {ad : Option Addr} {cap k : Nat} (h : Gw B w1 gl vs wr i (.slice ad nx cap) nx gv gs) (hnx : 1 ≤ nx) (hk : k < 5) (hlen : gs.length = 5 * i + k) (hl : gs.length ≤ 1000000) (hB : B ≤ w1.heap.size) (hgl : gl < w1.heap.size) :
    ∃ w' ad' cap', (Builtin.append_ #[44, 44] 44 #[gv, .slice (some ⟨wr.heap.size, 0, none⟩) 1 1]).run Tryd.prog (wr.alloc (.cells #[.slice ad nx cap] 23)) = .ok (.slice ad' (gs.length + 1) cap') w' ∧ Gw B w1 gl vs w' i (.slice ad nx cap) nx (.slice ad' (gs.length + 1) cap') (gs ++ [.slice ad nx cap]) := by
  have hb0 := bpush (Below.refl wr.heap.size wr) (.cells #[.slice ad nx cap] 23)
  obtain ⟨v', w', hrun, hrow, hgr, hcase⟩ := append_one 44 44 23 _ 24 Tryd.underlying44 infoLc rfl (h.grow.below hb0) (.slice ad nx cap) rfl wr.heap.size (0, 0) (heap_new wr _) (by unfold maxLen; omega) (by omega)
  have hform : ∃ ad' cap', v' = .slice ad' (gs.length + 1) cap' ∧ ∀ g, v'.ownBlock = some g → gv.ownBlock = some g ∨ wr.heap.size ≤ g := by
    rcases hcase with ⟨g, cap, h1, h2⟩ | ⟨g, cap, h1, h2, _⟩
    · exact ⟨_, _, h2, fun k hk => Or.inl (by rw [h1]; rw [h2] at hk; exact hk)⟩
    · refine ⟨_, _, h1, fun k hk => Or.inr ?_⟩
      rw [h1] at hk
      simp [Value.ownBlock] at hk
      have := hb0.size
      omega
  obtain ⟨ad', cap', rfl, hown⟩ := hform
  -- blocks of choices stay, and what lies ahead
  have hkC : ∀ (b : Nat) (cur : Array Value) (f : Nat × Nat), wr.heap[b]? = some (.cells cur 56 f) → w'.heap[b]? = wr.heap[b]? := fun b cur f hb => by
    have hlt := heap_lt hb
    refine (hgr.block b (by have := hb0.size; omega) (fun e => ?_)).trans (hb0.block b hlt)
    rcases h.grow with ⟨h2, _⟩ | ⟨g, cp, cur2, lo, hi2, h2, h3, _⟩
    · rw [h2] at e; cases e
    · rw [h2] at e
      simp only [Value.ownBlock, Option.some.injEq] at e
      rw [← e, hb] at h3
      simp only [Option.some.injEq, Obj.cells.injEq] at h3
      exact absurd h3.2.1 (by decide)
  have hkO : ∀ b, b < w1.heap.size → w'.heap[b]? = wr.heap[b]? := fun b hb => by
    have := h.le
    refine (hgr.block b (by have := hb0.size; omega) (fun e => ?_)).trans (hb0.block b (by omega))
    have := h.gnew b e.symm
    omega
  have hkR : ∀ (v : Value) (l : List Ch), RowC wr v l → RowC w' v l := fun v l hr => RowS.keep hr fun b hb => by
    obtain ⟨cur, h1⟩ := RowS.obj hr hb
    exact hkC b cur _ h1
  have hxr := hkR _ _ h.cur
  obtain ⟨g, hg, _⟩ := RowS.at0 (by have := h.cur; unfold RowC at this; rw [mkL_len] at this; exact this) (by omega)
  refine ⟨w', ad', cap', hrun, ⟨(hkO gl hgl).trans h.list, hxr, h.curn, h.curb, fun j h1 h2 => ?_, hrow, fun b hb => ?_, fun t ht => ?_, ?_, ?_⟩⟩
  · obtain ⟨N, h3, h4⟩ := h.left j h1 h2
    exact ⟨N, hkR _ _ h3, h4⟩
  · rcases hown b hb with h1 | h1
    · exact h.gnew b h1
    · have := h.le; omega
  · rw [List.length_append, List.length_singleton] at ht
    by_cases e : t = gs.length
    · subst e
      subst hg
      have e5 : gs.length / 5 = i := by omega
      refine ⟨g, nx, cap, by rw [List.getD_eq_getElem?_getD]; simp, h.curn, ?_, hnx, ?_, fun _ => ⟨Nat.le_refl _, e5⟩, RowS.obj hxr rfl⟩
      · rw [e5]; exact (RowC.chv hxr).2
      · rw [e5]; exact h.curb g rfl
    · obtain ⟨b, N, cp, q1, q2, q3, q4, q5, q6, cur, q9⟩ := h.ent t (by omega)
      refine ⟨b, N, cp, ?_, q2, q3.keepB (hkC b cur _ q9), q4, q5, q6, cur, (hkC b cur _ q9).trans q9⟩
      rw [List.getD_eq_getElem?_getD, List.getElem?_append_left (by omega), ← List.getD_eq_getElem?_getD]
      exact q1
  · have hb1 := h.below
    refine ⟨hgr.os.trans (hb0.os.trans hb1.os), hgr.tape.trans (hb0.tape.trans hb1.tape), hgr.output.trans (hb0.output.trans hb1.output), Nat.le_trans hb1.size (Nat.le_trans hb0.size hgr.size), fun b hb => (hkO b (by omega)).trans (hb1.block b hb)⟩
  · exact Nat.le_trans h.le (Nat.le_trans hb0.size hgr.size)
/-- between two rows. -/
structure Gz (B : Nat) (w1 : World) (gl : Nat) (vs : List Value) (wr : World) (i : Nat) (gv : Value) (gs : List Value) : Prop where
  list : ListB wr gl vs
  left : ∀ j, i ≤ j → j < vs.length → ∃ N, RowC wr (vs.getD j nilS) (mkL j N) ∧ N ≤ 1000
  grow : Row wr 23 gv gs
  gnew : ∀ b, gv.ownBlock = some b → w1.heap.size ≤ b
  ent : ∀ t, t < gs.length → ∃ b N cp, gs.getD t nilS = .slice (some ⟨b, 0, none⟩) N cp ∧ N ≤ 1005 ∧ ChV wr (some ⟨b, 0, none⟩) (mkL (t / 5) N) ∧ 1 ≤ N ∧ ((vs.getD (t / 5) nilS).ownBlock = some b ∨ w1.heap.size ≤ b) ∧ ∃ cur, wr.heap[b]? = some (.cells cur 56 (0, 0))
  below : Below B w1 wr
  le : w1.heap.size ≤ wr.heap.size
  len : gs.length = 5 * i
theorem Gz.start {w : World} (h : Ov B w gl vs w1 vs.length 0) : Gz B w1 gl vs w1 0 (.slice none 0 0) [] :=
  ⟨h.list, fun j _ hj => by
    obtain ⟨l, h1, h2, h3, _⟩ := h.each j hj
    refine ⟨l.length, ?_, h2⟩
    have := h3 hj
    rw [← this]; exact h1, Row.nil _ _, by simp [Value.ownBlock], fun t ht => by simp at ht, Below.refl _ _, Nat.le_refl _, rfl⟩
theorem Gz.enter (h : Gz B w1 gl vs wr i gv gs) (hi : i < vs.length) (hvs : ∀ j, j < vs.length → ∀ b, (vs.getD j nilS).ownBlock = some b → B ≤ b ∧ b < w1.heap.size) (hap : ∀ i j, i < vs.length → j < vs.length → i ≠ j → ∀ b, (vs.getD i nilS).ownBlock = some b → (vs.getD j nilS).ownBlock ≠ some b) :
    ∃ a N c, vs.getD i nilS = .slice a N c ∧ N ≤ 1000 ∧ Gw B w1 gl vs wr i (.slice a N c) N gv gs := by
  obtain ⟨N, h1, h2⟩ := h.left i (Nat.le_refl _) hi
  obtain ⟨a, c, e⟩ := h1.form
  rw [mkL_len] at e
  refine ⟨a, N, c, e, h2, h.list, by rw [← e]; exact h1, by omega, fun b hb => Or.inl (by rw [e]; exact hb), fun j h3 h4 => h.left j (by omega) h4, h.grow, h.gnew, fun t ht => ?_, h.below, h.le⟩
  obtain ⟨b, N', cp, q1, q2, q3, q4, q5, cur, q9⟩ := h.ent t ht
  refine ⟨b, N', cp, q1, q2, q3, q4, q5, fun e2 => ?_, cur, q9⟩
  rw [← e] at e2
  have hlen := h.len
  rcases q5 with q5 | q5
  · exact absurd e2 (hap (t / 5) i (by omega) hi (by omega) b q5)
  · have := (hvs i hi b e2).2; omega
theorem Gw.leave (h : Gw B w1 gl vs wr i x nx gv gs) (hlen : gs.length = 5 * i + 5) : Gz B w1 gl vs wr (i + 1) gv gs :=
  ⟨h.list, fun j h1 h2 => h.left j (by omega) h2, h.grow, h.gnew, fun t ht => by
    obtain ⟨b, N', cp, q1, q2, q3, q4, q5, _, q9⟩ := h.ent t ht
    exact ⟨b, N', cp, q1, q2, q3, q4, q5, q9⟩, h.below, h.le, by omega⟩
end
end Go.Proofs.YtdcppiknomoigaaDoor
