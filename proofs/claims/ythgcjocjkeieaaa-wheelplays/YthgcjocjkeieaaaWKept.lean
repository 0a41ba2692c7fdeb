/-
  The lists that the statement keeps.
-/
import Derived.Test.YthgcjocjkeieaaaWRef3
namespace Go.Proofs.Ythgcjocjkeieaaa
open Go.RowKit
set_option linter.all false

theorem infoL : (Try.prog.info? 41).map (fun i => (i.zero, i.size, i.bytes)) = some (some (.slice none 0 0), 1, 24) := by kernel_rfl
/-- the book: a struct of two lists of lists. -/
structure BK (w : World) (kb : Nat) (ls ws : List Value) (lv wv : Value) : Prop where
  box : w.heap[kb]? = some (.cells #[lv, wv] 31 (0, 0))
  lrow : Row w 41 lv ls
  wrow : Row w 41 wv ws
  apart : ∀ k, blkOf lv k → ¬ blkOf wv k
  len : ls.length = ws.length
def BKK (kb : Nat) (lv wv : Value) (k : Nat) : Prop := k = kb ∨ blkOf lv k ∨ blkOf wv k
theorem BK.ne {w : World} {kb : Nat} {ls ws : List Value} {lv wv : Value} (h : BK w kb ls ws lv wv) {k : Nat} (hk : blkOf lv k ∨ blkOf wv k) : k ≠ kb := by
  rintro rfl
  rcases hk with hk | hk
  · obtain ⟨c, f, h1⟩ := h.lrow.obj hk
    rw [h.box] at h1
    simp only [Option.some.injEq, Obj.cells.injEq] at h1
    exact absurd h1.2.1 (by decide)
  · obtain ⟨c, f, h1⟩ := h.wrow.obj hk
    rw [h.box] at h1
    simp only [Option.some.injEq, Obj.cells.injEq] at h1
    exact absurd h1.2.1 (by decide)
theorem BK.keep {w w' : World} {kb : Nat} {ls ws : List Value} {lv wv : Value} (h : BK w kb ls ws lv wv) (hk : ∀ k, BKK kb lv wv k → w'.heap[k]? = w.heap[k]?) : BK w' kb ls ws lv wv :=
  ⟨(hk kb (Or.inl rfl)).trans h.box, h.lrow.keep fun g hg => hk g (Or.inr (Or.inl hg)), h.wrow.keep fun g hg => hk g (Or.inr (Or.inr hg)), h.apart, h.len⟩
theorem BK.lt {w : World} {kb : Nat} {ls ws : List Value} {lv wv : Value} (h : BK w kb ls ws lv wv) {k : Nat} (hk : BKK kb lv wv k) : k < w.heap.size := by
  rcases hk with rfl | hk | hk
  · exact heap_lt h.box
  · exact h.lrow.lt hk
  · exact h.wrow.lt hk
/-- one more list at the end of a list of lists. -/
theorem lists_push {w : World} {v : Value} {ls : List Value} (h : Row w 41 v ls) (ad : Option Addr) (n c : Nat) (hl : (ls.length + 1) * 24 ≤ 140737488355328) :
    ∃ w' ad' cap', (Builtin.append_ #[29, 29] 29 #[v, .slice (some ⟨w.heap.size, 0, none⟩) 1 1]).run Try.prog (w.alloc (.cells #[.slice ad n c] 41)) = .ok (.slice ad' (ls.length + 1) cap') w' ∧ Row w' 41 (.slice ad' (ls.length + 1) cap') (ls ++ [.slice ad n c]) ∧ Turned (blkOf v) w (blkOf (.slice ad' (ls.length + 1) cap')) w' := by
  have hb0 := balloc w (.cells #[.slice ad n c] 41)
  obtain ⟨v', w', hrun, hrow, hgr, hcase⟩ := append_one 29 29 41 _ 24 Try.underlying29 infoL rfl (h.below hb0) (.slice ad n c) rfl w.heap.size (0, 0) (heap_new w _) (by unfold maxLen; omega) (by omega)
  have hform : ∃ ad' cap', v' = .slice ad' (ls.length + 1) cap' ∧ ∀ g, v'.ownBlock = some g → v.ownBlock = some g ∨ w.heap.size ≤ g := by
    rcases hcase with ⟨g, cap, h1, h2⟩ | ⟨g, cap, h1, h2, _⟩
    · exact ⟨_, _, h2, fun k hk => Or.inl (by rw [h1]; rw [h2] at hk; exact hk)⟩
    · refine ⟨_, _, h1, fun k hk => Or.inr ?_⟩
      rw [h1] at hk
      simp [Value.ownBlock] at hk
      have := hb0.size
      omega
  obtain ⟨ad', cap', rfl, hown⟩ := hform
  refine ⟨w', ad', cap', hrun, hrow, ⟨hgr.os.trans hb0.os, hgr.tape.trans hb0.tape, hgr.output.trans hb0.output, Nat.le_trans hb0.size hgr.size, fun k hk hkl => ?_⟩, fun k hk => hown k hk⟩
  exact (hgr.block k (by have := hb0.size; omega) (fun e => hk e.symm)).trans (hb0.block k hkl)
/-- what take leaves. -/
structure TkI (w : World) (kb : Nat) (lv wv : Value) (ls ws : List Value) (w' : World) (lv' wv' : Value) : Prop where
  bk : BK w' kb ls ws lv' wv'
  turned : Turned (BKK kb lv wv) w (BKK kb lv' wv') w'
set_option maxRecDepth 20000 in
set_option maxHeartbeats 2000000 in
theorem take_book (kb : Nat) (ls ws : List Value) (lv wv : Value) (a1 : Option Addr) (n1 c1 : Nat) (a2 : Option Addr) (n2 c2 : Nat) (hl : (ls.length + 1) * 24 ≤ 140737488355328) (w : World) (x : BK w kb ls ws lv wv) :
    Calls Try.prog 24 #[.pointer (some ⟨kb, 0, none⟩), .slice a1 n1 c1, .slice a2 n2 c2] w fun e w' => e = .returned (.tuple #[]) ∧ ∃ lv' wv', Hid (TkI w kb lv wv (ls ++ [.slice a1 n1 c1]) (ws ++ [.slice a2 n2 c2]) w' lv' wv') := by
  have hlen := x.len
  obtain ⟨w1, ad1, cap1, hr1, hrow1, ht1⟩ := lists_push x.lrow a1 n1 c1 hl
  have hkb := heap_lt x.box
  have c0 := cellHeap x.box 0 rfl
  have hb1 : w1.heap[kb]? = some (.cells #[lv, wv] 31 (0, 0)) := (ht1.only.block kb (fun e => x.ne (Or.inl e) rfl) hkb).trans x.box
  have d0 := cellHeap hb1 0 rfl
  have f0 := frozen_of_heap hb1 0
  have hs1 := ht1.only.size
  have hw1 : Row w1 41 wv ws := x.wrow.keep fun g hg => ht1.only.block g (fun e => x.apart g e hg) (x.wrow.lt hg)
  have hne1 : ∀ k, blkOf (.slice ad1 (ls.length + 1) cap1) k → k ≠ kb ∧ ¬ blkOf wv k := fun k hk => by
    rcases ht1.new k hk with h1 | h1
    · exact ⟨x.ne (Or.inl h1), x.apart k h1⟩
    · exact ⟨by omega, fun e => by have := x.wrow.lt e; omega⟩
  obtain ⟨W, hW⟩ : ∃ W, W = w1.setCell ⟨kb, 0, none⟩ (.slice ad1 (ls.length + 1) cap1) := ⟨_, rfl⟩
  have hbW : W.heap[kb]? = some (.cells #[.slice ad1 (ls.length + 1) cap1, wv] 31 (0, 0)) := by rw [hW]; simpa using heap_setCell (j := 0) (v := .slice ad1 (ls.length + 1) cap1) hb1
  have hkW : ∀ k, k ≠ kb → W.heap[k]? = w1.heap[k]? := fun k hk => by rw [hW]; exact Below.heap_setCell _ _ _ _ hk
  have hsW : W.heap.size = w1.heap.size := by rw [hW]; simp [World.setCell]
  have hrW : Row W 41 (.slice ad1 (ls.length + 1) cap1) (ls ++ [.slice a1 n1 c1]) := hrow1.keep fun g hg => hkW g (hne1 g hg).1
  have hwW : Row W 41 wv ws := hw1.keep fun g hg => hkW g (x.ne (Or.inr hg))
  obtain ⟨w2, ad2, cap2, hr2, hrow2, ht2⟩ := lists_push hwW a2 n2 c2 (by omega)
  have e1 := cellHeap hbW 1 rfl
  have hb2 : w2.heap[kb]? = some (.cells #[.slice ad1 (ls.length + 1) cap1, wv] 31 (0, 0)) := (ht2.only.block kb (fun e => x.ne (Or.inr e) rfl) (by omega)).trans hbW
  have g1 := cellHeap hb2 1 rfl
  have k1 := frozen_of_heap hb2 1
  have hs2 := ht2.only.size
  have HE : Hid (TkI w kb lv wv (ls ++ [.slice a1 n1 c1]) (ws ++ [.slice a2 n2 c2]) (w2.setCell ⟨kb, 1, none⟩ (.slice ad2 (ws.length + 1) cap2)) (.slice ad1 (ls.length + 1) cap1) (.slice ad2 (ws.length + 1) cap2)) := by
    have hne2 : ∀ k, blkOf (.slice ad2 (ws.length + 1) cap2) k → k ≠ kb ∧ ¬ blkOf (.slice ad1 (ls.length + 1) cap1) k := fun k hk => by
      rcases ht2.new k hk with h1 | h1
      · exact ⟨x.ne (Or.inr h1), fun e => (hne1 k e).2 h1⟩
      · exact ⟨by omega, fun e => by have := hrow1.lt e; omega⟩
    have hb3 := heap_setCell (j := 1) (v := .slice ad2 (ws.length + 1) cap2) hb2
    have hk3 : ∀ k, k ≠ kb → (w2.setCell ⟨kb, 1, none⟩ (.slice ad2 (ws.length + 1) cap2)).heap[k]? = w2.heap[k]? := fun k hk => Below.heap_setCell _ _ _ _ hk
    refine ⟨⟨by simpa using hb3, ?_, hrow2.keep fun g hg => hk3 g (hne2 g hg).1, fun k h1 h2 => (hne2 k h2).2 h1, by simp [hlen]⟩, ⟨?_, ?_, ?_, ?_, fun k hk hkl => ?_⟩, fun k hk => ?_⟩
    · exact (hrW.keep fun g hg => ht2.only.block g (hne1 g hg).2 (hrW.lt hg)).keep fun g hg => hk3 g (hne1 g hg).1
    · have h1 : W.os = w1.os := by rw [hW]; rfl
      exact ht2.only.os.trans (h1.trans ht1.only.os)
    · have h1 : W.tape = w1.tape := by rw [hW]; rfl
      exact ht2.only.tape.trans (h1.trans ht1.only.tape)
    · have h1 : W.output = w1.output := by rw [hW]; rfl
      exact ht2.only.output.trans (h1.trans ht1.only.output)
    · simp [World.setCell]; omega
    · have h0 : k ≠ kb := fun e => hk (Or.inl e)
      rw [hk3 k h0, ht2.only.block k (fun e => hk (Or.inr (Or.inr e))) (by omega), hkW k h0, ht1.only.block k (fun e => hk (Or.inr (Or.inl e))) hkl]
    · rcases hk with rfl | hk | hk
      · exact Or.inl (Or.inl rfl)
      · exact (ht1.new k hk).imp (fun h => Or.inr (Or.inl h)) id
      · rcases ht2.new k hk with h1 | h1
        · exact Or.inl (Or.inr (Or.inr h1))
        · exact Or.inr (by omega)
  have HR1 := hid hr1
  have HR2 := hid hr2
  have e1' : (w1.setCell ⟨kb, 0, none⟩ (.slice ad1 (ls.length + 1) cap1)).cell? ⟨kb, 1, none⟩ = some wv := by rw [← hW]; exact e1
  rw [hsW, hW] at HR2
  clear x hr1 hr2 hrow1 ht1 hb1 hw1 hne1 hbW hkW hsW hrW hwW hrow2 ht2 hb2 hs1 hs2 hkb e1 hW hl hlen
  generalize ls.length = N1 at *
  generalize ws.length = N2 at *
  go_enter Try.func24, Try.ntmps24
  go_wp2_with (first
    | (at_builtin; refine wpList_append_run _ rfl _ _ _ _ rfl _ _ rfl rfl HR1.out ?_; clear HR1)
    | (at_builtin; refine wpList_append_run _ rfl _ _ _ _ rfl _ _ rfl rfl HR2.out ?_; clear HR2)
    | fail)
  exact bodyPost_end (v := .tuple #[]) (by simp [results, Try.results24, go_sem]) rfl ⟨rfl, _, _, HE⟩
end Go.Proofs.Ythgcjocjkeieaaa
