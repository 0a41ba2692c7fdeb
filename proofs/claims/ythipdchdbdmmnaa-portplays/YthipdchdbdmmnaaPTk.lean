/-
  Port: the queue's take.
-/
import Derived.Test.YthipdchdbdmmnaaPDel2
namespace Go.Proofs.Ythipdchdbdmmnaa
open Go.RowKit
set_option linter.all false

set_option maxRecDepth 20000 in
set_option maxHeartbeats 1000000 in
theorem qtake_none (b : Nat) (a : Option Addr) (cp : Nat) (w : World) (hc : w.cell? ⟨b, 0, none⟩ = some (.slice a 0 cp)) :
    Calls Try.prog 48 #[.pointer (some ⟨b, 0, none⟩)] w fun e w' => e = .returned (.tuple #[dz, .bool false]) ∧ Below w.heap.size w w' := by
  have hbl := World.block_lt_of_cell? w _ hc
  have hc1 : (w.alloc (.cells #[.int .u32 0, .int .u32 0, .int .i64 0, .int .i64 0, .slice none 0 0] 53)).cell? ⟨b, 0, none⟩ = some (.slice a 0 cp) := by rw [(balloc w _).cell hbl]; exact hc
  have HQ := hid (qsize_any b a 0 cp _ hc1)
  have H0 : Hid (((w.alloc (.cells #[.int .u32 0, .int .u32 0, .int .i64 0, .int .i64 0, .slice none 0 0] 53)).alloc (.cells #[.int .u32 0, .int .u32 0, .int .i64 0, .int .i64 0, .slice none 0 0] 53)).heap[w.heap.size]? = some (.cells #[.int .u32 0, .int .u32 0, .int .i64 0, .int .i64 0, .slice none 0 0] 53 (0, 0))) := by
    unfold Hid; rw [heap_old _ _ (by simp)]; exact heap_new _ _
  simp only [dz]
  clear hc hc1
  go_enter Try.func48, Try.ntmps48
  go_wp2_with (first
    | (go_at_call 26; refine HQ.out.mono ?_; rintro e w1 ⟨rfl, rfl⟩)
    | (refine wpList_store_row rfl 53 _ _ rfl w.heap.size #[.int .u32 0, .int .u32 0, .int .i64 0, .int .i64 0, .slice none 0 0] rfl rfl 53 _ H0.out (by kernel_rfl) rfl (by first | kernel_rfl | simp [Value.oneCell']) ?_))
  refine bodyPost_ret (v := .tuple #[.agg #[.int .u32 0, .int .u32 0, .int .i64 0, .int .i64 0, .slice none 0 0], .bool false]) ?_ (by rfl) ⟨rfl, bbut (bpush (bpush (Below.refl _ _) _) _) (But.setRow _ _ _) (Nat.le_refl _)⟩
  exact results_row2 Try.results48 _ _ w.heap.size 53 _ (0, 0) _ _ rfl rfl (setRow_heap _ _ _ _ _ _ H0.out) Try.underlying53 rfl (by kernel_rfl)
set_option maxRecDepth 20000 in
set_option maxHeartbeats 4000000 in
theorem qtake_some (b : Nat) (q : Value) (dr : Int) (n : Nat) (rest : List Value) (d : Dg) (v : Value) (w : World) (hbox : w.heap[b]? = some (.cells #[q, .int .i64 dr] 85 (0, 0))) (hrow : RowS w 53 5 q (n + 1) (d.cells v ++ rest)) (hn : n ≤ 64) (hv : ∃ a l c, v = .slice a l c) (h1 : ∀ u ∈ rest, u.oneCell' = true) :
    Calls Try.prog 48 #[.pointer (some ⟨b, 0, none⟩)] w fun e w' => e = .returned (.tuple #[.agg (d.cells v).toArray, .bool true]) ∧ ∃ q', Hid (QI w w' b q q' dr n rest) := by
  obtain ⟨va, vl, vc, rfl⟩ := hv
  obtain ⟨g, cp, rfl, hncp, hcm⟩ := hrow.some_of (by omega)
  obtain ⟨si, di, sp, dp, zs⟩ := d
  have hcells : ∀ {wx : World}, RowS wx 53 5 (.slice (some ⟨g, 0, none⟩) (n + 1) cp) (n + 1) ((Dg.mk si di sp dp zs).cells (.slice va vl vc) ++ rest) → wx.cell? ⟨g, 0, none⟩ = some (.int .u32 si) ∧ wx.cell? ⟨g, 1, none⟩ = some (.int .u32 di) ∧ wx.cell? ⟨g, 2, none⟩ = some (.int .i64 sp) ∧ wx.cell? ⟨g, 3, none⟩ = some (.int .i64 dp) ∧ wx.cell? ⟨g, 4, none⟩ = some (.slice va vl vc) := fun h => ⟨h.cell rfl, h.cell rfl, h.cell rfl, h.cell rfl, h.cell rfl⟩
  have hbl := heap_lt hbox
  have hB1 := balloc w (.cells #[.int .u32 0, .int .u32 0, .int .i64 0, .int .i64 0, .slice none 0 0] 53)
  have hc1 : (w.alloc (.cells #[.int .u32 0, .int .u32 0, .int .i64 0, .int .i64 0, .slice none 0 0] 53)).cell? ⟨b, 0, none⟩ = some (.slice (some ⟨g, 0, none⟩) (n + 1) cp) := by rw [cell_of_heap (kept hbox hB1)]; rfl
  obtain ⟨e0, e1, e2, e3, e4⟩ := hcells (hrow.below hB1)
  have HQ := hid (qsize_any b _ (n + 1) cp _ hc1)
  have hB2 : Below w.heap.size w ((w.alloc (.cells #[.int .u32 0, .int .u32 0, .int .i64 0, .int .i64 0, .slice none 0 0] 53)).alloc (.cells #[.int .u32 0, .int .u32 0, .int .i64 0, .int .i64 0, .slice none 0 0] 53)) := bpush hB1 _
  have hn2 : ((w.alloc (.cells #[.int .u32 0, .int .u32 0, .int .i64 0, .int .i64 0, .slice none 0 0] 53)).alloc (.cells #[.int .u32 0, .int .u32 0, .int .i64 0, .int .i64 0, .slice none 0 0] 53)).heap[w.heap.size + 1]? = some (.cells #[.int .u32 0, .int .u32 0, .int .i64 0, .int .i64 0, .slice none 0 0] 53 (0, 0)) := by
    have := heap_new (w.alloc (.cells #[.int .u32 0, .int .u32 0, .int .i64 0, .int .i64 0, .slice none 0 0] 53)) (.cells #[.int .u32 0, .int .u32 0, .int .i64 0, .int .i64 0, .slice none 0 0] 53)
    rw [World.size_alloc] at this
    exact this
  have hr2 : ((w.alloc (.cells #[.int .u32 0, .int .u32 0, .int .i64 0, .int .i64 0, .slice none 0 0] 53)).alloc (.cells #[.int .u32 0, .int .u32 0, .int .i64 0, .int .i64 0, .slice none 0 0] 53)).heap[w.heap.size]? = some (.cells #[.int .u32 0, .int .u32 0, .int .i64 0, .int .i64 0, .slice none 0 0] 53 (0, 0)) := by
    rw [heap_old _ _ (by simp)]; exact heap_new _ _
  have hB3 : Below w.heap.size w (((w.alloc (.cells #[.int .u32 0, .int .u32 0, .int .i64 0, .int .i64 0, .slice none 0 0] 53)).alloc (.cells #[.int .u32 0, .int .u32 0, .int .i64 0, .int .i64 0, .slice none 0 0] 53)).setRow (w.heap.size + 1) #[.int .u32 si, .int .u32 di, .int .i64 sp, .int .i64 dp, .slice va vl vc]) := bbut hB2 (But.setRow _ _ _) (by omega)
  have hn3 := setRow_heap _ _ _ #[.int .u32 si, .int .u32 di, .int .i64 sp, .int .i64 dp, .slice va vl vc] _ _ hn2
  have hr3 : (((w.alloc (.cells #[.int .u32 0, .int .u32 0, .int .i64 0, .int .i64 0, .slice none 0 0] 53)).alloc (.cells #[.int .u32 0, .int .u32 0, .int .i64 0, .int .i64 0, .slice none 0 0] 53)).setRow (w.heap.size + 1) #[.int .u32 si, .int .u32 di, .int .i64 sp, .int .i64 dp, .slice va vl vc]).heap[w.heap.size]? = _ := (setRow_other _ _ _ _ (by omega)).trans hr2
  have hgl : g < w.heap.size := hrow.lt rfl
  have hgb : g ≠ b := fun e => rowS_cell_not hrow hbox (by decide) (by simp [Value.ownBlock, e])
  have HD := hid (delete_any g n cp ((Dg.mk si di sp dp zs).cells (.slice va vl vc)) rest _ (hrow.below hB3) rfl h1 hn)
  have hc3 : (((w.alloc (.cells #[.int .u32 0, .int .u32 0, .int .i64 0, .int .i64 0, .slice none 0 0] 53)).alloc (.cells #[.int .u32 0, .int .u32 0, .int .i64 0, .int .i64 0, .slice none 0 0] 53)).setRow (w.heap.size + 1) #[.int .u32 si, .int .u32 di, .int .i64 sp, .int .i64 dp, .slice va vl vc]).cell? ⟨b, 0, none⟩ = some (.slice (some ⟨g, 0, none⟩) (n + 1) cp) := by rw [cell_of_heap (kept hbox hB3)]; rfl
  have hbox3 := kept hbox hB3
  have HA : Hid (∀ w4, But g (((w.alloc (.cells #[.int .u32 0, .int .u32 0, .int .i64 0, .int .i64 0, .slice none 0 0] 53)).alloc (.cells #[.int .u32 0, .int .u32 0, .int .i64 0, .int .i64 0, .slice none 0 0] 53)).setRow (w.heap.size + 1) #[.int .u32 si, .int .u32 di, .int .i64 sp, .int .i64 dp, .slice va vl vc]) w4 → RowS w4 53 5 (.slice (some ⟨g, 0, none⟩) n cp) n rest → w4.cell? ⟨b, 0, none⟩ = some (.slice (some ⟨g, 0, none⟩) (n + 1) cp) ∧ w4.frozen? ⟨b, 0, none⟩ = false ∧
      (∀ j, (w4.setCell ⟨b, 0, none⟩ (.slice (some ⟨g, 0, none⟩) n cp)).cell? ⟨w.heap.size + 1, j, none⟩ = #[.int .u32 si, .int .u32 di, .int .i64 sp, .int .i64 dp, .slice va vl vc][j]?) ∧
      Hid ((w4.setCell ⟨b, 0, none⟩ (.slice (some ⟨g, 0, none⟩) n cp)).heap[w.heap.size]? = some (.cells #[.int .u32 0, .int .u32 0, .int .i64 0, .int .i64 0, .slice none 0 0] 53 (0, 0))) ∧
      Hid (QI w ((w4.setCell ⟨b, 0, none⟩ (.slice (some ⟨g, 0, none⟩) n cp)).setRow w.heap.size #[.int .u32 si, .int .u32 di, .int .i64 sp, .int .i64 dp, .slice va vl vc]) b (.slice (some ⟨g, 0, none⟩) (n + 1) cp) (.slice (some ⟨g, 0, none⟩) n cp) dr n rest)) := fun w4 hb4 hr4 => by
    have k1 := keptBut hbox3 hb4 (Ne.symm hgb)
    have k2 := keptBut hn3 hb4 (by omega)
    have k3 := keptBut hr3 hb4 (by omega)
    have hset : But b w4 (w4.setCell ⟨b, 0, none⟩ (.slice (some ⟨g, 0, none⟩) n cp)) := But.setCell _ _ _ _
    have k4 := keptBut k2 hset (by omega)
    have k5 := keptBut k3 hset (by omega)
    refine ⟨by rw [cell_of_heap k1]; rfl, frozen_of_heap k1 _, fun j => cell_of_heap k4 j, k5, ?_, ?_, ?_, fun k hk => Or.inl hk⟩
    · rw [setRow_other _ _ _ _ (by omega)]
      have := heap_setCell (j := 0) (v := .slice (some ⟨g, 0, none⟩) n cp) k1
      simpa using this
    · exact hr4.keep fun k hk => by
        simp [Value.ownBlock] at hk
        subst hk
        rw [setRow_other _ _ _ _ (by omega)]
        exact Below.heap_setCell _ _ _ _ hgb
    · have o1 : Only (fun k => k = b ∨ (Value.slice (some ⟨g, 0, none⟩) (n + 1) cp).ownBlock = some k) w w4 := (Only.of_below hB3).trans (Only.of_but hb4 (Or.inr rfl))
      have o2 := o1.trans (Only.of_but hset (Or.inl rfl))
      have s2 := o2.size
      exact ⟨o2.os, o2.tape, o2.output, by simpa [World.setRow] using s2, fun k hk hl => (setRow_other _ _ _ _ (by omega)).trans (o2.block k hk hl)⟩
  have m1 : (0 : Int) < (n : Int) + 1 := by omega
  have m2 : ¬ ((n : Int) + 1 = 0) := by omega
  have HN2 := hid hn2
  clear hbox hrow hB1 hB2 hr2 hB3 hr3 hcells hbox3 hn2
  simp only [Dg.cells] at HD ⊢
  go_enter Try.func48, Try.ntmps48
  go_wp2_with (first
    | (go_at_call 26; refine HQ.out.mono ?_; rintro e w1 ⟨rfl, rfl⟩)
    | (refine wpList_store_row rfl 53 _ _ rfl (w.heap.size + 1) #[.int .u32 si, .int .u32 di, .int .i64 sp, .int .i64 dp, .slice va vl vc] rfl rfl 53 _ HN2.out (by kernel_rfl) rfl (by first | kernel_rfl | simp [Value.oneCell']) ?_; clear HN2)
    | (go_at_call 59; refine HD.out.mono ?_; go_loud (rintro e w4 ⟨rfl, HR4, HB4⟩; obtain ⟨f1, f2, f3, F4, F5⟩ := HA.out w4 HB4.out HR4.out))
    | (refine wpList_store_row rfl 53 _ _ rfl w.heap.size #[.int .u32 si, .int .u32 di, .int .i64 sp, .int .i64 dp, .slice va vl vc] rfl rfl 53 _ F4.out (by kernel_rfl) rfl (by first | kernel_rfl | simp [Value.oneCell']) ?_))
  refine bodyPost_ret (v := .tuple #[.agg #[.int .u32 si, .int .u32 di, .int .i64 sp, .int .i64 dp, .slice va vl vc], .bool true]) ?_ (by rfl) ⟨rfl, _, F5⟩
  exact results_row2 Try.results48 _ _ w.heap.size 53 _ (0, 0) _ _ rfl rfl (setRow_heap _ _ _ _ _ _ F4.out) Try.underlying53 rfl (by kernel_rfl)
end Go.Proofs.Ythipdchdbdmmnaa
