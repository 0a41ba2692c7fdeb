/-
  Port: what waits at a port: size, add; bytes.Clone; slices.Delete of the first.
-/
import Derived.Test.YthipdchdbdmmnaaPActs
import Derived.Test.YthipdchdbdmmnaaBApp
import Derived.Test.YthipdchdbdmmnaaBAns
import Derived.Lib.SliceRun
namespace Go.Proofs.Ythipdchdbdmmnaa
open Go.RowKit
set_option linter.all false

set_option maxHeartbeats 1000000 in
theorem bclone_any (pt : Part) (w : World) (hok : pt.ok w) (hl : pt.zs.length ≤ 140737488355328) :
    Calls Try.prog 46 #[pt.val] w fun e w' => ∃ a c, e = .returned (.slice a pt.zs.length c) ∧ Hid (Ans w w' pt.zs a pt.zs.length c) := by
  obtain ⟨a, c, zs⟩ := pt
  simp only [Part.val] at *
  cases a with
  | none =>
    have hz : zs = [] := by
      rcases hok.2.2 with h | ⟨b, o, h, _⟩
      · exact h
      · simp at h
    subst hz
    clear hok hl
    have he : ∀ wx : World, (binOp .eql 51 (.slice none 0 c) (.slice none 0 0)).run Try.prog wx = .ok (.bool true) wx := fun wx => Lib.run_eql_slice_nil wx _ _ _ _ _ _ _ Try.underlying51
    go_enter Try.func46, Try.ntmps46
    go_wp2
    go_ret
    exact ⟨none, 0, rfl, ans_nil (Below.refl _ _)⟩
  | some x =>
    have hrow : Row (w.alloc (.cells #[] 5)) 5 (.slice (some ⟨w.heap.size, 0, none⟩) 0 0) (u8s []) := Row.of_heap (vs := []) (heap_new w _) (by simp)
    obtain ⟨a', c', w', hrun, hr, hb, hf⟩ := append_row_part hrow w.heap.size (by simp) (fun b hb => by simp [Value.ownBlock] at hb; omega) ⟨some x, c, zs⟩ (Part.ok_below hok (balloc w _)) (by simpa using hl) 51
    simp only [List.length_nil, Nat.zero_add, List.nil_append, Part.val] at hrun hr hf
    have HN := hid hrun
    have HA : Hid (Ans w w' zs a' zs.length c') := ⟨hr, hf, (balloc w _).trans hb⟩
    clear hok hl hrow hrun hr hb hf
    have he : ∀ wx : World, (binOp .eql 51 (.slice (some x) zs.length c) (.slice none 0 0)).run Try.prog wx = .ok (.bool false) wx := fun wx => Lib.run_eql_slice_nil wx _ _ _ _ _ _ _ Try.underlying51
    go_enter Try.func46, Try.ntmps46
    go_wp2_with (first | (at_builtin; refine wpList_append_run _ rfl _ _ _ _ rfl _ _ rfl rfl HN.out ?_))
    go_ret
    exact ⟨a', c', rfl, HA⟩
/-- a queue behind a call. -/
structure QI (w w' : World) (b : Nat) (q q' : Value) (dr : Int) (n : Nat) (xs : List Value) : Prop where
  box : w'.heap[b]? = some (.cells #[q', .int .i64 dr] 85 (0, 0))
  row : RowS w' 53 5 q' n xs
  only : Only (fun k => k = b ∨ q.ownBlock = some k) w w'
  loc : ∀ k, q'.ownBlock = some k → q.ownBlock = some k ∨ w.heap.size ≤ k
set_option maxHeartbeats 1000000 in
theorem qsize_any (b : Nat) (a : Option Addr) (n cp : Nat) (w : World) (hc : w.cell? ⟨b, 0, none⟩ = some (.slice a n cp)) :
    Calls Try.prog 26 #[.pointer (some ⟨b, 0, none⟩)] w fun e w' => e = .returned (.int .i64 n) ∧ w' = w := by
  go_enter Try.func26, Try.ntmps26
  go_wp2
  go_ret
  exact ⟨rfl, rfl⟩
theorem infoDg : (Try.prog.info? 53).map (fun i => (i.zero, i.size, i.bytes)) = some (some (.agg #[.int .u32 0, .int .u32 0, .int .i64 0, .int .i64 0, .slice none 0 0]), 5, 48) := by kernel_rfl
theorem rowS_cell_not {w : World} {e t : TypeId} {sz : Nat} {v : Value} {n : Nat} {xs : List Value} {k : Nat} {C : Array Value} {f : Nat × Nat} (h : RowS w e sz v n xs) (hk : w.heap[k]? = some (.cells C t f)) (hne : e ≠ t) : v.ownBlock ≠ some k := fun hg => by
  obtain ⟨cur, hc⟩ := h.obj hg
  rw [hc] at hk
  simp only [Option.some.injEq, Obj.cells.injEq] at hk
  exact hne hk.2.1
set_option maxRecDepth 20000 in
set_option maxHeartbeats 2000000 in
theorem qadd_any (b : Nat) (q : Value) (dr : Int) (n : Nat) (xs : List Value) (d : Dg) (v : Value) (w : World) (hbox : w.heap[b]? = some (.cells #[q, .int .i64 dr] 85 (0, 0))) (hrow : RowS w 53 5 q n xs) (hn : n ≤ 64) (hv : ∃ a l c, v = .slice a l c) :
    Calls Try.prog 47 #[.pointer (some ⟨b, 0, none⟩), .agg (d.cells v).toArray] w fun e w' => e = .returned (.tuple #[]) ∧ ∃ q', Hid (QI w w' b q q' dr (n + 1) (xs ++ d.cells v)) := by
  obtain ⟨va, vl, vc, rfl⟩ := hv
  obtain ⟨qa, qc, rfl, _⟩ := hrow.form
  obtain ⟨si, di, sp, dp, zs⟩ := d
  simp only [Dg.cells]
  have hB : Below w.heap.size w ((w.alloc (.cells #[.int .u32 si, .int .u32 di, .int .i64 sp, .int .i64 dp, .slice va vl vc] 53)).alloc (.cells #[.int .u32 si, .int .u32 di, .int .i64 sp, .int .i64 dp, .slice va vl vc] 53)).drew := (bpush (bpush (Below.refl _ _) _) _).drew
  have hnew : ((w.alloc (.cells #[.int .u32 si, .int .u32 di, .int .i64 sp, .int .i64 dp, .slice va vl vc] 53)).alloc (.cells #[.int .u32 si, .int .u32 di, .int .i64 sp, .int .i64 dp, .slice va vl vc] 53)).drew.heap[w.heap.size + 1]? = some (.cells #[.int .u32 si, .int .u32 di, .int .i64 sp, .int .i64 dp, .slice va vl vc] 53 (0, 0)) := by
    have := heap_new (w.alloc (.cells #[.int .u32 si, .int .u32 di, .int .i64 sp, .int .i64 dp, .slice va vl vc] 53)) (.cells #[.int .u32 si, .int .u32 di, .int .i64 sp, .int .i64 dp, .slice va vl vc] 53)
    rw [World.size_alloc] at this
    exact this
  obtain ⟨q', w7, hrun, hr7, hgr, hloc⟩ := append_s 81 81 53 _ 5 48 Try.underlying81 infoDg rfl (by omega) (hrow.below hB) ⟨w.heap.size + 1, 0, none⟩ 1 1 [.int .u32 si, .int .u32 di, .int .i64 sp, .int .i64 dp, .slice va vl vc] (by simp)
    (fun j u hj => by
      rw [show (⟨w.heap.size + 1, 0, none⟩ : Addr).add j = ⟨w.heap.size + 1, j, none⟩ from by unfold Addr.add; split <;> simp_all, cell_of_heap hnew, ← Array.getElem?_toList]
      exact hj)
    (fun u hu => by simp at hu; rcases hu with rfl | rfl | rfl | rfl | rfl <;> rfl) (by unfold maxLen; omega) (by omega)
  obtain ⟨qa', qc', rfl, _⟩ := hr7.form
  have hbW := kept hbox hB
  have hnb : (Value.slice qa n qc).ownBlock ≠ some b := rowS_cell_not hrow hbox (by decide)
  have hb7 : w7.heap[b]? = some (.cells #[.slice qa n qc, .int .i64 dr] 85 (0, 0)) := (hgr.block b (heap_lt hbW) (fun e => hnb e.symm)).trans hbW
  have hnb' : (Value.slice qa' (n + 1) qc').ownBlock ≠ some b := rowS_cell_not hr7 hb7 (by decide)
  have HQ : Hid (QI w (w7.setCell ⟨b, 0, none⟩ (.slice qa' (n + 1) qc')) b (.slice qa n qc) (.slice qa' (n + 1) qc') dr (n + 1) (xs ++ [.int .u32 si, .int .u32 di, .int .i64 sp, .int .i64 dp, .slice va vl vc])) := by
    refine ⟨?_, hr7.keep fun g hg => Below.heap_setCell _ _ _ _ (fun e => hnb' (by rw [hg, show g = b from e])), ?_, fun k hk => ?_⟩
    · have := heap_setCell (j := 0) (v := .slice qa' (n + 1) qc') hb7
      simpa using this
    · refine (Only.of_below hB).trans (Only.trans (K := fun k => k = b ∨ (Value.slice qa n qc).ownBlock = some k) ((Only.grown hgr).mono fun k hk => Or.inr hk) (Only.of_but (But.setCell _ _ _ _) (Or.inl rfl)))
    · rcases hloc k hk with h | h
      · exact Or.inl h
      · have := hB.size; exact Or.inr (by omega)
  have hc0 : w.cell? ⟨b, 0, none⟩ = some (.slice qa n qc) := by rw [cell_of_heap hbox]; rfl
  have hc1 : ((w.alloc (.cells #[.int .u32 si, .int .u32 di, .int .i64 sp, .int .i64 dp, .slice va vl vc] 53))).drew.cell? ⟨b, 0, none⟩ = some (.slice qa n qc) := by rw [cell_of_heap (kept hbox ((bpush (Below.refl _ _) _).drew))]; rfl
  have hc7 : w7.cell? ⟨b, 0, none⟩ = some (.slice qa n qc) := by rw [cell_of_heap hb7]; rfl
  have hf7 : w7.frozen? ⟨b, 0, none⟩ = false := frozen_of_heap hb7 _
  have HRUN := hid hrun
  have hbl := heap_lt hbox
  clear hbox hrow hB hnew hrun hr7 hgr hloc hbW hnb hnb' hb7
  go_enter Try.func47, Try.ntmps47
  go_wp2
  go_region_law (refine step_append_run rfl (.tmp 8) (.tmp 10) 81 81 rfl _ _ rfl rfl HRUN.out ?_)
  all_goals go_wp2
  all_goals exact bodyPost_end (v := .tuple #[]) (by simp [results, Try.results47, go_sem]) rfl ⟨rfl, _, HQ⟩
end Go.Proofs.Ythipdchdbdmmnaa
