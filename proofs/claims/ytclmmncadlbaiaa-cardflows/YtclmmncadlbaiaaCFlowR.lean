/-
  The lists of frames that a flow keeps, in memory.
-/
import Derived.Test.YtclmmncadlbaiaaCFlowM
import Derived.Test.YtclmmncadlbaiaaBBook
namespace Go.Proofs.Ytclmmncadlbaiaa
open Go.RowKit
set_option linter.all false

def strV (zs : List Int) : Value := .string (strOfNums zs)
structure FlowR (w wr : World) (c g h : Nat) (CV LV : Value) (came laid : List (List Int)) : Prop where
  cr : Row wr 9 CV (came.map strV)
  lr : Row wr 9 LV (laid.map strV)
  co : ∀ b, CV.ownBlock = some b → w.heap.size ≤ b ∧ ¬ CardK c g h b
  lo : ∀ b, LV.ownBlock = some b → w.heap.size ≤ b ∧ ¬ CardK c g h b
  cl : ∀ b, CV.ownBlock = some b → LV.ownBlock ≠ some b
  kin : ∀ k, CardK c g h k → w.heap.size ≤ k ∧ k < wr.heap.size
  bel : Below w.heap.size w wr
theorem FlowR.below {w wr w' : World} {c g h : Nat} {CV LV : Value} {came laid : List (List Int)} (x : FlowR w wr c g h CV LV came laid) (hb : Below wr.heap.size wr w') : FlowR w w' c g h CV LV came laid :=
  ⟨x.cr.below hb, x.lr.below hb, x.co, x.lo, x.cl, fun k hk => ⟨(x.kin k hk).1, by have := (x.kin k hk).2; have := hb.size; omega⟩, bstep x.bel hb⟩
theorem FlowR.only {w wr w' : World} {c g h : Nat} {CV LV : Value} {came laid : List (List Int)} (x : FlowR w wr c g h CV LV came laid) (ho : Only (CardK c g h) wr w') : FlowR w w' c g h CV LV came laid :=
  ⟨x.cr.keep fun b hb => ho.block b (x.co b hb).2 (x.cr.lt hb), x.lr.keep fun b hb => ho.block b (x.lo b hb).2 (x.lr.lt hb), x.co, x.lo, x.cl, fun k hk => ⟨(x.kin k hk).1, by have := (x.kin k hk).2; have := ho.size; omega⟩, x.bel.trans (ho.below (fun k hk => (x.kin k hk).1) x.bel.size)⟩
theorem FlowR.swap {w wr : World} {c g h : Nat} {CV LV : Value} {came laid : List (List Int)} (x : FlowR w wr c g h CV LV came laid) : FlowR w wr c g h LV CV laid came :=
  ⟨x.lr, x.cr, x.lo, x.co, fun b h1 h2 => x.cl b h2 h1, x.kin, x.bel⟩
/-- a frame is put behind the first list. -/
theorem FlowR.push {w wr : World} {c g h : Nat} {CV LV : Value} {came laid : List (List Int)} (x : FlowR w wr c g h CV LV came laid) (zs : List Int) (hn : came.length < 4398046511104) :
    ∃ gv cap w', (Builtin.append_ #[36, 36] 36 #[CV, .slice (some ⟨wr.heap.size, 0, none⟩) 1 1]).run Try.prog (wr.alloc (.cells #[strV zs] 9)) = .ok (.slice (some ⟨gv, 0, none⟩) (came.length + 1) cap) w' ∧
      FlowR w w' c g h (.slice (some ⟨gv, 0, none⟩) (came.length + 1) cap) LV (came ++ [zs]) laid ∧ ∀ k, CardK c g h k → w'.heap[k]? = wr.heap[k]? := by
  obtain ⟨v', w', hrun, hrow, hgr, hform⟩ := append_one 36 36 9 _ 16 Try.underlying36 infoStr rfl (x.cr.below (balloc wr (.cells #[strV zs] 9))) (strV zs) rfl wr.heap.size _ (heap_new wr _) (by simp; unfold maxLen; omega) (by simp; omega)
  simp only [List.length_map] at hform
  have hsz : wr.heap.size + 1 ≤ w'.heap.size := by have := hgr.size; simpa using this
  have old : ∀ k, k < wr.heap.size → CV.ownBlock ≠ some k → w'.heap[k]? = wr.heap[k]? := fun k hk hn => (hgr.block k (by simp; omega) (fun e => hn e.symm)).trans (heap_old _ _ hk)
  have hkin : ∀ k, CardK c g h k → w'.heap[k]? = wr.heap[k]? := fun k hk => old k (x.kin k hk).2 (fun e => (x.co k e).2 hk)
  have hnew : ∀ b, v'.ownBlock = some b → CV.ownBlock = some b ∨ wr.heap.size ≤ b := fun b hb => by
    rcases hform with ⟨g1, cap, rfl, rfl⟩ | ⟨g1, cap, rfl, h1, _⟩
    · exact Or.inl hb
    · simp [Value.ownBlock] at hb; subst hb; right; simp at h1; omega
  have hv : ∃ gv cap, v' = .slice (some ⟨gv, 0, none⟩) (came.length + 1) cap := by
    rcases hform with ⟨g1, cap, _, rfl⟩ | ⟨g1, cap, rfl, _⟩
    · exact ⟨g1, cap, rfl⟩
    · exact ⟨g1, cap, rfl⟩
  obtain ⟨gv, cap, rfl⟩ := hv
  refine ⟨gv, cap, w', hrun, ⟨by simpa using hrow, x.lr.keep fun b hb => old b (x.lr.lt hb) (fun e => x.cl b e hb), fun b hb => ?_, x.lo, fun b hb e => ?_, fun k hk => ⟨(x.kin k hk).1, by have := (x.kin k hk).2; omega⟩, ?_⟩, hkin⟩
  · rcases hnew b hb with h1 | h1
    · exact x.co b h1
    · exact ⟨by have := x.bel.size; omega, fun hk => by have := (x.kin b hk).2; omega⟩
  · rcases hnew b hb with h1 | h1
    · exact x.cl b h1 e
    · have := x.lr.lt e; omega
  · have b1 : Below w.heap.size wr (wr.alloc (.cells #[strV zs] 9)) := (Below.refl _ _).alloc x.bel.size _
    exact (x.bel.trans b1).trans ⟨hgr.os, hgr.tape, hgr.output, hgr.size, fun k hk => hgr.block k (by have := x.bel.size; simp; omega) (fun e => by have := (x.co k e.symm).1; omega)⟩
/-- what is read of the first list. -/
theorem FlowR.at {w wr : World} {c g h : Nat} {a : Option Addr} {l cap : Nat} {LV : Value} {came laid : List (List Int)} (x : FlowR w wr c g h (.slice a l cap) LV came laid) (j : Nat) (hj : j < came.length) : ∃ gv, a = some ⟨gv, 0, none⟩ ∧ wr.cell? ⟨gv, j, none⟩ = some (strV (came.getD j [])) := by
  obtain ⟨gv, cap', h1, h2⟩ := x.cr.cell j (by simpa using hj)
  simp only [Value.slice.injEq] at h1
  refine ⟨gv, h1.1, ?_⟩
  rw [h2]
  simp [List.getD_eq_getElem?_getD, hj]
end Go.Proofs.Ytclmmncadlbaiaa
