/-
  The statements' lent: parts in memory of their own.
-/
import Derived.Test.YtlephdpplfpliaaDNew
import Derived.Test.YtlephdpplfpliaaBOwnP
namespace Go.Proofs.Ytlephdpplfpliaa
open Go.RowKit
set_option linter.all false

theorem infoSlD : (Try.prog.info? 37).map (fun i => (i.zero, i.size, i.bytes)) = some (some (.slice none 0 0), 1, 24) := by kernel_rfl
/-- the value of a part that was lent. -/
def lval (ls : List (Nat × Nat)) (ps : List Part) (i : Nat) : Value := .slice (some ⟨(ls.getD i (0, 0)).1, 0, none⟩) (ps.getD i Part.nil).zs.length (ls.getD i (0, 0)).2
def lvals (ls : List (Nat × Nat)) (ps : List Part) (k : Nat) : List Value := (List.range k).map (lval ls ps)
structure LentI (w wr : World) (v : Value) (ls : List (Nat × Nat)) (ps : List Part) (k : Nat) : Prop where
  len : ls.length = k
  row : Bk.Row wr 37 v (lvals ls ps k)
  all : ∀ i, i < k → Bk.Row wr 5 (.slice (some ⟨(ls.getD i (0, 0)).1, 0, none⟩) ((ps.getD i Part.nil).zs.length + 2) (ls.getD i (0, 0)).2) (Bk.u8s ((ps.getD i Part.nil).zs ++ [201, 202]))
  own : ∀ i, i < k → w.heap.size ≤ (ls.getD i (0, 0)).1 ∧ v.ownBlock ≠ some (ls.getD i (0, 0)).1 ∧ ∀ j, j < k → j ≠ i → (ls.getD j (0, 0)).1 ≠ (ls.getD i (0, 0)).1
  vown : ∀ b, v.ownBlock = some b → w.heap.size ≤ b
  bel : Below w.heap.size w wr
theorem LentI.start (w : World) (ps : List Part) : LentI w w (.slice none 0 0) [] ps 0 := ⟨rfl, Bk.Row.nil _ _, by intro i h; omega, by intro i h; omega, by simp [Value.ownBlock], Below.refl _ _⟩
theorem LentI.below {w wr w' : World} {v : Value} {ls : List (Nat × Nat)} {ps : List Part} {k : Nat} (h : LentI w wr v ls ps k) (hb : Below wr.heap.size wr w') : LentI w w' v ls ps k :=
  ⟨h.len, h.row.below hb, fun i hi => (h.all i hi).below hb, h.own, h.vown, h.bel.trans (hb.mono h.bel.size)⟩
theorem getD_lo (ls : List (Nat × Nat)) (x : Nat × Nat) (i : Nat) (h : i < ls.length) : (ls ++ [x]).getD i (0, 0) = ls.getD i (0, 0) := by
  simp [List.getD_eq_getElem?_getD, List.getElem?_append_left h]
theorem getD_hi (ls : List (Nat × Nat)) (x : Nat × Nat) : (ls ++ [x]).getD ls.length (0, 0) = x := by
  simp [List.getD_eq_getElem?_getD]
theorem lvals_snoc (ls : List (Nat × Nat)) (ps : List Part) (k : Nat) (x : Nat × Nat) (h : ls.length = k) : lvals (ls ++ [x]) ps (k + 1) = lvals ls ps k ++ [.slice (some ⟨x.1, 0, none⟩) (ps.getD k Part.nil).zs.length x.2] := by
  unfold lvals
  rw [List.range_succ, List.map_append]
  congr 1
  · apply List.map_congr_left
    intro i hi
    have : i < ls.length := by rw [h]; simpa using hi
    simp only [lval, getD_lo ls x i this]
  · subst h
    simp only [List.map_cons, List.map_nil, lval, getD_hi]
theorem bpart {pt : Part} {w : World} (h : pt.ok w) : Bk.Part.ok w ⟨pt.a, pt.c, pt.zs⟩ := h
theorem LentI.next {w wr : World} {v : Value} {ls : List (Nat × Nat)} {ps : List Part} {k : Nat} (h : LentI w wr v ls ps k) (hok : (ps.getD k Part.nil).ok w) (hk : k < 2147483648) (hl : (ps.getD k Part.nil).zs.length ≤ 2147483648) :
    ∃ a1 l1 c1 w1 g c w2 gv cv w3,
      (Builtin.append_ #[37, 37] 37 #[.slice none 0 0, (ps.getD k Part.nil).val]).run Try.prog wr = .ok (.slice a1 l1 c1) w1 ∧
      (Builtin.append_ #[37, 37] 37 #[.slice a1 l1 c1, .slice (some ⟨w1.heap.size, 0, none⟩) 2 2]).run Try.prog (w1.alloc (.cells #[.int .u8 201, .int .u8 202] 5)) = .ok (.slice (some ⟨g, 0, none⟩) ((ps.getD k Part.nil).zs.length + 2) c) w2 ∧ (ps.getD k Part.nil).zs.length + 2 ≤ c ∧
      (Builtin.append_ #[22, 22] 22 #[v, .slice (some ⟨w2.heap.size, 0, none⟩) 1 1]).run Try.prog (w2.alloc (.cells #[.slice (some ⟨g, 0, none⟩) (ps.getD k Part.nil).zs.length c] 37)) = .ok (.slice (some ⟨gv, 0, none⟩) (k + 1) cv) w3 ∧
      Below w.heap.size w w2 ∧ LentI w w3 (.slice (some ⟨gv, 0, none⟩) (k + 1) cv) (ls ++ [(g, c)]) ps (k + 1) := by
  obtain ⟨zs, hzs⟩ : ∃ zs, zs = (ps.getD k Part.nil).zs := ⟨_, rfl⟩
  have hs := h.bel.size
  have okr : (ps.getD k Part.nil).ok wr := Part.ok_below hok h.bel
  obtain ⟨v1, w1, r1, row1, gr1, own1⟩ := Bk.append_part (w := wr) (v := .slice none 0 0) (zs := []) (by exact Bk.Row.nil _ _) ⟨(ps.getD k Part.nil).a, (ps.getD k Part.nil).c, (ps.getD k Part.nil).zs⟩ (bpart okr) (by simp only [List.length_nil]; omega) 37
  have r1' : (Builtin.append_ #[37, 37] 37 #[.slice none 0 0, (ps.getD k Part.nil).val]).run Try.prog wr = .ok v1 w1 := r1
  simp only [List.nil_append] at row1
  obtain ⟨a1, c1, e1, _⟩ := row1.form
  have b1 : Below wr.heap.size wr w1 := ⟨gr1.os, gr1.tape, gr1.output, gr1.size, fun q hq => gr1.block q hq (by simp [Value.ownBlock])⟩
  have own1' : ∀ b, v1.ownBlock = some b → wr.heap.size ≤ b := fun b hb => by
    rcases own1 with e | e
    · rw [e] at hb; simp [Value.ownBlock] at hb
    · exact e b hb
  have bw1 : Below w1.heap.size w1 (w1.alloc (.cells #[.int .u8 201, .int .u8 202] 5)) := (Below.refl _ _).alloc (Nat.le_refl _) _
  have ok2 : Bk.Part.ok (w1.alloc (.cells #[.int .u8 201, .int .u8 202] 5)) ⟨some ⟨w1.heap.size, 0, none⟩, 2, [201, 202]⟩ := Bk.Part.of_row (zs := [201, 202]) (Bk.heap_new w1 _) (by simp) (by simp)
  obtain ⟨v2, w2, r2, row2, gr2, own2⟩ := Bk.append_part (row1.below bw1) ⟨some ⟨w1.heap.size, 0, none⟩, 2, [201, 202]⟩ ok2 (by simp only [List.length_cons, List.length_nil]; omega) 37
  simp only at row2
  have hs1 := b1.size
  have own2' : ∀ b, v2.ownBlock = some b → wr.heap.size ≤ b := fun b hb => by
    rcases own2 with e | e
    · rw [e] at hb; exact own1' b hb
    · have := e b hb; simp at this; omega
  have row2' := row2
  rcases row2' with ⟨_, hn⟩ | ⟨g, c, cur, lo, hi, e2, hg2, _, hlc, _⟩
  · simp [Bk.u8s] at hn
  · rw [Bk.u8s_len, List.length_append] at e2 hlc
    simp only [List.length_cons, List.length_nil, Nat.zero_add] at e2 hlc
    subst e2
    have b2 : Below wr.heap.size wr w2 := (b1.trans (bw1.mono hs1)).trans ⟨gr2.os, gr2.tape, gr2.output, gr2.size, fun q hq => gr2.block q (by simp; omega) (fun e => by have := own1' q e.symm; omega)⟩
    have hgw : wr.heap.size ≤ g := own2' g rfl
    have hgl2 : g < w2.heap.size := row2.lt rfl
    have hx : (Value.slice (some ⟨g, 0, none⟩) (ps.getD k Part.nil).zs.length c).oneCell' = true := rfl
    have bw2 : Below w2.heap.size w2 (w2.alloc (.cells #[.slice (some ⟨g, 0, none⟩) (ps.getD k Part.nil).zs.length c] 37)) := (Below.refl _ _).alloc (Nat.le_refl _) _
    have b2' : Below wr.heap.size wr (w2.alloc (.cells #[.slice (some ⟨g, 0, none⟩) (ps.getD k Part.nil).zs.length c] 37)) := b2.trans (bw2.mono b2.size)
    have hlen : (lvals ls ps k).length = k := by simp [lvals]
    obtain ⟨v3, w3, r3, row3, gr3, form3⟩ := Bk.append_one 22 22 37 _ 24 Try.underlying22 infoSlD rfl (h.row.below b2') (.slice (some ⟨g, 0, none⟩) (ps.getD k Part.nil).zs.length c) hx w2.heap.size _ (Bk.heap_new w2 _) (by rw [hlen]; unfold maxLen; omega) (by rw [hlen]; omega)
    rw [hlen] at form3
    have hv3 : ∃ gv cv, v3 = .slice (some ⟨gv, 0, none⟩) (k + 1) cv ∧ (v.ownBlock = some gv ∨ w2.heap.size + 1 ≤ gv) := by
      rcases form3 with ⟨g1, cap, e4, e5⟩ | ⟨g1, cap, e5, e6, _⟩
      · exact ⟨g1, cap, e5, Or.inl (by rw [e4]; rfl)⟩
      · exact ⟨g1, cap, e5, Or.inr (by simpa using e6)⟩
    obtain ⟨gv, cv, rfl, hgv⟩ := hv3
    have nvg : v.ownBlock ≠ some g := fun e => by have := h.row.lt e; omega
    have s2 := b2.size
    have s3 : w2.heap.size + 1 ≤ w3.heap.size := by have := gr3.size; simpa using this
    have old3 : ∀ q, q < w2.heap.size → v.ownBlock ≠ some q → w3.heap[q]? = w2.heap[q]? := fun q hq hn => (gr3.block q (by simp; omega) (fun e => hn e.symm)).trans (Bk.heap_old _ _ hq)
    have hgvg : gv ≠ g := fun e => by
      rcases hgv with h1 | h1
      · exact nvg (e ▸ h1)
      · omega
    have hgi : ∀ i, i < k → (ls.getD i (0, 0)).1 < wr.heap.size := fun i hi => (h.all i hi).lt rfl
    subst e1
    refine ⟨a1, _, c1, w1, g, c, w2, gv, cv, w3, r1', r2, by omega, r3, h.bel.trans (b2.mono hs), ⟨by simp [h.len], ?_, fun i hi => ?_, fun i hi => ?_, fun b hb => ?_, ?_⟩⟩
    · rw [lvals_snoc _ _ _ _ h.len]
      exact row3
    · by_cases hik : i < k
      · rw [getD_lo ls _ i (by rw [h.len]; exact hik)]
        exact (h.all i hik).keep fun b hb => by
          have : b = (ls.getD i (0, 0)).1 := by simpa [Value.ownBlock] using hb.symm
          subst this
          rw [old3 _ (by have := hgi i hik; omega) (h.own i hik).2.1]
          exact b2.block _ (hgi i hik)
      · have : i = ls.length := by rw [h.len]; omega
        subst this
        rw [getD_hi, h.len]
        exact row2.keep fun b hb => by
          have : b = g := by simpa [Value.ownBlock] using hb.symm
          subst this
          exact old3 _ hgl2 nvg
    · by_cases hik : i < k
      · rw [getD_lo ls _ i (by rw [h.len]; exact hik)]
        refine ⟨(h.own i hik).1, fun e => ?_, fun j hj hne => ?_⟩
        · have e' : gv = (ls.getD i (0, 0)).1 := by simpa [Value.ownBlock] using e
          rcases hgv with h1 | h1
          · exact (h.own i hik).2.1 (e' ▸ h1)
          · have := hgi i hik; omega
        · by_cases hjk : j < k
          · rw [getD_lo ls _ j (by rw [h.len]; exact hjk)]
            exact (h.own i hik).2.2 j hjk hne
          · have : j = ls.length := by rw [h.len]; omega
            subst this
            rw [getD_hi]
            have := hgi i hik
            simp only; omega
      · have : i = ls.length := by rw [h.len]; omega
        subst this
        rw [getD_hi]
        refine ⟨by simp only; omega, fun e => hgvg (by simpa [Value.ownBlock] using e), fun j hj hne => ?_⟩
        have hjk : j < k := by rw [h.len] at hne; omega
        rw [getD_lo ls _ j (by rw [h.len]; exact hjk)]
        have := hgi j hjk
        simp only; omega
    · have e' : gv = b := by simpa [Value.ownBlock] using hb
      subst e'
      rcases hgv with h1 | h1
      · exact h.vown _ h1
      · omega
    · refine h.bel.trans ((b2'.mono hs).trans ⟨gr3.os, gr3.tape, gr3.output, gr3.size, fun q hq => gr3.block q (by simp; omega) (fun e => by have := h.vown q e.symm; omega)⟩)
end Go.Proofs.Ytlephdpplfpliaa
