/-
  Slices that a call itself has made, of any elements of one cell: what an append of one element does to them. For every seat.
-/
import Derived.Test.YtgcpoanjjgbfjaaBMem
namespace Go.Proofs.Ytgcpoanjjgbfjaa
open Go.RowKit
set_option linter.all false

/-- v is a slice of the values vs, at the head of a block of its own that may be written. -/
def Row (w : World) (e : TypeId) (v : Value) (vs : List Value) : Prop :=
  (v = .slice none 0 0 ∧ vs = []) ∨ ∃ (g cap : Nat) (cur : Array Value) (lo hi : Nat), v = .slice (some ⟨g, 0, none⟩) vs.length cap ∧ w.heap[g]? = some (.cells cur e (lo, hi)) ∧ (cur.size ≤ lo ∨ hi = 0) ∧
    vs.length ≤ cap ∧ cap ≤ maxLen ∧ cur.size = cap ∧ cur.toList.take vs.length = vs
theorem Row.nil (w : World) (e : TypeId) : Row w e (.slice none 0 0) [] := Or.inl ⟨rfl, rfl⟩
theorem Row.of_heap {w : World} {e : TypeId} {g : Nat} {vs : List Value} (h : w.heap[g]? = some (.cells vs.toArray e (0, 0))) (hm : vs.length ≤ maxLen) : Row w e (.slice (some ⟨g, 0, none⟩) vs.length vs.length) vs :=
  Or.inr ⟨g, vs.length, vs.toArray, 0, 0, rfl, h, Or.inr rfl, Nat.le_refl _, hm, by simp, by simp⟩
theorem Row.lt {w : World} {e : TypeId} {v : Value} {vs : List Value} (h : Row w e v vs) {b : Nat} (hb : v.ownBlock = some b) : b < w.heap.size := by
  rcases h with ⟨rfl, _⟩ | ⟨g, cap, cur, lo, hi, rfl, hg, _⟩
  · simp [Value.ownBlock] at hb
  · simp [Value.ownBlock] at hb; subst hb; exact heap_lt hg
theorem Row.keep {w w' : World} {e : TypeId} {v : Value} {vs : List Value} (h : Row w e v vs) (hk : ∀ b, v.ownBlock = some b → w'.heap[b]? = w.heap[b]?) : Row w' e v vs := by
  rcases h with h | ⟨g, cap, cur, lo, hi, rfl, hg, r⟩
  · exact Or.inl h
  · exact Or.inr ⟨g, cap, cur, lo, hi, rfl, (hk g rfl).trans hg, r⟩
theorem Row.below {w w' : World} {e : TypeId} {v : Value} {vs : List Value} (h : Row w e v vs) (hb : Below w.heap.size w w') : Row w' e v vs := h.keep fun b hv => hb.block b (h.lt hv)
theorem Row.grown {w w' : World} {e : TypeId} {v : Value} {vs : List Value} {row : Option Nat} (h : Row w e v vs) (hg : w.grownBy w' row) (hr : ∀ b, v.ownBlock = some b → row ≠ some b) : Row w' e v vs :=
  h.keep fun b hv => hg.block b (h.lt hv) (fun x => hr b hv x.symm)
theorem Row.form {w : World} {e : TypeId} {v : Value} {vs : List Value} (h : Row w e v vs) : ∃ a cap, v = .slice a vs.length cap ∧ vs.length ≤ maxLen := by
  rcases h with ⟨rfl, rfl⟩ | ⟨g, cap, cur, lo, hi, rfl, hg, hf, hl, hm, _⟩
  · exact ⟨none, 0, rfl, by simp⟩
  · exact ⟨_, cap, rfl, by omega⟩
/-- what it reads. -/
theorem Row.cell {w : World} {e : TypeId} {v : Value} {vs : List Value} (h : Row w e v vs) (j : Nat) (hj : j < vs.length) : ∃ (g cap : Nat), v = .slice (some ⟨g, 0, none⟩) vs.length cap ∧ w.cell? ⟨g, j, none⟩ = some vs[j] := by
  rcases h with ⟨_, rfl⟩ | ⟨g, cap, cur, lo, hi, rfl, hg, hf, hl, hm, hs, ht⟩
  · simp at hj
  · refine ⟨g, cap, rfl, ?_⟩
    rw [cell_of_heap hg, ← Array.getElem?_toList]
    have h1 : (cur.toList.take vs.length)[j]? = vs[j]? := by rw [ht]
    rw [List.getElem?_take, if_pos hj] at h1
    rw [h1, List.getElem?_eq_getElem hj]
/-- as bytes that are only read. -/
theorem Row.part {w : World} {e : TypeId} {v : Value} {zs : List Int} (h : Row w e v (u8s zs)) (hz : ∀ z, z ∈ zs → 0 ≤ z ∧ z ≤ 255) : ∃ pt : Part, v = pt.val ∧ pt.zs = zs ∧ pt.ok w := by
  have h0 := h
  rcases h with ⟨rfl, hn⟩ | ⟨g, cap, cur, lo, hi, rfl, hg, hf, hl, hm, hs, ht⟩
  · have : zs = [] := by simpa [u8s] using hn
    subst this
    exact ⟨Part.nil, rfl, rfl, Part.nil_ok w⟩
  · rw [u8s_len] at hl
    refine ⟨⟨some ⟨g, 0, none⟩, cap, zs⟩, by simp [Part.val, u8s_len], rfl, hz, hl, Or.inr ⟨g, 0, rfl, fun j hj => ?_⟩⟩
    obtain ⟨g', cap', hv, hc⟩ := h0.cell j (by rw [u8s_len]; exact hj)
    simp only [Value.slice.injEq, Option.some.injEq, Addr.mk.injEq] at hv
    obtain ⟨⟨rfl, _⟩, _⟩ := hv
    simp only [Nat.zero_add] at hc ⊢
    rw [hc]
    simp only at hj
    simp [u8s, hj]

/-- 'v[j] = x'. -/
theorem Row.set {w : World} {e : TypeId} {a : Option Addr} {n cap : Nat} {vs : List Value} (h : Row w e (.slice a n cap) vs) (j : Nat) (hj : j < vs.length) (x : Value) :
    ∃ g, a = some ⟨g, 0, none⟩ ∧ (∃ u, w.cell? ⟨g, j, none⟩ = some u) ∧ w.frozen? ⟨g, j, none⟩ = false ∧ Row (w.setCell ⟨g, j, none⟩ x) e (.slice a n cap) (vs.set j x) := by
  rcases h with ⟨_, rfl⟩ | ⟨g, cap', cur, lo, hi, hv, hg, hf, hl, hm, hs, ht⟩
  · simp at hj
  · simp only [Value.slice.injEq] at hv
    obtain ⟨rfl, rfl, rfl⟩ := hv
    refine ⟨g, rfl, ⟨cur[j]'(by omega), by rw [cell_of_heap hg, Array.getElem?_eq_getElem (by omega)]⟩, frozen_of_heap' hg hf j (by omega), Or.inr ⟨g, cap, cur.setIfInBounds j x, lo, hi, by simp, heap_setCell hg, by simpa using hf, by simpa using hl, hm, by simpa using hs, ?_⟩⟩
    rw [Array.toList_setIfInBounds, List.length_set, List.take_set, ht]

theorem grown_refl (w : World) (row : Option Nat) : w.grownBy w row := ⟨rfl, rfl, rfl, Nat.le_refl _, fun _ _ _ => rfl⟩
theorem grown_trans {a b c : World} {row row' : Option Nat} (h : a.grownBy b row) (k : b.grownBy c row') (hr : row' = row ∨ ∀ g, row' = some g → a.heap.size ≤ g) : a.grownBy c row :=
  ⟨k.os.trans h.os, k.tape.trans h.tape, k.output.trans h.output, Nat.le_trans h.size k.size, fun i hi hn => by
    rw [k.block i (Nat.lt_of_lt_of_le hi h.size) (fun e => by
      rcases hr with hr | hr
      · exact hn (e.trans hr)
      · have := hr i e.symm; omega)]
    exact h.block i hi hn⟩
theorem grown_below {w w' : World} (h : Below w.heap.size w w') (row : Option Nat) : w.grownBy w' row := ⟨h.os, h.tape, h.output, h.size, fun k hk _ => h.block k hk⟩
theorem grown_alloc (w : World) (o : Obj) (row : Option Nat) : w.grownBy (w.alloc o) row := grown_below ((Below.refl _ _).alloc (Nat.le_refl _) _) row
theorem grown_drewN (w : World) (n : Nat) (row : Option Nat) : w.grownBy (w.drewN n) row := ⟨rfl, rfl, rfl, Nat.le_refl _, fun _ _ _ => rfl⟩
theorem grown_setCell (w : World) (g o : Nat) (v : Value) : w.grownBy (w.setCell ⟨g, o, none⟩ v) (some g) := ⟨rfl, rfl, rfl, by simp [World.setCell], fun k _ hk => Below.heap_setCell _ _ _ _ (by simpa using hk)⟩

/-! ### An append of one element -/
theorem info_three {e : TypeId} {z : Value} {bytes : Nat} (h : (Try.prog.info? e).map (fun i => (i.zero, i.size, i.bytes)) = some (some z, 1, bytes)) : ∃ i, Try.prog.info? e = some i ∧ i.zero = some z ∧ i.size = 1 ∧ i.bytes = bytes := by
  cases hq : Try.prog.info? e with
  | none => rw [hq] at h; simp at h
  | some i =>
    rw [hq] at h
    simp at h
    exact ⟨i, rfl, h.1, h.2.1, h.2.2⟩
theorem append_one (t ty e : TypeId) (z : Value) (bytes : Nat) (ht : Try.prog.underlying t = some (.slice e)) (hinfo : (Try.prog.info? e).map (fun i => (i.zero, i.size, i.bytes)) = some (some z, 1, bytes)) (hzc : z.cells.size = 1)
    {w : World} {v : Value} {vs : List Value} (h : Row w e v vs) (x : Value) (hx : x.oneCell' = true) (gt : Nat) (f : Nat × Nat) (hgt : w.heap[gt]? = some (.cells #[x] e f)) (hml : vs.length + 1 ≤ maxLen) (hlen : (vs.length + 1) * bytes ≤ 140737488355328) :
    ∃ v' w', (Builtin.append_ #[t, t] ty #[v, .slice (some ⟨gt, 0, none⟩) 1 1]).run Try.prog w = .ok v' w' ∧ Row w' e v' (vs ++ [x]) ∧ w.grownBy w' v.ownBlock ∧
      ((∃ g cap, v = .slice (some ⟨g, 0, none⟩) vs.length cap ∧ v' = .slice (some ⟨g, 0, none⟩) (vs.length + 1) cap) ∨ ∃ g cap, v' = .slice (some ⟨g, 0, none⟩) (vs.length + 1) cap ∧ w.heap.size ≤ g ∧ w.grownBy w' none) := by
  obtain ⟨i, hi, hz0, hz1, hz2⟩ := info_three hinfo
  have hnews : ∀ j u, [x][j]? = some u → w.cell? ((⟨gt, 0, none⟩ : Addr).add j) = some u := fun j u hj => by
    have hj0 : j = 0 := by
      rcases Nat.eq_zero_or_pos j with h | h
      · exact h
      · rw [List.getElem?_eq_none (by simp; omega)] at hj; simp at hj
    subst hj0
    simp at hj
    subst hj
    rw [show (⟨gt, 0, none⟩ : Addr).add 0 = ⟨gt, 0, none⟩ from by unfold Addr.add; split <;> simp_all, cell_of_heap hgt]
    rfl
  have of_new : ∀ (v' : Value) (w' : World), w'.ownsRow w.heap.size e 1 v' (vs.length + 1) (vs ++ [x]) → Row w' e v' (vs ++ [x]) ∧ ∃ g cap, v' = .slice (some ⟨g, 0, none⟩) (vs.length + 1) cap ∧ w.heap.size ≤ g := fun v' w' ho => by
    rcases ho.2 with ⟨_, h0⟩ | ⟨g, cap, cur, hv, hB, hg, hl, hm, hs, htk⟩
    · omega
    · refine ⟨Or.inr ⟨g, cap, cur, 0, 0, by rw [hv]; simp, hg, Or.inr rfl, by simpa using hl, hm, by omega, by simpa using htk⟩, g, cap, hv, hB⟩
  rcases h with ⟨rfl, rfl⟩ | ⟨g, cap, cur, lo, hi', rfl, hg, hf, hl, hm, hs, htk⟩
  · obtain ⟨v', w', hrun, hown, hgr, _⟩ := run_append_own (P := Try.prog) w w.heap.size t ty e i z 1 bytes ht hi hz0 hz1 hz2 hzc (by decide) (.slice none 0 0) 0 [] (World.ownsRow_nil w w.heap.size e 1) ⟨gt, 0, none⟩ 1 1 [x] (by simp) hnews (by simpa using hx) (by simpa using hml) (by simpa using hlen) (Nat.le_refl _)
    obtain ⟨h1, h2⟩ := of_new v' w' (by simpa using hown)
    obtain ⟨g, cap, h3, h4⟩ := h2
    exact ⟨v', w', hrun, h1, hgr, Or.inr ⟨g, cap, h3, h4, hgr⟩⟩
  · by_cases hroom : vs.length + 1 ≤ cap
    · have hrun := run_append_room_cells (P := Try.prog) w t ty e i ht hi g 0 vs.length cap ⟨gt, 0, none⟩ 1 1 [x] (by rw [hz1]; simp) hnews (by simpa using hx) hroom
        (fun j hj => by simp at hj; subst hj; rw [hz1, cell_of_heap hg, Array.getElem?_eq_getElem (by omega)]; rfl)
        (fun j hj => by simp at hj; subst hj; rw [hz1]; exact frozen_of_heap' hg hf _ (by omega))
      simp only [hz1, Nat.mul_one, Nat.zero_add, World.setCells] at hrun
      refine ⟨_, _, hrun, Or.inr ⟨g, cap, cur.setIfInBounds vs.length x, lo, hi', by simp, heap_setCell hg, by simpa using hf, by simpa using hroom, hm, by simpa using hs, ?_⟩, grown_setCell w g vs.length x, Or.inl ⟨g, cap, rfl, rfl⟩⟩
      have hl2 : vs.length < cur.toList.length := by simp; omega
      rw [Array.toList_setIfInBounds, List.length_append, List.length_cons, List.length_nil, List.take_succ_eq_append_getElem (by simpa using hl2)]
      simp [List.take_set_of_le, htk]
    · obtain ⟨v', w', hrun, hown, hgr⟩ := run_append_arg_grows (P := Try.prog) w t ty e i z 1 bytes ht hi hz0 hz1 hz2 hzc (by decide) ⟨g, 0, none⟩ vs.length cap vs (by simp)
        (fun j u hj => by
          have hjl : j < vs.length := (List.getElem?_eq_some_iff.1 hj).1
          rw [show (⟨g, 0, none⟩ : Addr).add j = ⟨g, j, none⟩ from by unfold Addr.add; split <;> simp_all, cell_of_heap hg, ← Array.getElem?_toList]
          have h1 : (cur.toList.take vs.length)[j]? = vs[j]? := by rw [htk]
          rw [List.getElem?_take, if_pos hjl] at h1
          rw [h1, hj])
        ⟨gt, 0, none⟩ 1 1 [x] (by simp) hnews (by omega) hml hlen
      obtain ⟨h1, h2⟩ := of_new v' w' (by simpa using hown)
      obtain ⟨g', cap', h3, h4⟩ := h2
      exact ⟨v', w', hrun, h1, ⟨hgr.os, hgr.tape, hgr.output, hgr.size, fun k hk _ => hgr.block k hk (by simp)⟩, Or.inr ⟨g', cap', h3, h4, hgr⟩⟩
/-- an append whose run is known, in a walk, and as a step of a region that draws. -/
theorem wpList_append_run (w : World) {ops : Array Oper} {rest : List Oper} {o : Oper} {a : Act} {Q : Exit → Act → World → Prop} (hgd : o.guard = none) (d s : Operand) (t t' : TypeId)
    (ho : o.op = .call { callee := .builtin .append, args := #[d, s], argTypes := #[t, t'] }) (v u : Value) (hd : a.eval d = v) (hs : a.eval s = u) {v' : Value} {w' : World}
    (hr : (Builtin.append_ #[t, t'] o.type #[v, u]).run Try.prog w = .ok v' w') (h : wpList Try.prog ops Q rest (a.put o.dst v') w') : wpList Try.prog ops Q (o :: rest) a w :=
  wpList_plain hgd fun _ hK => by
    unfold Oper.wp execOp
    simp only [ho, resolve, invoke, builtin, Sem.run_bind, Sem.run_pure, Result.andThen_ok, List.map_toArray, List.map_cons, List.map_nil, hd, hs, hr]
    exact hK _ _ h
theorem step_append_run {ops : Array Oper} {o : Oper} {a : Act} {w : World} {K : Act → World → Prop} {Q : Exit → Act → World → Prop} {E : Prop} (hgd : o.guard = none) (d s : Operand) (t t' : TypeId)
    (ho : o.op = .call { callee := .builtin .append, args := #[d, s], argTypes := #[t, t'] }) (v u : Value) (hd : a.eval d = v) (hs : a.eval s = u) {v' : Value} {w' : World}
    (hr : (Builtin.append_ #[t, t'] o.type #[v, u]).run Try.prog w = .ok v' w') (h : K (a.put o.dst v') w') :
    if Region.wanted o (yielded ops a.tmps) = true then Oper.wp Try.prog o a w K Q else E := by
  have hw : Region.wanted o (yielded ops a.tmps) = true := by simp [Region.wanted, hgd]
  rw [if_pos hw]
  unfold Oper.wp execOp
  simp only [ho, resolve, invoke, builtin, Sem.run_bind, Sem.run_pure, Result.andThen_ok, List.map_toArray, List.map_cons, List.map_nil, hd, hs, hr]
  exact h
end Go.Proofs.Ytgcpoanjjgbfjaa
