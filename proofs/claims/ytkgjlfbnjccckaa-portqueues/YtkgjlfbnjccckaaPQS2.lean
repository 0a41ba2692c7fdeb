/-
  Port: PortQueues: a call at one of the three ports.
-/
import Derived.Test.YtkgjlfbnjccckaaPQS
namespace Go.Proofs.Ytkgjlfbnjccckaa
open Go.RowKit
set_option linter.all false

def upd3 {α : Type} (f : Nat → α) (j : Nat) (v : α) (i : Nat) : α := if i = j then v else f i
theorem upd3_at {α : Type} (f : Nat → α) (j : Nat) (v : α) : upd3 f j v j = v := if_pos rfl
theorem upd3_ne {α : Type} (f : Nat → α) {i j : Nat} (v : α) (h : i ≠ j) : upd3 f j v i = f i := if_neg h
section
variable {w0 w w' w1 w2 : World} {c m : Nat} {M D : Int} {S S' : List Pa} {p : Nat} {zs zs' : List Int} {gw gd : Nat} {V : Nat → Value} {X : Nat → Pa} {k k' : Nat}
def sideT (t : TypeId) : Prop := t = 43 ∨ t = 3 ∨ t = 9
theorem LT.only {K : Nat → Prop} (h : LT w0 w c m M D S p zs) (ho : Only K w w') (hK : ∀ b, K b → w0.heap.size ≤ b ∧ ∃ C t f, w.heap[b]? = some (.cells C t f) ∧ sideT t) : LT w0 w' c m M D S p zs := by
  obtain ⟨L, a, cp, h, e⟩ := h
  have hne : ∀ {b : Nat} {C : Array Value} {t : TypeId} {f : Nat × Nat}, w.heap[b]? = some (.cells C t f) → ¬ sideT t → ¬ K b := fun {b C t f} hb ht hk => by
    obtain ⟨_, C', t', f', h1, h2⟩ := hK b hk
    rw [hb] at h1
    simp only [Option.some.injEq, Obj.cells.injEq] at h1
    exact ht (h1.2.1 ▸ h2)
  have hx := h.tab
  refine ⟨L, a, cp, ⟨hx.keep fun b hb => ho.block b ?_ (hx.lt b hb), h.low, ⟨?_, ?_, h.dice.words⟩, h.dlow, h.bel.trans (ho.below (fun b hb => (hK b hb).1) h.bel.size)⟩, e⟩
  · rcases hb with rfl | (rfl | ⟨y, hy, rfl | hq⟩) | hb
    · exact hne hx.box (by unfold sideT; decide)
    · intro hk
      obtain ⟨_, C', t', f', h1, _⟩ := hK b hk
      obtain ⟨es, clock, hm, _⟩ := hx.map
      rw [hm] at h1; simp at h1
    · exact hne (hx.ents y hy).box (by unfold sideT; decide)
    · obtain ⟨cur, hc⟩ := (hx.ents y hy).row.obj hq
      exact hne hc (by unfold sideT; decide)
    · obtain ⟨y, hy, hb⟩ := List.mem_flatMap.1 hb
      obtain ⟨d, hd, hg⟩ := mem_dblk.1 hb
      obtain ⟨cur, f, hc⟩ := ((hx.ents y hy).data d hd).obj hg
      exact hne hc (by unfold sideT; decide)
  · exact (ho.block p (hne h.dice.box (by unfold sideT; decide)) (heap_lt h.dice.box)).trans h.dice.box
  · refine h.dice.row.keep fun b hb => ?_
    obtain ⟨cur, hc⟩ := h.dice.row.cells hb
    exact ho.block b (hne hc (by unfold sideT; decide)) (heap_lt hc)
/-- the three, with one of them turned. -/
theorem QS.fin (h : QS w0 w c m D S p zs gw gd V X k) (hl : LT w0 w1 c m 8 D S' p zs) (hk : Keeps w w1) (j : Nat) (hj : j < 3) (x' : Pa) (hx' : alook S' (100 + j) = some x') (hoth : ∀ i : Nat, i < 3 → i ≠ j → alook S' (100 + i) = some (X i))
    (hdp : ∀ d ∈ x'.ds, d.dp = 100 + j) (hdr : ∀ y ∈ S', y.dr ≤ (k' : Nat)) (v' : Value) (ho : Only (fun b => b = gw ∨ b = gd ∨ (V j).ownBlock = some b) w1 w2)
    (hbw : w2.heap[gw]? = some (.cells #[upd3 V j v' 0, upd3 V j v' 1, upd3 V j v' 2] 43 (0, 0))) (hbd : w2.heap[gd]? = some (.cells #[.int .i64 (upd3 X j x' 0).dr, .int .i64 (upd3 X j x' 1).dr, .int .i64 (upd3 X j x' 2).dr] 3 (0, 0)))
    (hr : RowO w2 9 v' (strs x'.ds)) (hloc : ∀ b, v'.ownBlock = some b → (V j).ownBlock = some b ∨ w1.heap.size ≤ b) : QS w0 w2 c m D S' p zs gw gd (upd3 V j v') (upd3 X j x') k' := by
  have kw := hk _ _ _ _ h.bw (by decide) (by decide) (by decide)
  have kd := hk _ _ _ _ h.bd (by decide) (by decide) (by decide)
  have kv : ∀ i, i < 3 → ∀ b, (V i).ownBlock = some b → ∃ cur, w.heap[b]? = some (.cells cur 9 (0, 0)) ∧ w1.heap[b]? = some (.cells cur 9 (0, 0)) := fun i hi b hb => by
    obtain ⟨cur, hc⟩ := (h.rows i hi).cells hb
    exact ⟨cur, hc, hk _ _ _ _ hc (by decide) (by decide) (by decide)⟩
  have hsz := h.lt.bel.size
  refine ⟨hl.only ho (fun b hb => ?_), hbw, hbd, fun i hi => ?_, fun i hi => ?_, fun i hi d hd => ?_, fun i i' hi hi' hne b hb => ?_, h.lw, h.ld, fun i b hi hb => ?_, hdr, h.zl⟩
  · rcases hb with rfl | rfl | hb
    · exact ⟨h.lw, _, _, _, kw, by unfold sideT; decide⟩
    · exact ⟨h.ld, _, _, _, kd, by unfold sideT; decide⟩
    · obtain ⟨cur, _, hc⟩ := kv j hj b hb
      exact ⟨h.lv j b hj hb, _, _, _, hc, by unfold sideT; decide⟩
  · by_cases e : i = j
    · subst e; rw [upd3_at, upd3_at]; exact hr
    · rw [upd3_ne _ _ e, upd3_ne _ _ e]
      refine (h.rows i hi).keep fun b hb => ?_
      obtain ⟨cur, h1, h2⟩ := kv i hi b hb
      rw [ho.block b (fun hk => ?_) (heap_lt h2), h2, h1]
      rcases hk with rfl | rfl | hk
      · rw [kw] at h2; simp only [Option.some.injEq, Obj.cells.injEq] at h2; exact absurd h2.2.1 (by decide)
      · rw [kd] at h2; simp only [Option.some.injEq, Obj.cells.injEq] at h2; exact absurd h2.2.1 (by decide)
      · exact h.apart i j hi hj e b hb hk
  · by_cases e : i = j
    · subst e; rw [upd3_at]; exact hx'
    · rw [upd3_ne _ _ e]; exact hoth i hi e
  · by_cases e : i = j
    · subst e; rw [upd3_at] at hd; exact hdp d hd
    · rw [upd3_ne _ _ e] at hd; exact h.dps i hi d hd
  · by_cases e : i = j
    · subst e
      rw [upd3_at] at hb
      rw [upd3_ne _ _ (Ne.symm hne)]
      intro hb2
      rcases hloc b hb with h1 | h1
      · exact h.apart i i' hi hi' hne b h1 hb2
      · obtain ⟨cur, _, hc⟩ := kv i' hi' b hb2; have := heap_lt hc; omega
    · rw [upd3_ne _ _ e] at hb
      by_cases e' : i' = j
      · subst e'
        rw [upd3_at]
        intro hb2
        rcases hloc b hb2 with h1 | h1
        · exact h.apart i i' hi hi' hne b hb h1
        · obtain ⟨cur, _, hc⟩ := kv i hi b hb; have := heap_lt hc; omega
      · rw [upd3_ne _ _ e']; exact h.apart i i' hi hi' hne b hb
  · by_cases e : i = j
    · subst e
      rw [upd3_at] at hb
      rcases hloc b hb with h1 | h1
      · exact h.lv i b hi h1
      · have := hl.bel.size; omega
    · rw [upd3_ne _ _ e] at hb; exact h.lv i b hi hb
theorem V3 {α : Type} {f : Nat → α} {j : Nat} {v : α} (hj : j < 3) : (#[f 0, f 1, f 2] : Array α).setIfInBounds j v = #[upd3 f j v 0, upd3 f j v 1, upd3 f j v 2] := by
  rcases j with _ | _ | _ | j
  · rfl
  · rfl
  · rfl
  · omega
/-- Put where no room is left. -/
theorem QS.full (h : QS w0 w c m D S p zs gw gd V X k) (j : Nat) (hj : j < 3) (hl : LT w0 w1 c m 8 D (aput S { X j with dr := (X j).dr + 1 }) p zs) (hk : Keeps w w1) :
    w1.cell? ⟨gd, j, none⟩ = some (.int .i64 (X j).dr) ∧ w1.frozen? ⟨gd, j, none⟩ = false ∧ QS w0 (w1.setCell ⟨gd, j, none⟩ (.int .i64 ((X j).dr + 1))) c m D (aput S { X j with dr := (X j).dr + 1 }) p zs gw gd (upd3 V j (V j)) (upd3 X j { X j with dr := (X j).dr + 1 }) (k + 1) := by
  have kw := hk _ _ _ _ h.bw (by decide) (by decide) (by decide)
  have kd := hk _ _ _ _ h.bd (by decide) (by decide) (by decide)
  obtain ⟨hm, hn⟩ := alook_mem (h.look j hj)
  have hgg : gw ≠ gd := fun e => by rw [e, kd] at kw; simp only [Option.some.injEq, Obj.cells.injEq] at kw; exact absurd kw.2.1 (by decide)
  have hset : But gd w1 (w1.setCell ⟨gd, j, none⟩ (.int .i64 ((X j).dr + 1))) := But.setCell _ _ _ _
  have hV : upd3 V j (V j) = V := by funext i; by_cases e : i = j <;> simp [upd3, e]
  refine ⟨?_, frozen_of_heap kd _, h.fin hl hk j hj { X j with dr := (X j).dr + 1 } (by rw [alook_aput, if_pos hn.symm]) (fun i hi e => by rw [alook_aput, if_neg (by simp only [hn]; omega)]; exact h.look i hi) (fun d hd => h.dps j hj d hd) (fun y hy => ?_) (V j) (Only.of_but hset (Or.inr (Or.inl rfl))) ?_ ?_ ?_ (fun b hb => Or.inl hb)⟩
  · rw [cell_of_heap kd]
    rcases j with _ | _ | _ | j
    · rfl
    · rfl
    · rfl
    · omega
  · rcases mem_aput hy with rfl | hy
    · have := h.drs _ hm; show (X j).dr + 1 ≤ _; omega
    · have := h.drs y hy; omega
  · rw [hV]; exact keptBut kw hset hgg
  · rw [heap_setCell kd]
    have := V3 (f := fun i => Value.int .i64 (X i).dr) (j := j) (v := .int .i64 ((X j).dr + 1)) hj
    rw [this]
    simp only [upd3]
    congr 2
    rcases j with _ | _ | _ | j
    · rfl
    · rfl
    · rfl
    · omega
  · have hr := h.rows j hj
    refine hr.keep fun b hb => ?_
    obtain ⟨cur, hc⟩ := hr.cells hb
    have hc1 := hk _ _ _ _ hc (by decide) (by decide) (by decide)
    rw [hset.block b (fun e => by subst e; rw [kd] at hc1; simp only [Option.some.injEq, Obj.cells.injEq] at hc1; exact absurd hc1.2.1 (by decide)) (heap_lt hc1), hc1, hc]
/-- a slice of strings is laid into its place. -/
theorem QS.lay (h : QS w0 w c m D S p zs gw gd V X k) (j : Nat) (hj : j < 3) (ds' : List Dg) (hl : LT w0 w1 c m 8 D (aput S { X j with ds := ds' }) p zs) (hk : Keeps w w1) (hdp : ∀ d ∈ ds', d.dp = 100 + j) (hw : Only (fun b => (V j).ownBlock = some b) w1 w') (v' : Value)
    (hr : RowO w' 9 v' (strs ds')) (hloc : ∀ b, v'.ownBlock = some b → (V j).ownBlock = some b ∨ w1.heap.size ≤ b) :
    w'.cell? ⟨gw, j, none⟩ = some (V j) ∧ w'.frozen? ⟨gw, j, none⟩ = false ∧ QS w0 (w'.setCell ⟨gw, j, none⟩ v') c m D (aput S { X j with ds := ds' }) p zs gw gd (upd3 V j v') (upd3 X j { X j with ds := ds' }) (k + 1) := by
  have kw := hk _ _ _ _ h.bw (by decide) (by decide) (by decide)
  have kd := hk _ _ _ _ h.bd (by decide) (by decide) (by decide)
  obtain ⟨hm, hn⟩ := alook_mem (h.look j hj)
  have hnb : ∀ {b : Nat} {C : Array Value} {t : TypeId} {f : Nat × Nat}, w1.heap[b]? = some (.cells C t f) → t ≠ 9 → (V j).ownBlock ≠ some b := fun {b C t f} hb ht hv => by
    obtain ⟨cur, hc⟩ := (h.rows j hj).cells hv
    rw [hk _ _ _ _ hc (by decide) (by decide) (by decide)] at hb
    simp only [Option.some.injEq, Obj.cells.injEq] at hb
    exact ht hb.2.1.symm
  have kw' := (hw.block gw (hnb kw (by decide)) (heap_lt kw)).trans kw
  have kd' := (hw.block gd (hnb kd (by decide)) (heap_lt kd)).trans kd
  have hgg : gd ≠ gw := fun e => by rw [e, kw] at kd; simp only [Option.some.injEq, Obj.cells.injEq] at kd; exact absurd kd.2.1 (by decide)
  have hset : But gw w' (w'.setCell ⟨gw, j, none⟩ v') := But.setCell _ _ _ _
  have hX : ∀ i, (upd3 X j { X j with ds := ds' } i).dr = (X i).dr := fun i => by by_cases e : i = j <;> simp [upd3, e]
  refine ⟨?_, frozen_of_heap kw' _, h.fin hl hk j hj { X j with ds := ds' } (by rw [alook_aput, if_pos hn.symm]) (fun i hi e => by rw [alook_aput, if_neg (by simp only [hn]; omega)]; exact h.look i hi) hdp (fun y hy => ?_) v' ((hw.mono fun b hb => Or.inr (Or.inr hb)).trans (Only.of_but hset (Or.inl rfl))) ?_ ?_ ?_ hloc⟩
  · rw [cell_of_heap kw']
    rcases j with _ | _ | _ | j
    · rfl
    · rfl
    · rfl
    · omega
  · rcases mem_aput hy with rfl | hy
    · have := h.drs _ hm; show (X j).dr ≤ _; omega
    · have := h.drs y hy; omega
  · rw [heap_setCell kw', V3 hj]
  · simp only [hX]; exact keptBut kd' hset hgg
  · refine hr.keep fun b hb => hset.block b (fun e => ?_) (hr.lt hb)
    subst e
    obtain ⟨cur, hc⟩ := hr.cells hb
    rw [kw'] at hc; simp only [Option.some.injEq, Obj.cells.injEq] at hc; exact absurd hc.2.1 (by decide)
end
end Go.Proofs.Ytkgjlfbnjccckaa
