/-
  What Pack has in memory while it lays bytes.
-/
import Derived.Test.YtmdkanbfpmdimaaOPce
import Derived.Test.YtmdkanbfpmdimaaOApt
namespace Go.Proofs.Ytmdkanbfpmdimaa
open Go.RowKit Go.Shelf
set_option linter.all false

/-- an append inside a fence, whose run is known. -/
theorem wpListIn_append_run {F : Fence} {n : Nat} {P : Program} (w : World) {ops : Array Oper} {rest : List Oper} {o : Oper} {a : Act} {Q : Exit → Act → World → Prop} (hgd : o.guard = none) (d s : Operand) (t t' : TypeId)
    (ho : o.op = .call { callee := .builtin .append, args := #[d, s], argTypes := #[t, t'] }) (v u : Value) (hd : a.eval d = v) (hs : a.eval s = u) {v' : Value} {w' : World}
    (hr : (Builtin.append_ #[t, t'] o.type #[v, u]).run P w = .ok v' w') (h : wpListIn F n P ops Q rest (a.put o.dst v') w') : wpListIn F n P ops Q (o :: rest) a w := by
  refine wpListIn_plain hgd fun K hK' => ?_
  unfold Oper.wpIn
  refine ⟨?_, ?_⟩
  · simp [Oper.about, ho, resolve, Target.leads, Sem.run_pure]
  · rw [Oper.semAt_plain F _ _ (by rw [ho]; intro c hc'; cases hc')]
    simp [execOp, ho, resolve, invoke, builtin, hd, hs, hr, Result.andThen]
    exact hK' _ _ h
/-- cells, and what lies below B, lie as they lay. -/
structure Ck (B : Nat) (W W' : World) : Prop where
  os : W'.os = W.os
  tape : W'.tape = W.tape
  output : W'.output = W.output
  size : W.heap.size ≤ W'.heap.size
  keep : ∀ (k : Nat) (o : Obj), W.heap[k]? = some o → (o.isCells = true ∨ k < B) → W'.heap[k]? = some o
theorem Ck.refl (B : Nat) (W : World) : Ck B W W := ⟨rfl, rfl, rfl, Nat.le_refl _, fun _ _ h _ => h⟩
theorem Ck.trans {B : Nat} {X Y Z : World} (h : Ck B X Y) (k : Ck B Y Z) : Ck B X Z :=
  ⟨k.os.trans h.os, k.tape.trans h.tape, k.output.trans h.output, Nat.le_trans h.size k.size, fun i o hi ho => k.keep i o (h.keep i o hi ho) ho⟩
theorem Ck.below {B : Nat} {W W' : World} (h : Ck B W W') (hB : B ≤ W.heap.size) : Below B W W' := by
  refine ⟨h.os, h.tape, h.output, h.size, fun k hk => ?_⟩
  have hl : k < W.heap.size := by omega
  rw [Array.getElem?_eq_getElem hl]
  exact h.keep k _ (Array.getElem?_eq_getElem hl) (Or.inr hk)
theorem Ck.of_grown {B : Nat} {W W' : World} {row : Option Nat} (hg : W.grownBy W' row) (hr : ∀ r, row = some r → B ≤ r ∧ ∃ o : Obj, W.heap[r]? = some o ∧ o.isCells = false) : Ck B W W' := by
  refine ⟨hg.os, hg.tape, hg.output, hg.size, fun k o hk ho => ?_⟩
  rw [hg.block k (heap_lt hk) (fun e => ?_)]
  · exact hk
  · obtain ⟨h1, o', h2, h3⟩ := hr k e.symm
    rw [hk] at h2
    simp only [Option.some.injEq] at h2
    subst h2
    rcases ho with ho | ho
    · rw [ho] at h3; simp at h3
    · omega
theorem ownFrom_ck {β : Type} {B Bx : Nat} {I : β → World → Prop} (h : ∀ s W W', I s W → Ck B W W' → I s W') (hB : B ≤ Bx) : OwnFrom Bx I := fun s W W' row hs hg hr =>
  h s W W' hs (Ck.of_grown hg fun r e => ⟨Nat.le_trans hB (hr r e).1, (hr r e).2⟩)
/-- marks of loops over functions among the deferred calls. -/
def Marks (B : Nat) (ds : List Deferred) (W : World) : Prop := ∃ Ds : List Nat, ds = Ds.map (fun D => { target := .collected D, args := #[] }) ∧ Ds.Nodup ∧ ∀ D ∈ Ds, B ≤ D ∧ W.heap[D]? = some (.deferred (some []))
theorem Marks.nil (B : Nat) (W : World) : Marks B [] W := ⟨[], rfl, by simp, by simp⟩
theorem Marks.keep {B : Nat} {ds : List Deferred} {W W' : World} (h : Marks B ds W) (hk : KeepsOthers W W') : Marks B ds W' := by
  obtain ⟨Ds, e, hn, hd⟩ := h
  exact ⟨Ds, e, hn, fun D hD => ⟨(hd D hD).1, hk.same D _ (hd D hD).2 rfl⟩⟩
theorem Marks.push {B D : Nat} {ds : List Deferred} {W W' : World} (h : Marks B ds W) (hk : KeepsFrom 0 W W') (hB : B ≤ W.heap.size) (hD : W.heap.size ≤ D) (hd : W'.heap[D]? = some (.deferred (some []))) : Marks B ({ target := .collected D, args := #[] } :: ds) W' := by
  obtain ⟨Ds, e, hn, hds⟩ := h
  refine ⟨D :: Ds, by rw [e]; rfl, List.nodup_cons.2 ⟨fun hm => ?_, hn⟩, fun x hx => ?_⟩
  · have := heap_lt (hds D hm).2
    omega
  · rcases List.mem_cons.1 hx with rfl | hx
    · exact ⟨by omega, hd⟩
    · exact ⟨(hds x hx).1, hk.same x _ (Nat.zero_le _) (hds x hx).2 rfl⟩
theorem leaves_marks {n : Nat} {P : Program} {fn : Func} {tmps : Array Value} {R : Ending → World → Prop} {B : Nat} (hB : 0 ≤ B) : ∀ (Ds : List Nat) (W : World), Ds.Nodup → (∀ D ∈ Ds, B ≤ D ∧ W.heap[D]? = some (.deferred (some []))) →
    (∀ W', Ck B W W' → LeavesIn Fence.wide n P fn tmps R [] .returning W') → LeavesInM Fence.wide n P fn tmps R (Ds.map (fun D => { target := .collected D, args := #[] })) .returning W
  | [], W, _, _, hf => hf W (Ck.refl B W)
  | D :: Ds, W, hn, hd, hf => by
    have h0 := (hd D (by simp)).2
    have hn' := List.nodup_cons.1 hn
    have ck : Ck B W (W.putObj D (.deferred none)) := Ck.of_grown (grownBy_putObj' W D _) (fun r e => by cases e; exact ⟨(hd D (by simp)).1, _, h0, rfl⟩)
    refine ⟨by simp, .inl ⟨D, _, rfl, run_takeDeferred h0, ?_⟩⟩
    refine leaves_marks hB Ds _ hn'.2 (fun x hx => ⟨(hd x (by simp [hx])).1, ?_⟩) (fun W' h => hf W' (ck.trans h))
    rw [World.putObj_heap_other (fun e => hn'.1 (by rw [← e]; exact hx))]
    exact (hd x (by simp [hx])).2
theorem Marks.leave {n : Nat} {P : Program} {fn : Func} {tmps : Array Value} {R : Ending → World → Prop} {B : Nat} {ds : List Deferred} {W : World} (h : Marks B ds W) (hf : ∀ W', Ck B W W' → LeavesIn Fence.wide n P fn tmps R [] .returning W') : LeavesInM Fence.wide n P fn tmps R ds .returning W := by
  obtain ⟨Ds, rfl, hn, hd⟩ := h
  exact leaves_marks (Nat.zero_le _) Ds W hn hd hf

/-- an append of bytes, and what it leaves. -/
theorem app_all {w : World} {v : Value} {zs : List Int} (h : Row w 5 v (u8s zs)) (pt : Part) (hok : pt.ok w) (hlen : zs.length + pt.zs.length ≤ 140737488355328) (ty : TypeId) :
    ∃ a' c' w', (Builtin.append_ #[41, 41] ty #[v, pt.val]).run Try.prog w = .ok (.slice a' (zs.length + pt.zs.length) c') w' ∧ Row w' 5 (.slice a' (zs.length + pt.zs.length) c') (u8s (zs ++ pt.zs)) ∧ KeepsOthers w w' ∧
      (∀ (k : Nat) cs t f, w.heap[k]? = some (.cells cs t f) → t ≠ 5 → w'.heap[k]? = some (.cells cs t f)) ∧ (∀ B, B ≤ w.heap.size → (∀ b, v.ownBlock = some b → B ≤ b) → Below B w w' ∧ ∀ b, (Value.slice a' (zs.length + pt.zs.length) c').ownBlock = some b → B ≤ b) := by
  obtain ⟨v', w', h1, h2, h3, h4⟩ := append_part h pt hok hlen ty
  obtain ⟨a', c', hv, _⟩ := h2.form
  rw [u8s_len, List.length_append] at hv
  subst hv
  refine ⟨a', c', w', h1, h2, KeepsOthers.of_grownBy h3 (fun j o ej hj => ?_), fun k cs t f hk ht => ?_, fun B hB hf => ⟨grown_from h3 hf hB, fun b hb => ?_⟩⟩
  · obtain ⟨cur, f, hc⟩ := h.obj ej
    rw [hc] at hj
    simp only [Option.some.injEq] at hj
    subst hj
    rfl
  · rw [h3.block k (heap_lt hk) (fun e => ?_)]
    · exact hk
    · obtain ⟨cur, f', hc⟩ := h.obj e.symm
      rw [hk] at hc
      simp only [Option.some.injEq, Obj.cells.injEq] at hc
      exact ht hc.2.1
  · rcases h4 with h4 | h4
    · exact hf b (by rw [← h4]; exact hb)
    · have := h4 b hb; omega

/-- while bytes are laid: the boxes, and the bytes so far. -/
structure PkI (w0 : World) (gr g4 g5 gb : Nat) (room : Int) (v : Value) (zs : List Int) (W : World) : Prop where
  hr : W.heap[gr]? = some (.cells #[.int .i64 room] 3 (0, 0))
  h4 : W.heap[g4]? = some (.cells #[.slice none 0 0] 41 (0, 0))
  h5 : W.heap[g5]? = some (.cells #[.int .i64 0] 26 (0, 0))
  hb : W.heap[gb]? = some (.cells #[v] 41 (0, 0))
  row : Row W 5 v (u8s zs)
  low : ∀ b, v.ownBlock = some b → w0.heap.size ≤ b
  l4 : g4 ≠ gb
  lo : w0.heap.size ≤ gr ∧ w0.heap.size ≤ g4 ∧ w0.heap.size ≤ g5 ∧ w0.heap.size ≤ gb
  below : Below w0.heap.size w0 W
theorem PkI.of_keep {w0 W W' : World} {gr g4 g5 gb : Nat} {room : Int} {v : Value} {zs : List Int} (h : PkI w0 gr g4 g5 gb room v zs W) (hk : ∀ (k : Nat) cs t f, W.heap[k]? = some (.cells cs t f) → W'.heap[k]? = some (.cells cs t f)) (hb : Below w0.heap.size W W') : PkI w0 gr g4 g5 gb room v zs W' :=
  ⟨hk _ _ _ _ h.hr, hk _ _ _ _ h.h4, hk _ _ _ _ h.h5, hk _ _ _ _ h.hb, h.row.keep (fun b hb => by obtain ⟨cur, f, hc⟩ := h.row.obj hb; rw [hk _ _ _ _ hc, hc]), h.low, h.l4, h.lo, h.below.trans hb⟩
theorem PkI.ck {w0 W W' : World} {gr g4 g5 gb : Nat} {room : Int} {v : Value} {zs : List Int} (h : PkI w0 gr g4 g5 gb room v zs W) (hc : Ck w0.heap.size W W') : PkI w0 gr g4 g5 gb room v zs W' :=
  h.of_keep (fun k cs t f hk => hc.keep k _ hk (Or.inl rfl)) (hc.below h.below.size)
theorem PkI.alloc {w0 W : World} {gr g4 g5 gb : Nat} {room : Int} {v : Value} {zs : List Int} (h : PkI w0 gr g4 g5 gb room v zs W) (o : Obj) : PkI w0 gr g4 g5 gb room v zs (W.alloc o) :=
  h.of_keep (fun k cs t f hk => (heap_old _ _ (heap_lt hk)).trans hk) ((Below.refl _ W).alloc h.below.size o)
theorem keepsOthers_keep {W W' : World} (h : W.grownBy W' none) : KeepsOthers W W' := KeepsOthers.of_grownBy h (fun j o e => by simp at e)
/-- bytes are laid behind the others, and the box holds them. -/
theorem PkI.app {w0 W : World} {gr g4 g5 gb : Nat} {room : Int} {v : Value} {zs : List Int} (h : PkI w0 gr g4 g5 gb room v zs W) (pt : Part) (hok : pt.ok W) (hlen : zs.length + pt.zs.length ≤ 140737488355328) :
    ∃ a c w1, (Builtin.append_ #[41, 41] 41 #[v, pt.val]).run Try.prog W = .ok (.slice a (zs.length + pt.zs.length) c) w1 ∧ w1.cell? ⟨gb, 0, none⟩ = some v ∧ w1.frozen? ⟨gb, 0, none⟩ = false ∧
      Hid (PkI w0 gr g4 g5 gb room (.slice a (zs.length + pt.zs.length) c) (zs ++ pt.zs) (w1.setCell ⟨gb, 0, none⟩ (.slice a (zs.length + pt.zs.length) c)) ∧ KeepsOthers W (w1.setCell ⟨gb, 0, none⟩ (.slice a (zs.length + pt.zs.length) c)) ∧
        ∀ (k : Nat) cs t f, W.heap[k]? = some (.cells cs t f) → t ≠ 5 → k ≠ gb → (w1.setCell ⟨gb, 0, none⟩ (.slice a (zs.length + pt.zs.length) c)).heap[k]? = some (.cells cs t f)) := by
  obtain ⟨a, c, w1, h1, h2, h3, h5, h6⟩ := app_all h.row pt hok hlen 41
  obtain ⟨b1, b2⟩ := h6 w0.heap.size h.below.size h.low
  have hb1 := h5 gb _ _ _ h.hb (by decide)
  have keep : ∀ (k : Nat) cs t f, W.heap[k]? = some (.cells cs t f) → t ≠ 5 → k ≠ gb → (w1.setCell ⟨gb, 0, none⟩ (.slice a (zs.length + pt.zs.length) c)).heap[k]? = some (.cells cs t f) := fun k cs t f hk ht hne => by
    rw [Below.heap_setCell _ _ _ _ (by simpa using hne)]
    exact h5 k cs t f hk ht
  refine ⟨a, c, w1, h1, by rw [cell_of_heap hb1]; rfl, frozen_of_heap hb1 0, ⟨keep _ _ _ _ h.hr (by decide) (fun e => ?_), keep _ _ _ _ h.h4 (by decide) h.l4, keep _ _ _ _ h.h5 (by decide) (fun e => ?_), ?_, ?_, b2, h.l4, h.lo, ?_⟩, h3.trans (KeepsOthers.setCell _ _ _), keep⟩
  · have := h.hr
    rw [e, h.hb] at this
    simp at this
  · have := h.h5
    rw [e, h.hb] at this
    simp at this
  · have := heap_setCell (j := 0) (v := .slice a (zs.length + pt.zs.length) c) hb1
    simpa using this
  · refine h2.grown (grown_setCell w1 gb 0 _) (fun b hb e => ?_)
    simp only [Option.some.injEq] at e
    subst e
    obtain ⟨cur, f, hc⟩ := h2.obj hb
    rw [hb1] at hc
    simp at hc
  · exact (h.below.trans b1).trans ((But.setCell gb w1 0 _).below h.lo.2.2.2 (Nat.le_trans h.below.size b1.size))
end Go.Proofs.Ytmdkanbfpmdimaa
