/-
  The wheel's map in memory, as the list of its timers; what a call leaves alone.
-/
import Derived.Test.YthgcjocjkeieaaaBRow
import Derived.Test.YthgcjocjkeieaaaWInv
import Derived.Maps.Keyed
namespace Go.Proofs.Ythgcjocjkeieaaa
open Go.RowKit
open Go.ChangeMaps (setBlock)
set_option linter.all false

/-- only blocks of K may have turned, and new ones come. -/
structure Only (K : Nat → Prop) (w w' : World) : Prop where
  os : w'.os = w.os
  tape : w'.tape = w.tape
  output : w'.output = w.output
  size : w.heap.size ≤ w'.heap.size
  block : ∀ k, ¬ K k → k < w.heap.size → w'.heap[k]? = w.heap[k]?
theorem Only.refl (K : Nat → Prop) (w : World) : Only K w w := ⟨rfl, rfl, rfl, Nat.le_refl _, fun _ _ _ => rfl⟩
theorem Only.trans {K : Nat → Prop} {a b c : World} (h : Only K a b) (k : Only K b c) : Only K a c :=
  ⟨k.os.trans h.os, k.tape.trans h.tape, k.output.trans h.output, Nat.le_trans h.size k.size, fun i hi hl => (k.block i hi (Nat.lt_of_lt_of_le hl h.size)).trans (h.block i hi hl)⟩
theorem Only.of_but {K : Nat → Prop} {g : Nat} {w w' : World} (h : But g w w') (hg : K g) : Only K w w' := ⟨h.os, h.tape, h.output, h.size, fun k hk hl => h.block k (fun e => hk (e ▸ hg)) hl⟩
theorem Only.of_below {K : Nat → Prop} {w w' : World} (h : Below w.heap.size w w') : Only K w w' := ⟨h.os, h.tape, h.output, h.size, fun k _ hl => h.block k hl⟩
theorem Only.mono {K L : Nat → Prop} {w w' : World} (h : Only K w w') (hk : ∀ k, K k → L k) : Only L w w' := ⟨h.os, h.tape, h.output, h.size, fun k hn hl => h.block k (fun e => hn (hk k e)) hl⟩
/-- K may hold new blocks besides. -/
theorem Only.old {K L : Nat → Prop} {w w' : World} (h : Only K w w') (hk : ∀ k, K k → k < w.heap.size → L k) : Only L w w' := ⟨h.os, h.tape, h.output, h.size, fun k hn hl => h.block k (fun e => hn (hk k e hl)) hl⟩
theorem Only.below {K : Nat → Prop} {B : Nat} {w w' : World} (h : Only K w w') (hk : ∀ k, K k → B ≤ k) (hB : B ≤ w.heap.size) : Below B w w' := ⟨h.os, h.tape, h.output, h.size, fun k hl => h.block k (fun e => by have := hk k e; omega) (by omega)⟩
theorem Only.grown {row : Option Nat} {w w' : World} (h : w.grownBy w' row) : Only (fun k => row = some k) w w' := ⟨h.os, h.tape, h.output, h.size, fun k hk hl => h.block k hl (fun e => hk e.symm)⟩
theorem Only.kept {K : Nat → Prop} {w w' : World} (h : Only K w w') {g : Nat} {o : Obj} (hg : w.heap[g]? = some o) (hk : ¬ K g) : w'.heap[g]? = some o := (h.block g hk (heap_lt hg)).trans hg
theorem balloc (w : World) (o : Obj) : Below w.heap.size w (w.alloc o) := (Below.refl _ _).alloc (Nat.le_refl _) _
theorem cellHeap {w : World} {g : Nat} {C : Array Value} {t : TypeId} {f : Nat × Nat} (h : w.heap[g]? = some (.cells C t f)) (o : Nat) {v : Value} (hv : C[o]? = some v) : w.cell? ⟨g, o, none⟩ = some v := by rw [cell_of_heap h, hv]

/-! ### The map -/
/-- numbers that an int may have. -/
def fits (a : Int) : Prop := -9223372036854775808 ≤ a ∧ a ≤ 9223372036854775807
theorem fits.wf {a : Int} (h : fits a) : (Lit.int .i64 a).wf = true := by
  unfold fits at h
  have h1 : IntKind.i64.min = -9223372036854775808 := by decide
  have h2 : IntKind.i64.max = 9223372036854775807 := by decide
  simp [Lit.wf, h1, h2]
  omega
theorem zeroT (w : World) : (zeroValue 65).run Try.prog w = .ok (.agg #[.int .i64 0, .int .i64 0]) w := by kernel_rfl
theorem keyedT : Maps.Keyed Try.prog 3 := Maps.int_keyed Try.underlying3
def entT (x : Tm) : Value × Value := (.int .i64 x.id, .agg #[.int .i64 x.t, .int .i64 x.tag])
/-- block m is the map of these timers. -/
def MapT (w : World) (m : Nat) (T : List Tm) : Prop := ∃ es clock, w.heap[m]? = some (.map es clock) ∧ es.toList.map (fun e => (e.key, e.val)) = T.map entT ∧ Rising T ∧ ∀ x ∈ T, fits x.id
theorem MapT.keep {w w' : World} {m : Nat} {T : List Tm} (h : MapT w m T) (hk : w'.heap[m]? = w.heap[m]?) : MapT w' m T := by
  obtain ⟨es, clock, h1, h2⟩ := h
  exact ⟨es, clock, hk.trans h1, h2⟩
theorem MapT.lt {w : World} {m : Nat} {T : List Tm} (h : MapT w m T) : m < w.heap.size := by
  obtain ⟨es, clock, h1, h2⟩ := h
  exact heap_lt h1
theorem keyOfI {a : Int} (h : fits a) : keyOf Try.prog 3 (.int .i64 a) = some (.int .i64 a) := Maps.keyOf_int_mk Try.underlying3 h.wf
/-- finding a key. -/
theorem MapT.find {w : World} {es : Array MapEntry} {T : List Tm} (h : es.toList.map (fun e => (e.key, e.val)) = T.map entT) (hr : Rising T) (hf : ∀ x ∈ T, fits x.id) {a : Int} (ha : fits a) :
    ((Instr.findKey 3 (.int .i64 a) es.toList).run Try.prog w = .ok none w ∧ ∀ x ∈ T, x.id ≠ a) ∨
    ∃ j e x, (Instr.findKey 3 (.int .i64 a) es.toList).run Try.prog w = .ok (some (j, e.val)) w ∧ es.toList[j]? = some e ∧ T[j]? = some x ∧ x.id = a ∧ e.val = .agg #[.int .i64 x.t, .int .i64 x.tag] := by
  have hk : ∀ e ∈ es.toList, ∃ l, keyOf Try.prog 3 e.key = some l := fun e he => by
    have h1 : (e.key, e.val) ∈ T.map entT := by rw [← h]; exact List.mem_map.2 ⟨e, he, rfl⟩
    obtain ⟨x, hx, h2⟩ := List.mem_map.1 h1
    simp only [entT, Prod.mk.injEq] at h2
    rw [← h2.1]
    exact ⟨_, keyOfI (hf x hx)⟩
  rcases keyedT.find w (keyOfI ha) es.toList hk with ⟨h1, h2⟩ | ⟨j, e, h1, h2, h3⟩
  · refine Or.inl ⟨h1, fun x hx hxa => ?_⟩
    have h4 : entT x ∈ es.toList.map (fun e => (e.key, e.val)) := by rw [h]; exact List.mem_map.2 ⟨x, hx, rfl⟩
    obtain ⟨e, he, h5⟩ := List.mem_map.1 h4
    simp only [entT, Prod.mk.injEq] at h5
    exact h2 e he (by rw [h5.1, hxa])
  · have h4 : (es.toList.map (fun e => (e.key, e.val)))[j]? = some (e.key, e.val) := by rw [List.getElem?_map, h2]; rfl
    rw [h, List.getElem?_map] at h4
    cases hx : T[j]? with
    | none => rw [hx] at h4; simp at h4
    | some x =>
      rw [hx] at h4
      simp only [Option.map_some, entT, Option.some.injEq, Prod.mk.injEq] at h4
      refine Or.inr ⟨j, e, x, h1, h2, hx, ?_, h4.2.symm⟩
      have := h4.1
      rw [h3] at this
      simpa using this
theorem nokey {T : List Tm} {a : Int} (h : ∀ x ∈ T, x.id ≠ a) : keyT T a = 0 ∧ tagT T a = 0 := by
  unfold keyT tagT
  rw [key_none h]
  exact ⟨rfl, rfl⟩
theorem MapT.look {w : World} {m : Nat} {T : List Tm} (h : MapT w m T) {a : Int} (ha : fits a) :
    (Instr.lookup 50 (.map (some m)) (.int .i64 a) false).run Try.prog w = .ok (.agg #[.int .i64 (keyT T a), .int .i64 (tagT T a)]) w := by
  obtain ⟨es, clock, hm, hT, hr, hf⟩ := h
  rcases MapT.find (w := w) hT hr hf ha with ⟨h1, h2⟩ | ⟨j, e, x, h1, h2, h3, h4, h5⟩
  · have := nokey h2
    simp [Instr.lookup, run_underlying Try.underlying50, MapKept.run_getObj_map hm, keyedT.check w _ (keyOfI ha), h1, zeroT, Result.andThen, this.1, this.2]
  · have hx : x ∈ T := List.mem_of_getElem? h3
    subst h4
    simp [Instr.lookup, run_underlying Try.underlying50, MapKept.run_getObj_map hm, keyedT.check w _ (keyOfI ha), h1, Result.andThen, h5, hr.key hx, hr.tag hx]
def hasT (T : List Tm) (a : Int) : Bool := T.any fun x => x.id == a
theorem hasT_iff {T : List Tm} {a : Int} : hasT T a = true ↔ ∃ x ∈ T, x.id = a := by simp [hasT]
theorem MapT.lookOk {w : World} {m : Nat} {T : List Tm} (h : MapT w m T) {a : Int} (ha : fits a) :
    (Instr.lookup 50 (.map (some m)) (.int .i64 a) true).run Try.prog w = .ok (.tuple #[.agg #[.int .i64 (keyT T a), .int .i64 (tagT T a)], .bool (hasT T a)]) w := by
  obtain ⟨es, clock, hm, hT, hr, hf⟩ := h
  rcases MapT.find (w := w) hT hr hf ha with ⟨h1, h2⟩ | ⟨j, e, x, h1, h2, h3, h4, h5⟩
  · have := nokey h2
    have hn : hasT T a = false := by
      cases hh : hasT T a
      · rfl
      · obtain ⟨x, hx, hxa⟩ := hasT_iff.1 hh
        exact absurd hxa (h2 x hx)
    simp [Instr.lookup, run_underlying Try.underlying50, MapKept.run_getObj_map hm, keyedT.check w _ (keyOfI ha), h1, zeroT, Result.andThen, this.1, this.2, hn]
  · have hx : x ∈ T := List.mem_of_getElem? h3
    have hn : hasT T a = true := hasT_iff.2 ⟨x, hx, h4⟩
    subst h4
    simp [Instr.lookup, run_underlying Try.underlying50, MapKept.run_getObj_map hm, keyedT.check w _ (keyOfI ha), h1, Result.andThen, h5, hr.key hx, hr.tag hx, hn]
theorem heap_setBlock {w : World} {m : Nat} {o p : Obj} (h : w.heap[m]? = some o) : (setBlock w m p).heap[m]? = some p := by
  have := heap_lt h
  simp [setBlock, this]
theorem but_setBlock (w : World) (m : Nat) (o : Obj) : But m w (setBlock w m o) := ⟨rfl, rfl, rfl, by simp [setBlock], fun k hk _ => by
  show (w.heap.setIfInBounds m o)[k]? = _
  rw [Array.getElem?_setIfInBounds_ne (Ne.symm hk)]⟩
theorem MapT.put {w : World} {m : Nat} {T : List Tm} (h : MapT w m T) (x : Tm) (ha : fits x.id) (hn : ∀ y ∈ T, y.id < x.id) :
    ∃ w', (Instr.mapUpdate 50 (.map (some m)) (.int .i64 x.id) (.agg #[.int .i64 x.t, .int .i64 x.tag])).run Try.prog w = .ok () w' ∧ MapT w' m (T ++ [x]) ∧ But m w w' := by
  obtain ⟨es, clock, hm, hT, hr, hf⟩ := h
  rcases MapT.find (w := w) hT hr hf ha with ⟨h1, h2⟩ | ⟨j, e, y, h1, h2, h3, h4, h5⟩
  · refine ⟨setBlock w m (.map (es.push ⟨.int .i64 x.id, .agg #[.int .i64 x.t, .int .i64 x.tag], clock⟩) (clock + 1)), ?_, ⟨_, _, heap_setBlock hm, ?_, ?_, ?_⟩, but_setBlock _ _ _⟩
    · simp [Instr.mapUpdate, run_underlying Try.underlying50, MapKept.run_getObj_map hm, keyedT.check w false (keyOfI ha), h1, MapKept.run_setObj_map _ hm, Result.andThen, setBlock]
    · rw [Array.toList_push, List.map_append, hT, List.map_append]; rfl
    · unfold Rising
      rw [List.pairwise_append]
      exact ⟨hr, by simp, fun y hy z hz => by simp at hz; subst hz; exact hn y hy⟩
    · intro y hy
      rcases List.mem_append.1 hy with hy | hy
      · exact hf y hy
      · simp at hy; subst hy; exact ha
  · have := hn y (List.mem_of_getElem? h3)
    omega
theorem del_none {T : List Tm} {a : Int} (h : ∀ x ∈ T, x.id ≠ a) : del T a = T := List.filter_eq_self.2 fun x hx => by simpa using h x hx
theorem del_idx : ∀ {T : List Tm} {j : Nat} {x : Tm}, Rising T → T[j]? = some x → del T x.id = T.eraseIdx j
  | [], j, x, _, h => by simp at h
  | y :: r, 0, x, hr, h => by
    simp at h
    subst h
    obtain ⟨h1, h2⟩ := List.pairwise_cons.1 hr
    rw [List.eraseIdx_cons_zero]
    unfold del
    rw [List.filter_cons_of_neg (by simp)]
    exact del_none fun x hx => by have := h1 x hx; omega
  | y :: r, j + 1, x, hr, h => by
    obtain ⟨h1, h2⟩ := List.pairwise_cons.1 hr
    simp at h
    have hx : x ∈ r := List.mem_of_getElem? h
    have := h1 x hx
    rw [List.eraseIdx_cons_succ, ← del_idx h2 h]
    unfold del
    rw [List.filter_cons_of_pos (by simp; omega)]
theorem MapT.drop {w : World} {m : Nat} {T : List Tm} (h : MapT w m T) {a : Int} (ha : fits a) (ty : TypeId) :
    ∃ w', (Builtin.delete_ #[50, 3] ty #[.map (some m), .int .i64 a]).run Try.prog w = .ok (.tuple #[]) w' ∧ MapT w' m (del T a) ∧ But m w w' := by
  obtain ⟨es, clock, hm, hT, hr, hf⟩ := h
  rcases MapT.find (w := w) hT hr hf ha with ⟨h1, h2⟩ | ⟨j, e, x, h1, h2, h3, h4, h5⟩
  · refine ⟨setBlock w m (.map es clock), ?_, ⟨_, _, heap_setBlock hm, by rw [del_none h2]; exact hT, by rw [del_none h2]; exact hr, by rw [del_none h2]; exact hf⟩, but_setBlock _ _ _⟩
    simp [Builtin.delete_, run_underlying Try.underlying50, MapKept.run_getObj_map hm, keyedT.check w _ (keyOfI ha), h1, MapKept.run_setObj_map _ hm, Result.andThen, setBlock]
  · subst h4
    have hjs : j < es.size := by simpa using (List.getElem?_eq_some_iff.1 h2).1
    have hsub : (es.eraseIdxIfInBounds j).toList = es.toList.eraseIdx j := by
      unfold Array.eraseIdxIfInBounds
      rw [dif_pos hjs]
      simp
    refine ⟨setBlock w m (.map (es.eraseIdxIfInBounds j) clock), ?_, ⟨_, _, heap_setBlock hm, ?_, hr.del _, fun y hy => hf y (mem_del.1 hy).1⟩, but_setBlock _ _ _⟩
    · simp [Builtin.delete_, run_underlying Try.underlying50, MapKept.run_getObj_map hm, keyedT.check w _ (keyOfI ha), h1, MapKept.run_setObj_map _ hm, Result.andThen, setBlock]
    · rw [hsub, ChangeMaps.map_eraseIdx, hT, del_idx hr h3, ChangeMaps.map_eraseIdx]
theorem MapT.len {w : World} {m : Nat} {T : List Tm} (h : MapT w m T) (ty : TypeId) : (Builtin.len_ #[50] ty #[.map (some m)]).run Try.prog w = .ok (.int .i64 T.length) w := by
  obtain ⟨es, clock, hm, hT, _⟩ := h
  have hl : es.size = T.length := by have := congrArg List.length hT; simpa using this
  simp [Builtin.len_, run_underlying Try.underlying50, MapKept.run_getObj_map hm, goInt, Result.andThen, hl]
/-- the list, read off memory. -/
def decT (p : Value × Value) : Tm := match p with
  | (.int _ i, .agg #[.int _ t, .int _ g]) => ⟨t, i, g⟩
  | _ => ⟨0, 0, 0⟩
def readT (w : World) (m : Nat) : List Tm := match w.heap[m]? with
  | some (.map es _) => es.toList.map fun e => decT (e.key, e.val)
  | _ => []
theorem MapT.read {w : World} {m : Nat} {T : List Tm} (h : MapT w m T) : readT w m = T := by
  obtain ⟨es, clock, hm, hT, _⟩ := h
  have h1 : es.toList.map (fun e => decT (e.key, e.val)) = (es.toList.map (fun e => (e.key, e.val))).map decT := by rw [List.map_map]; rfl
  simp only [readT, hm]
  rw [h1, hT, List.map_map]
  have : (decT ∘ entT) = id := by funext x; rfl
  rw [this, List.map_id]
end Go.Proofs.Ythgcjocjkeieaaa
