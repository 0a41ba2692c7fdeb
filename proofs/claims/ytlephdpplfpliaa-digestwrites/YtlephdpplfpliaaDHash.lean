/-
  A digest under way: what bytes make of it; slices of bytes that are read; what a call leaves alone.
-/
import Derived.Test.YtlephdpplfpliaaDMix
import Derived.Laws.CopyOwn
namespace Go.Proofs.Ytlephdpplfpliaa
open Go.RowKit
set_option linter.unusedVariables false

/-- a digest under way: the words, the block (whose bytes behind the written ones are old), how many bytes came. -/
structure HS where
  st : St
  buf : List Int
  n : Nat
def HS.cells (x : HS) : List Value := u32s x.st.l ++ (u8s x.buf ++ [Value.int .i64 x.n])
def HS.ok (x : HS) : Prop := x.st.ok ∧ x.buf.length = 64 ∧ ∀ z, z ∈ x.buf → 0 ≤ z ∧ z ≤ 255
/-- a byte comes. -/
def put1 (x : HS) (z : Int) : HS :=
  ⟨if (x.n + 1) % 64 = 0 then comp x.st (x.buf.set (x.n % 64) z) else x.st, x.buf.set (x.n % 64) z, x.n + 1⟩
def absorb (x : HS) (zs : List Int) : HS := zs.foldl put1 x
theorem absorb_app (x : HS) (a b : List Int) : absorb x (a ++ b) = absorb (absorb x a) b := by simp [absorb, List.foldl_append]
theorem put1_ok (x : HS) (z : Int) (h : x.ok) (hz : 0 ≤ z ∧ z ≤ 255) : (put1 x z).ok := by
  refine ⟨?_, by simp [put1, h.2.1], ?_⟩
  · simp only [put1]; split
    · exact comp_ok _ _
    · exact h.1
  · intro y hy
    rcases List.mem_or_eq_of_mem_set hy with h1 | h1
    · exact h.2.2 y h1
    · rw [h1]; exact hz
theorem absorb_ok : ∀ (zs : List Int) (x : HS), x.ok → (∀ z, z ∈ zs → 0 ≤ z ∧ z ≤ 255) → (absorb x zs).ok
  | [], x, h, _ => h
  | z :: r, x, h, hz => absorb_ok r (put1 x z) (put1_ok x z h (hz z (by simp))) (fun y hy => hz y (by simp [hy]))
theorem absorb_n : ∀ (zs : List Int) (x : HS), (absorb x zs).n = x.n + zs.length
  | [], x => rfl
  | z :: r, x => by
    have := absorb_n r (put1 x z)
    simp only [absorb, List.foldl_cons, List.length_cons] at this ⊢
    rw [this]; simp [put1]; omega
theorem splice_cons {α : Type} (L : List α) (p : Nat) (z : α) (r : List α) (h : p < L.length) : splice L p (z :: r) = splice (L.set p z) (p + 1) r := by
  unfold splice
  rw [List.take_succ_eq_append_getElem (by simpa using h)]
  simp only [List.length_cons, List.getElem_set_self, List.take_set_of_le (Nat.le_refl p), List.cons_append, List.append_assoc, List.nil_append]
  rw [List.drop_set_of_lt (by omega)]
  congr 3
  congr 1; omega
/-- bytes that do not go beyond the block's end, at once. -/
theorem absorb_chunk : ∀ (cs : List Int) (x : HS), x.buf.length = 64 → x.n % 64 + cs.length ≤ 64 →
    absorb x cs = ⟨if cs ≠ [] ∧ (x.n + cs.length) % 64 = 0 then comp x.st (splice x.buf (x.n % 64) cs) else x.st, splice x.buf (x.n % 64) cs, x.n + cs.length⟩
  | [], x, _, _ => by simp [absorb, splice]
  | [z], x, hb, h => by
    have e : splice x.buf (x.n % 64) [z] = x.buf.set (x.n % 64) z := by rw [splice_cons _ _ _ _ (by rw [hb]; omega)]; simp [splice]
    rw [e]
    simp [absorb, put1]
  | z :: y :: r, x, hb, h => by
    simp only [List.length_cons] at h
    have hn : ¬ (x.n + 1) % 64 = 0 := by omega
    have hm : (x.n + 1) % 64 = x.n % 64 + 1 := by omega
    have e : put1 x z = ⟨x.st, x.buf.set (x.n % 64) z, x.n + 1⟩ := by simp [put1, hn]
    have ih := absorb_chunk (y :: r) (put1 x z) (by simp [put1, hb]) (by rw [e]; simp only [List.length_cons]; omega)
    rw [splice_cons _ _ _ _ (by rw [hb]; omega)]
    show absorb (put1 x z) (y :: r) = _
    rw [ih, e]
    simp only [hm, List.length_cons]
    have e2 : x.n + 1 + (r.length + 1) = x.n + (r.length + 1 + 1) := by omega
    rw [e2]
    simp

/-- a slice of bytes that is only read. -/
structure Part where
  a : Option Addr
  c : Nat
  zs : List Int
def Part.val (p : Part) : Value := .slice p.a p.zs.length p.c
def Part.nil : Part := ⟨none, 0, []⟩
def Part.ok (w : World) (p : Part) : Prop :=
  (∀ z, z ∈ p.zs → 0 ≤ z ∧ z ≤ 255) ∧ p.zs.length ≤ p.c ∧ (p.zs = [] ∨ ∃ b o, p.a = some ⟨b, o, none⟩ ∧ ∀ j, j < p.zs.length → w.cell? ⟨b, o + j, none⟩ = some (.int .u8 (p.zs.getD j 0)))
/-- it does not lie in block g. -/
def Part.off (g : Nat) (p : Part) : Prop := p.zs = [] ∨ ∀ b o, p.a = some ⟨b, o, none⟩ → b ≠ g
/-- the slice from l on. -/
def Part.from (p : Part) (l : Nat) : Part := ⟨if p.c = l then p.a else p.a.map (·.add l), p.c - l, p.zs.drop l⟩
theorem Part.from_ok {p : Part} {w : World} (h : p.ok w) (l : Nat) (hl : l ≤ p.zs.length) : (p.from l).ok w := by
  refine ⟨fun z hz => h.1 z (List.mem_of_mem_drop hz), by have := h.2.1; simp [Part.from]; omega, ?_⟩
  rcases h.2.2 with he | ⟨b, o, ha, hc⟩
  · left; simp [Part.from, he]
  · by_cases hd : p.zs.length = l
    · left; simp [Part.from]; omega
    · right
      have hne : ¬ p.c = l := by have := h.2.1; omega
      refine ⟨b, o + l, by simp [Part.from, hne, ha, Addr.add_mid], fun j hj => ?_⟩
      have hj' : j + l < p.zs.length := by simp [Part.from] at hj; omega
      rw [show o + l + j = o + (l + j) by omega, hc (l + j) (by omega)]
      simp [Part.from, List.getD_eq_getElem?_getD]
theorem Part.from_off {p : Part} {g : Nat} (h : p.off g) (l : Nat) (w : World) (hok : p.ok w) (hl : l ≤ p.zs.length) : (p.from l).off g := by
  rcases h with h | h
  · left; simp [Part.from, h]
  · by_cases hd : p.zs.length = l
    · left; simp [Part.from]; omega
    · right
      rcases hok.2.2 with he | ⟨b, o, ha, hc⟩
      · rw [he] at hl hd; simp at hl hd; omega
      · have hne : ¬ p.c = l := by have := hok.2.1; omega
        intro b' o' e
        simp [Part.from, hne, ha, Addr.add_mid] at e
        rw [← e.1]
        exact h b o ha
theorem part_slice (p : Part) (l : Nat) (hl : l ≤ p.zs.length) (w : World) (x : Int) (hx : x = l) : (Instr.sliceAt 37 p.val (some (.int .i64 x)) none none).run Try.prog w = .ok (p.from l).val w := by
  subst hx
  obtain ⟨a, c, zs⟩ := p
  have he : Try.prog.info? 5 ≠ none := by intro h; have := sizeU8; rw [h] at this; simp at this
  cases hq : Try.prog.info? 5 with
  | none => exact absurd hq he
  | some i =>
    have hs : i.size = 1 := by have := sizeU8; rw [hq] at this; simpa using this
    have h1 : ¬ zs.length < l := by simp only at hl; omega
    simp [Instr.sliceAt, Instr.slice, run_underlying Try.underlying37, Instr.sliceBounds, Instr.sliceBound, asIntOf, sizeOf, typeInfo, hq, hs, Part.val, Part.from, h1]

/-- block g may have turned, and new ones come. -/
structure But (g : Nat) (w w' : World) : Prop where
  os : w'.os = w.os
  tape : w'.tape = w.tape
  output : w'.output = w.output
  size : w.heap.size ≤ w'.heap.size
  block : ∀ k, k ≠ g → k < w.heap.size → w'.heap[k]? = w.heap[k]?
theorem But.refl (g : Nat) (w : World) : But g w w := ⟨rfl, rfl, rfl, Nat.le_refl _, fun _ _ _ => rfl⟩
theorem But.trans {g : Nat} {a b c : World} (h : But g a b) (k : But g b c) : But g a c :=
  ⟨k.os.trans h.os, k.tape.trans h.tape, k.output.trans h.output, Nat.le_trans h.size k.size, fun i hi hl => (k.block i hi (Nat.lt_of_lt_of_le hl h.size)).trans (h.block i hi hl)⟩
theorem But.of_below {g : Nat} {w w' : World} (h : Below w.heap.size w w') : But g w w' := ⟨h.os, h.tape, h.output, h.size, fun k _ hk => h.block k hk⟩
theorem But.setRow (g : Nat) (w : World) (cs : Array Value) : But g w (w.setRow g cs) := ⟨rfl, rfl, rfl, by simp [World.setRow], fun k hk _ => setRow_other _ _ _ _ hk⟩
theorem But.setCell (g : Nat) (w : World) (o : Nat) (v : Value) : But g w (w.setCell ⟨g, o, none⟩ v) := ⟨rfl, rfl, rfl, by simp [World.setCell], fun k hk _ => Below.heap_setCell _ _ _ _ (by simpa using hk)⟩
theorem But.drew (g : Nat) (w : World) : But g w w.drew := ⟨rfl, rfl, rfl, Nat.le_refl _, fun _ _ _ => rfl⟩
theorem But.cell {g : Nat} {w w' : World} (h : But g w w') {p : Addr} (hp : p.block ≠ g) (hl : p.block < w.heap.size) : w'.cell? p = w.cell? p := World.cell?_of_block (w := w) (h.block p.block hp hl)
theorem But.below {g B : Nat} {w w' : World} (h : But g w w') (hB : B ≤ g) (hs : B ≤ w.heap.size) : Below B w w' := ⟨h.os, h.tape, h.output, h.size, fun k hk => h.block k (by omega) (by omega)⟩
theorem Part.ok_but {p : Part} {g : Nat} {w w' : World} (h : p.ok w) (hf : p.off g) (hb : But g w w') : p.ok w' := by
  refine ⟨h.1, h.2.1, ?_⟩
  rcases h.2.2 with he | ⟨b, o, ha, hc⟩
  · exact Or.inl he
  · rcases hf with he | hf
    · exact Or.inl he
    · refine Or.inr ⟨b, o, ha, fun j hj => ?_⟩
      have := hc j hj
      rw [hb.cell (p := ⟨b, o + j, none⟩) (hf b o ha) (World.block_lt_of_cell? w _ this), this]
theorem Part.ok_below {p : Part} {w w' : World} (h : p.ok w) (hb : Below w.heap.size w w') : p.ok w' := by
  refine ⟨h.1, h.2.1, ?_⟩
  rcases h.2.2 with he | ⟨b, o, ha, hc⟩
  · exact Or.inl he
  · exact Or.inr ⟨b, o, ha, fun j hj => by rw [hb.cell (p := ⟨b, o + j, none⟩) (World.block_lt_of_cell? w _ (hc j hj)), hc j hj]⟩
/-- 'x[l:]', in a walk. -/
theorem wpList_slice_run {P : Program} {ops : Array Oper} {rest : List Oper} {o : Oper} {a : Act} {w : World} {Q : Exit → Act → World → Prop} (hgd : o.guard = none) (t : TypeId) (x lo : Operand) (ho : o.op = .slice t x (some lo) none none) (v : Value)
    (hr : (Instr.sliceAt t (a.eval x) (some (a.eval lo)) none none).run P w = .ok v w) (h : wpList P ops Q rest (a.put o.dst v) w) : wpList P ops Q (o :: rest) a w :=
  wpList_plain hgd fun K hK => by
    unfold Oper.wp execOp
    simp only [ho, Option.map, Sem.run_bind, Sem.run_pure, hr, Result.andThen_ok]
    exact hK _ _ h
end Go.Proofs.Ytlephdpplfpliaa
