/-
  Memory: slices of bytes that are read, what a call leaves alone, bytes as strings, copies. For every seat.
-/
import Derived.Test.YtgcpoanjjgbfjaaRows
import Derived.WalkKit
import Derived.WalkSpells
import Derived.WalkLawsBesides
import Derived.Deep.OwnRows
import Derived.Laws.CopyRow
import Derived.Laws.CopyOwn
import Derived.Laws.IdiomCopy
import Derived.Laws.IdiomStrings
import Derived.Deep.WholeRow
import Derived.Laws.BytesArg
import Derived.Deep.QuietTactic
import Derived.BigQuiet
import Derived.Lib.SlBytesConst
import Derived.ArgAppend
import Derived.Deep.Upon
namespace Go.Proofs.Ytgcpoanjjgbfjaa
open Go.RowKit
set_option linter.all false

theorem hid {p : Prop} (h : p) : Hid p := h
theorem ret_bool {a b : Bool} (h : a = b) : Ending.returned (.bool a) = .returned (.bool b) := by rw [h]
theorem ret_int {k : IntKind} {a b : Int} (h : a = b) : Ending.returned (.int k a) = .returned (.int k b) := by rw [h]
theorem infoU8 : (Try.prog.info? 5).map (fun i => (i.zero, i.size, i.bytes)) = some (some (.int .u8 0), 1, 1) := by kernel_rfl
theorem sizeU8 : (Try.prog.info? 5).map (·.size) = some 1 := by kernel_rfl

/-! ### What a call leaves alone -/
/-- block g may have turned, and new ones come. -/
structure But (g : Nat) (w w' : World) : Prop where
  os : w'.os = w.os
  tape : w'.tape = w.tape
  output : w'.output = w.output
  size : w.heap.size ≤ w'.heap.size
  block : ∀ k, k ≠ g → k < w.heap.size → w'.heap[k]? = w.heap[k]?
theorem But.refl (g : Nat) (w : World) : But g w w := ⟨rfl, rfl, rfl, Nat.le_refl _, fun _ _ _ => rfl⟩
theorem But.trans {g : Nat} {a b c : World} (h : But g a b) (k : But g b c) : But g a c :=
  ⟨k.os.trans h.os, k.tape.trans h.tape, k.output.trans h.output, Nat.le_trans h.size k.size, fun i hi hl => (k.block i hi (Nat.lt_of_lt_of_le hl h.size)).trans (h.block i hi hl)⟩
theorem But.of_below {g : Nat} {w w' : World} (h : Below w.heap.size w w') : But g w w' := ⟨h.os, h.tape, h.output, h.size, fun k _ hk => h.block k hk⟩
theorem But.setRow (g : Nat) (w : World) (cs : Array Value) : But g w (w.setRow g cs) := ⟨rfl, rfl, rfl, by simp [World.setRow], fun k hk _ => setRow_other _ _ _ _ hk⟩
theorem But.setCell (g : Nat) (w : World) (o : Nat) (v : Value) : But g w (w.setCell ⟨g, o, none⟩ v) := ⟨rfl, rfl, rfl, by simp [World.setCell], fun k hk _ => Below.heap_setCell _ _ _ _ (by simpa using hk)⟩
theorem But.drew (g : Nat) (w : World) : But g w w.drew := ⟨rfl, rfl, rfl, Nat.le_refl _, fun _ _ _ => rfl⟩
theorem But.drewN (g : Nat) (w : World) (n : Nat) : But g w (w.drewN n) := ⟨rfl, rfl, rfl, Nat.le_refl _, fun _ _ _ => rfl⟩
theorem But.alloc (g : Nat) (w : World) (o : Obj) : But g w (w.alloc o) := But.of_below ((Below.refl _ _).alloc (Nat.le_refl _) _)
theorem But.cell {g : Nat} {w w' : World} (h : But g w w') {p : Addr} (hp : p.block ≠ g) (hl : p.block < w.heap.size) : w'.cell? p = w.cell? p := World.cell?_of_block (w := w) (h.block p.block hp hl)
theorem But.below {g B : Nat} {w w' : World} (h : But g w w') (hB : B ≤ g) (hs : B ≤ w.heap.size) : Below B w w' := ⟨h.os, h.tape, h.output, h.size, fun k hk => h.block k (by omega) (by omega)⟩
theorem bpush {a w : World} (h : Below a.heap.size a w) (o : Obj) : Below a.heap.size a (w.alloc o) := h.alloc h.size o
theorem bstep {a w w' : World} (h : Below a.heap.size a w) (hb : Below w.heap.size w w') : Below a.heap.size a w' := h.trans (hb.mono h.size)
theorem bbut {g : Nat} {a w w' : World} (h : Below a.heap.size a w) (hb : But g w w') (hg : a.heap.size ≤ g) : Below a.heap.size a w' := h.trans (hb.below hg h.size)

theorem heap_new (w : World) (o : Obj) : (w.alloc o).heap[w.heap.size]? = some o := by
  show (w.heap.push o)[w.heap.size]? = _
  simp
theorem heap_old (w : World) (o : Obj) {g : Nat} (hg : g < w.heap.size) : (w.alloc o).heap[g]? = w.heap[g]? := by
  show (w.heap.push o)[g]? = _
  rw [Array.getElem?_push, if_neg (by omega)]
theorem heap_lt {w : World} {g : Nat} {o : Obj} (h : w.heap[g]? = some o) : g < w.heap.size := (Array.getElem?_eq_some_iff.1 h).1
theorem cell_of_heap {w : World} {g : Nat} {cs : Array Value} {t : TypeId} {f : Nat × Nat} (h : w.heap[g]? = some (.cells cs t f)) (j : Nat) : w.cell? ⟨g, j, none⟩ = cs[j]? := by
  simp [World.cell?, h]
theorem frozen_of_heap {w : World} {g : Nat} {cs : Array Value} {t : TypeId} (h : w.heap[g]? = some (.cells cs t (0, 0))) (j : Nat) : w.frozen? ⟨g, j, none⟩ = false := by
  simp [World.frozen?, h]
theorem frozen_of_heap' {w : World} {g : Nat} {cs : Array Value} {t : TypeId} {lo hi : Nat} (h : w.heap[g]? = some (.cells cs t (lo, hi))) (hf : cs.size ≤ lo ∨ hi = 0) (j : Nat) (hj : j < cs.size) : w.frozen? ⟨g, j, none⟩ = false := by
  simp [World.frozen?, h]; omega
theorem heap_setCell {w : World} {g j : Nat} {cs : Array Value} {t : TypeId} {f : Nat × Nat} {v : Value} (h : w.heap[g]? = some (.cells cs t f)) : (w.setCell ⟨g, j, none⟩ v).heap[g]? = some (.cells (cs.setIfInBounds j v) t f) := by
  simp [World.setCell, Array.getElem?_modify, h]
theorem kept {w w' : World} {g : Nat} {o : Obj} (h : w.heap[g]? = some o) (hb : Below w.heap.size w w') : w'.heap[g]? = some o := (hb.block g (heap_lt h)).trans h
theorem keptBut {w w' : World} {g b : Nat} {o : Obj} (h : w.heap[g]? = some o) (hb : But b w w') (hne : g ≠ b) : w'.heap[g]? = some o := (hb.block g hne (heap_lt h)).trans h

/-- blocks that hold what is listed. -/
def Holds (w : World) (l : List (Nat × Obj)) : Prop := ∀ p, p ∈ l → w.heap[p.1]? = some p.2
theorem Holds.nil (w : World) : Holds w [] := fun p hp => by simp at hp
theorem Holds.cons {w : World} {l : List (Nat × Obj)} {g : Nat} {o : Obj} (h : Holds w l) (hg : w.heap[g]? = some o) : Holds w ((g, o) :: l) := fun p hp => by
  rcases List.mem_cons.1 hp with rfl | hp
  · exact hg
  · exact h p hp
theorem Holds.at {w : World} {l : List (Nat × Obj)} (h : Holds w l) (i : Nat) (g : Nat) (o : Obj) (hi : l[i]? = some (g, o)) : w.heap[g]? = some o := h (g, o) (List.mem_of_getElem? hi)
theorem Holds.lt {w : World} {l : List (Nat × Obj)} (h : Holds w l) {p : Nat × Obj} (hp : p ∈ l) : p.1 < w.heap.size := heap_lt (h p hp)
theorem Holds.below {w w' : World} {l : List (Nat × Obj)} (h : Holds w l) (hb : Below w.heap.size w w') : Holds w' l := fun p hp => kept (h p hp) hb
theorem Holds.but {w w' : World} {l : List (Nat × Obj)} {g : Nat} (h : Holds w l) (hb : But g w w') (hn : ∀ p, p ∈ l → p.1 ≠ g) : Holds w' l := fun p hp => keptBut (h p hp) hb (hn p hp)
theorem Holds.push {w : World} {l : List (Nat × Obj)} (h : Holds w l) (o : Obj) : Holds (w.alloc o) ((w.heap.size, o) :: l) :=
  (h.below ((Below.refl _ _).alloc (Nat.le_refl _) _)).cons (heap_new w o)

/-! ### Bytes -/
def u8s (zs : List Int) : List Value := zs.map (Value.int .u8)
theorem u8s_len (a : List Int) : (u8s a).length = a.length := by simp [u8s]
theorem u8s_app (a b : List Int) : u8s (a ++ b) = u8s a ++ u8s b := by simp [u8s]
theorem u8s_at (zs : List Int) (j : Nat) (h : j < zs.length) : (u8s zs).toArray[j]? = some (.int .u8 (zs.getD j 0)) := by simp [u8s, h]
theorem u8s_one (zs : List Int) : ∀ v, v ∈ u8s zs → v.oneCell' = true := by
  intro v hv
  obtain ⟨z, _, rfl⟩ := List.mem_map.1 hv
  rfl
theorem made_eq (n : Nat) : madeCells #[Value.int .u8 0] n = (u8s (List.replicate n 0)).toArray := by
  apply Array.ext_getElem?
  intro i
  by_cases h : i < n <;> simp [madeCells, u8s, h, Nat.mod_one]
theorem getD_mem_bd {zs : List Int} (h : ∀ z, z ∈ zs → 0 ≤ z ∧ z ≤ 255) (j : Nat) : 0 ≤ zs.getD j 0 ∧ zs.getD j 0 ≤ 255 := by
  rw [List.getD_eq_getElem?_getD]
  by_cases hj : j < zs.length
  · rw [List.getElem?_eq_getElem hj]
    exact h _ (List.getElem_mem hj)
  · rw [List.getElem?_eq_none (by omega)]; simp

/-- a slice of bytes that is only read. -/
structure Part where
  a : Option Addr
  c : Nat
  zs : List Int
def Part.val (p : Part) : Value := .slice p.a p.zs.length p.c
def Part.nil : Part := ⟨none, 0, []⟩
def Part.ok (w : World) (p : Part) : Prop :=
  (∀ z, z ∈ p.zs → 0 ≤ z ∧ z ≤ 255) ∧ p.zs.length ≤ p.c ∧ (p.zs = [] ∨ ∃ b o, p.a = some ⟨b, o, none⟩ ∧ ∀ j, j < p.zs.length → w.cell? ⟨b, o + j, none⟩ = some (.int .u8 (p.zs.getD j 0)))
/-- it does not lie in block g. -/
def Part.off (g : Nat) (p : Part) : Prop := p.zs = [] ∨ ∀ b o, p.a = some ⟨b, o, none⟩ → b ≠ g
theorem Part.nil_ok (w : World) : Part.nil.ok w := ⟨by simp [Part.nil], by simp [Part.nil], Or.inl rfl⟩
theorem Part.ok_but {p : Part} {g : Nat} {w w' : World} (h : p.ok w) (hf : p.off g) (hb : But g w w') : p.ok w' := by
  refine ⟨h.1, h.2.1, ?_⟩
  rcases h.2.2 with he | ⟨b, o, ha, hc⟩
  · exact Or.inl he
  · rcases hf with he | hf
    · exact Or.inl he
    · refine Or.inr ⟨b, o, ha, fun j hj => ?_⟩
      have := hc j hj
      rw [hb.cell (p := ⟨b, o + j, none⟩) (hf b o ha) (World.block_lt_of_cell? w _ this), this]
theorem Part.ok_below {p : Part} {w w' : World} (h : p.ok w) (hb : Below w.heap.size w w') : p.ok w' := by
  refine ⟨h.1, h.2.1, ?_⟩
  rcases h.2.2 with he | ⟨b, o, ha, hc⟩
  · exact Or.inl he
  · exact Or.inr ⟨b, o, ha, fun j hj => by rw [hb.cell (p := ⟨b, o + j, none⟩) (World.block_lt_of_cell? w _ (hc j hj)), hc j hj]⟩
theorem Part.ok_drewN {pt : Part} {w : World} (h : pt.ok w) (k : Nat) : pt.ok (w.drewN k) := h
theorem Part.ok_new {p : Part} {w : World} (h : p.ok w) (g : Nat) (hg : w.heap.size ≤ g) : p.off g := by
  by_cases he : p.zs = []
  · exact Or.inl he
  · rcases h.2.2 with h' | ⟨b, o, ha, hc⟩
    · exact absurd h' he
    · refine Or.inr fun b' o' e => ?_
      rw [ha] at e
      simp only [Option.some.injEq, Addr.mk.injEq, and_true] at e
      have := World.block_lt_of_cell? w _ (hc 0 (List.length_pos_iff.2 he))
      simp only at this
      omega
theorem Part.of_heap {g cap : Nat} {zs : List Int} {w : World} {t : TypeId} {f : Nat × Nat} {cur : Array Value} (hg : w.heap[g]? = some (.cells cur t f)) (o : Nat) (hc : zs.length ≤ cap) (hcur : ∀ j, j < zs.length → cur[o + j]? = some (.int .u8 (zs.getD j 0))) (hz : ∀ z, z ∈ zs → 0 ≤ z ∧ z ≤ 255) :
    Part.ok w ⟨some ⟨g, o, none⟩, cap, zs⟩ := ⟨hz, hc, Or.inr ⟨g, o, rfl, fun j hj => by rw [cell_of_heap hg]; exact hcur j hj⟩⟩
theorem Part.of_row {g cap : Nat} {zs : List Int} {w : World} {t : TypeId} {f : Nat × Nat} (hg : w.heap[g]? = some (.cells (u8s zs).toArray t f)) (hc : zs.length ≤ cap) (hz : ∀ z, z ∈ zs → 0 ≤ z ∧ z ≤ 255) :
    Part.ok w ⟨some ⟨g, 0, none⟩, cap, zs⟩ := Part.of_heap hg 0 hc (fun j hj => by rw [Nat.zero_add]; exact u8s_at _ _ hj) hz

/-- bytes as a string, whatever slice they lie in. -/
theorem conv_part (pt : Part) (w : World) (hok : pt.ok w) : (convert 36 9 pt.val).run Try.prog w = .ok (.string (strOfNums pt.zs)) w := by
  obtain ⟨a, c, zs⟩ := pt
  simp only [Part.val]
  rcases hok.2.2 with h | ⟨b, o, ha, hc⟩
  · simp only at h
    subst h
    cases a with
    | none => exact run_convert_bytes_nil w _ _ Try.underlying36 Try.underlying5 _ _ _ Try.underlying9
    | some x =>
      rw [run_convert_bytes_string w _ _ _ _ _ _ Try.underlying36 Try.underlying5 Try.underlying9]
      exact run_bytesToString w x 0 c [] (by simpa using run_loadCells_list (P := Try.prog) w x [] (by simp))
  · simp only at ha hc
    subst ha
    exact run_convert_bytes_arg w _ _ Try.underlying36 Try.underlying5 b o zs.length c zs rfl hc _ Try.underlying9
theorem conv_const (g : Nat) (w : World) (C : Array Value) (n c : Nat) (hg : g = w.heap.size) : (convert 36 36 (.slice (some ⟨g, 0, none⟩) n c)).run Try.prog (w.alloc (.cells C 5)) = .ok (.slice (some ⟨g, 0, none⟩) n c) (w.alloc (.cells C 5 (C.size, C.size + 1))) := by
  subst hg
  exact Lib.run_convert_bytes_const (P := Try.prog) w 36 5 C n c Try.underlying36 Try.underlying5
theorem str_inj {a b : List Int} (ha : ∀ z, z ∈ a → 0 ≤ z ∧ z ≤ 255) (hb : ∀ z, z ∈ b → 0 ≤ z ∧ z ≤ 255) (h : strOfNums a = strOfNums b) : a = b := by
  have h2 : (strOfNums a).data.toList = (strOfNums b).data.toList := by rw [h]
  rw [strOfNums_data, strOfNums_data] at h2
  have hl : a.length = b.length := by have := congrArg List.length h2; simpa using this
  apply List.ext_getElem hl
  intro i h1 h3
  have h4 : (a.map fun n => UInt8.ofNat n.toNat)[i]? = (b.map fun n => UInt8.ofNat n.toNat)[i]? := by rw [h2]
  simp only [List.getElem?_map, List.getElem?_eq_getElem h1, List.getElem?_eq_getElem h3, Option.map_some, Option.some.injEq] at h4
  have ba := ha _ (List.getElem_mem h1)
  have bb := hb _ (List.getElem_mem h3)
  have h5 := congrArg UInt8.toNat h4
  simp only [UInt8.toNat_ofNat'] at h5
  omega

theorem part_news {pt : Part} {w : World} {b o : Nat} (hc : ∀ j, j < pt.zs.length → w.cell? ⟨b, o + j, none⟩ = some (.int .u8 (pt.zs.getD j 0))) : ∀ j u, (u8s pt.zs)[j]? = some u → w.cell? ((⟨b, o, none⟩ : Addr).add j) = some u := by
  intro j v hj
  have hjl : j < pt.zs.length := by
    rcases Nat.lt_or_ge j pt.zs.length with h | h
    · exact h
    · simp [u8s, List.getElem?_eq_none h] at hj
  rw [show (⟨b, o, none⟩ : Addr).add j = ⟨b, o + j, none⟩ from by unfold Addr.add; split <;> simp_all, hc j hjl]
  simp [u8s, hjl] at hj
  simp [hjl, hj]
/-- 'copy(d, s)' where d has room for all of s. -/
theorem copy_part (pt : Part) (w : World) (hok : pt.ok w) (g o n cap : Nat) (cur : Array Value) (t : TypeId) (hg : w.heap[g]? = some (.cells cur t (0, 0))) (hn : pt.zs.length ≤ n) (hsz : o + pt.zs.length ≤ cur.size) (ty : TypeId) :
    (Builtin.copy_ #[36, 36] ty #[.slice (some ⟨g, o, none⟩) n cap, pt.val]).run Try.prog w = .ok (goInt pt.zs.length) (w.setRow g (splice cur.toList o (u8s pt.zs)).toArray) := by
  obtain ⟨a, c, zs⟩ := pt
  simp only [Part.val] at *
  rcases hok.2.2 with h | ⟨b, o', ha, hc⟩
  · simp only at h
    subst h
    rw [run_copy_none _ _ _ _ 5 _ _ _ _ _ _ Try.underlying36 sizeU8 (by simp)]
    simp only [splice, u8s, List.map_nil, List.length_nil, Nat.add_zero, List.nil_append, List.take_append_drop, Array.toArray_toList]
    rw [setRow_self w g cur t (0, 0) hg]
    rfl
  · simp only at ha hc
    subst ha
    rw [run_copy_row (P := Try.prog) _ _ _ _ 5 g o _ _ _ _ _ cur t (u8s zs) Try.underlying36 sizeU8 hg (by simp [u8s, hn]) (part_news (pt := ⟨some ⟨b, o', none⟩, c, zs⟩) hc) (by simpa [u8s] using hsz) (u8s_one zs)]
    simp only [u8s_len, splice, List.append_assoc]
theorem splice_u8s (L zs : List Int) (o : Nat) : splice (u8s L) o (u8s zs) = u8s (splice L o zs) := by
  simp [splice, u8s]
/-- a copy as a step of a region that draws; in a walk. cur: what the block holds. -/
theorem step_copyV {ops : Array Oper} {o : Oper} {a : Act} {w : World} {K : Act → World → Prop} {Q : Exit → Act → World → Prop} {E : Prop} (hgd : o.guard = none) (d s : Operand)
    (ho : o.op = .call { callee := .builtin .copy, args := #[d, s], argTypes := #[36, 36] }) (pt : Part) (g off n cap : Nat) (cur : Array Value) (t : TypeId) (hd : a.eval d = .slice (some ⟨g, off, none⟩) n cap) (hs : a.eval s = pt.val)
    (hg : w.heap[g]? = some (.cells cur t (0, 0))) (hok : pt.ok w) (hn : pt.zs.length ≤ n) (hsz : off + pt.zs.length ≤ cur.size)
    (h : ∀ w', Hid (w'.heap[g]? = some (.cells (splice cur.toList off (u8s pt.zs)).toArray t (0, 0))) → Hid (But g w w') → K (a.put o.dst (goInt pt.zs.length)) w') :
    if Region.wanted o (yielded ops a.tmps) = true then Oper.wp Try.prog o a w K Q else E := by
  have hw : Region.wanted o (yielded ops a.tmps) = true := by simp [Region.wanted, hgd]
  rw [if_pos hw]
  unfold Oper.wp
  simp only [execOp, ho, resolve, invoke, builtin, Sem.run_bind, Sem.run_pure, Result.andThen_ok, List.map_toArray, List.map_cons, List.map_nil, hd, hs, copy_part pt w hok g off n cap cur t hg hn hsz]
  exact h _ (setRow_heap w g _ _ t _ hg) (But.setRow g w _)
theorem wpList_copyV {ops : Array Oper} {rest : List Oper} {o : Oper} {a : Act} {w : World} {Q : Exit → Act → World → Prop} (hgd : o.guard = none) (d s : Operand)
    (ho : o.op = .call { callee := .builtin .copy, args := #[d, s], argTypes := #[36, 36] }) (pt : Part) (g off n cap : Nat) (cur : Array Value) (t : TypeId) (hd : a.eval d = .slice (some ⟨g, off, none⟩) n cap) (hs : a.eval s = pt.val)
    (hg : w.heap[g]? = some (.cells cur t (0, 0))) (hok : pt.ok w) (hn : pt.zs.length ≤ n) (hsz : off + pt.zs.length ≤ cur.size)
    (h : ∀ w', Hid (w'.heap[g]? = some (.cells (splice cur.toList off (u8s pt.zs)).toArray t (0, 0))) → Hid (But g w w') → wpList Try.prog ops Q rest (a.put o.dst (goInt pt.zs.length)) w') : wpList Try.prog ops Q (o :: rest) a w := by
  refine wpList_plain hgd fun K hK => ?_
  unfold Oper.wp
  simp only [execOp, ho, resolve, invoke, builtin, Sem.run_bind, Sem.run_pure, Result.andThen_ok, List.map_toArray, List.map_cons, List.map_nil, hd, hs, copy_part pt w hok g off n cap cur t hg hn hsz]
  exact hK _ _ (h _ (setRow_heap w g _ _ t _ hg) (But.setRow g w _))
/-- the same where the block holds bytes alone. -/
theorem step_copy {ops : Array Oper} {o : Oper} {a : Act} {w : World} {K : Act → World → Prop} {Q : Exit → Act → World → Prop} {E : Prop} (hgd : o.guard = none) (d s : Operand)
    (ho : o.op = .call { callee := .builtin .copy, args := #[d, s], argTypes := #[36, 36] }) (pt : Part) (g off n cap : Nat) (L : List Int) (t : TypeId) (hd : a.eval d = .slice (some ⟨g, off, none⟩) n cap) (hs : a.eval s = pt.val)
    (hg : w.heap[g]? = some (.cells (u8s L).toArray t (0, 0))) (hok : pt.ok w) (hn : pt.zs.length ≤ n) (hsz : off + pt.zs.length ≤ L.length)
    (h : ∀ w', Hid (w'.heap[g]? = some (.cells (u8s (splice L off pt.zs)).toArray t (0, 0))) → Hid (But g w w') → K (a.put o.dst (goInt pt.zs.length)) w') :
    if Region.wanted o (yielded ops a.tmps) = true then Oper.wp Try.prog o a w K Q else E :=
  step_copyV hgd d s ho pt g off n cap _ t hd hs hg hok hn (by simpa [u8s_len] using hsz) (fun w' h1 h2 => h w' (by have := h1.out; rw [List.toList_toArray, splice_u8s] at this; exact this) h2)
theorem wpList_copy {ops : Array Oper} {rest : List Oper} {o : Oper} {a : Act} {w : World} {Q : Exit → Act → World → Prop} (hgd : o.guard = none) (d s : Operand)
    (ho : o.op = .call { callee := .builtin .copy, args := #[d, s], argTypes := #[36, 36] }) (pt : Part) (g off n cap : Nat) (L : List Int) (t : TypeId) (hd : a.eval d = .slice (some ⟨g, off, none⟩) n cap) (hs : a.eval s = pt.val)
    (hg : w.heap[g]? = some (.cells (u8s L).toArray t (0, 0))) (hok : pt.ok w) (hn : pt.zs.length ≤ n) (hsz : off + pt.zs.length ≤ L.length)
    (h : ∀ w', Hid (w'.heap[g]? = some (.cells (u8s (splice L off pt.zs)).toArray t (0, 0))) → Hid (But g w w') → wpList Try.prog ops Q rest (a.put o.dst (goInt pt.zs.length)) w') : wpList Try.prog ops Q (o :: rest) a w :=
  wpList_copyV hgd d s ho pt g off n cap _ t hd hs hg hok hn (by simpa [u8s_len] using hsz) (fun w' h1 h2 => h w' (by have := h1.out; rw [List.toList_toArray, splice_u8s] at this; exact this) h2)
/-- a struct and a second result. -/
theorem results_row2 {P : Program} {fn : Func} {p q : Tmp} {ty : TypeId} (h : fn.results = #[.cell p ty, .tmp q]) (tmps : Array Value) (w : World) (g : Nat) (t : TypeId) (cs : Array Value) (fr : Nat × Nat) (d : TypeDesc) (v : Value)
    (hp : tmps.getD p undef = .pointer (some ⟨g, 0, none⟩)) (hv : tmps.getD q undef = v) (hg : w.heap[g]? = some (.cells cs t fr))
    (hu : P.underlying ty = some d) (hd : (match d with | .struct _ | .array _ _ => true | _ => false) = true) (hi : (P.info? ty).map (·.size) = some cs.size) :
    (results fn tmps).run P w = .ok (.tuple #[.agg cs, v]) w := by
  have hp' : tmps[p]?.getD undef = .pointer (some ⟨g, 0, none⟩) := by simpa using hp
  have hv' : tmps[q]?.getD undef = v := by simpa using hv
  simp [results, h, hp', hv', asAddr, run_loadVar_row w g t ty cs fr d hg hu hd hi]
/-- a piece of a slice. -/
theorem Part.sub_ok {w : World} {b o c : Nat} {zs : List Int} (h : Part.ok w ⟨some ⟨b, o, none⟩, c, zs⟩) (i n cap : Nat) (hin : i + n ≤ zs.length) (hn : n ≤ cap) : Part.ok w ⟨some ⟨b, o + i, none⟩, cap, (zs.drop i).take n⟩ := by
  refine ⟨fun z hz => h.1 z (List.mem_of_mem_drop (List.mem_of_mem_take hz)), by simp; omega, ?_⟩
  rcases h.2.2 with he | ⟨b', o', ha, hc⟩
  · simp only at he
    left; simp [he]
  · simp only [Option.some.injEq, Addr.mk.injEq, and_true] at ha
    obtain ⟨rfl, rfl⟩ := ha
    refine Or.inr ⟨b, o + i, rfl, fun j hj => ?_⟩
    have hj' : j < n := by simp at hj; omega
    rw [show o + i + j = o + (i + j) by omega, hc (i + j) (by simp only; omega)]
    simp [List.getD_eq_getElem?_getD, List.getElem?_take, hj', List.getElem?_drop]
end Go.Proofs.Ytgcpoanjjgbfjaa
