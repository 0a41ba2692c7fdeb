/-
  Memory: what a call leaves alone, slices of bytes as parts, bytes as strings.
-/
import Derived.Test.YtkijjmmebgogpaaDoorOpen
import Derived.Laws.CopyRow
import Derived.Laws.IdiomCopy
import Derived.Deep.WholeRow
import Derived.Laws.BytesArg
import Derived.Deep.QuietTactic
import Derived.BigQuiet
namespace Go.Proofs.YtkijjmmebgogpaaDoor
open Go.RowKit
set_option linter.unusedVariables false

/-- block g alone may have turned. -/
structure Only (g : Nat) (w w' : World) : Prop where
  os : w'.os = w.os
  tape : w'.tape = w.tape
  output : w'.output = w.output
  size : w'.heap.size = w.heap.size
  block : ∀ k, k ≠ g → w'.heap[k]? = w.heap[k]?
theorem Only.refl (g : Nat) (w : World) : Only g w w := ⟨rfl, rfl, rfl, rfl, fun _ _ => rfl⟩
theorem Only.trans {g : Nat} {a b c : World} (h : Only g a b) (k : Only g b c) : Only g a c :=
  ⟨k.os.trans h.os, k.tape.trans h.tape, k.output.trans h.output, k.size.trans h.size, fun i hi => (k.block i hi).trans (h.block i hi)⟩
theorem Only.setCell {g : Nat} {a w : World} (h : Only g a w) {p : Addr} (hp : p.block = g) (u : Value) : Only g a (w.setCell p u) :=
  h.trans ⟨rfl, rfl, rfl, by simp [World.setCell], fun k hk => Below.heap_setCell _ _ _ _ (by omega)⟩
theorem Only.drewN {g : Nat} {a w : World} (h : Only g a w) (n : Nat) : Only g a (w.drewN n) := h.trans ⟨rfl, rfl, rfl, rfl, fun _ _ => rfl⟩
theorem Only.below {g B : Nat} {w w' : World} (h : Only g w w') (hB : B ≤ g) : Below B w w' :=
  ⟨h.os, h.tape, h.output, Nat.le_of_eq h.size.symm, fun k hk => h.block k (by omega)⟩
theorem Only.cell {g : Nat} {w w' : World} (h : Only g w w') {p : Addr} (hp : p.block ≠ g) : w'.cell? p = w.cell? p := World.cell?_of_block (w := w) (h.block p.block hp)

theorem Part.ok_below {pt : Part} {w w' : World} (h : pt.ok w) (hb : Below w.heap.size w w') : pt.ok w' := by
  refine ⟨h.1, ?_⟩
  rcases h.2 with h | ⟨b, o, ha, hc⟩
  · exact Or.inl h
  · exact Or.inr ⟨b, o, ha, fun j hj => by rw [hb.cell (p := ⟨b, o + j, none⟩) (World.block_lt_of_cell? w _ (hc j hj)), hc j hj]⟩

theorem part_bd {pt : Part} {w : World} (h : pt.ok w) : ∀ j, 0 ≤ pt.zs.getD j 0 ∧ pt.zs.getD j 0 ≤ 255 := fun j => by
  rw [List.getD_eq_getElem?_getD]
  by_cases hj : j < pt.zs.length
  · rw [List.getElem?_eq_getElem hj]
    exact h.1 _ (List.getElem_mem hj)
  · rw [List.getElem?_eq_none (by omega)]; simp

def u8s (zs : List Int) : List Value := zs.map (Value.int .u8)
theorem u8s_one (zs : List Int) : ∀ v, v ∈ u8s zs → v.oneCell' = true := by
  intro v hv
  obtain ⟨z, _, rfl⟩ := List.mem_map.1 hv
  rfl
theorem sizeU8 : (Tryd.prog.info? 5).map (·.size) = some 1 := by kernel_rfl
theorem made_eq (n : Nat) : madeCells #[Value.int .u8 0] n = (List.replicate n (Value.int .u8 0)).toArray := by
  apply Array.ext_getElem?
  intro i
  by_cases h : i < n <;> simp [madeCells, h, Nat.mod_one]

theorem heap_new (w : World) (o : Obj) : (w.alloc o).heap[w.heap.size]? = some o := by
  show (w.heap.push o)[w.heap.size]? = _
  simp

theorem cell_of_heap {w : World} {g : Nat} {cs : Array Value} {t : TypeId} (h : w.heap[g]? = some (.cells cs t (0, 0))) (j : Nat) : w.cell? ⟨g, j, none⟩ = cs[j]? := by
  simp [World.cell?, h]
theorem frozen_of_heap {w : World} {g : Nat} {cs : Array Value} {t : TypeId} (h : w.heap[g]? = some (.cells cs t (0, 0))) (j : Nat) : w.frozen? ⟨g, j, none⟩ = false := by
  simp [World.frozen?, h]
theorem heap_setCell_at {w : World} {g j : Nat} {cs : Array Value} {t : TypeId} {v : Value} (h : w.heap[g]? = some (.cells cs t (0, 0))) : (w.setCell ⟨g, j, none⟩ v).heap[g]? = some (.cells (cs.setIfInBounds j v) t (0, 0)) := by
  simp [World.setCell, Array.getElem?_modify, h]

/-- bytes as a string, whatever slice they lie in. -/
theorem conv_part (pt : Part) (w : World) (hok : pt.ok w) : (convert 24 9 pt.val).run Tryd.prog w = .ok (.string (strOfNums pt.zs)) w := by
  obtain ⟨a, c, zs⟩ := pt
  simp only [Part.val]
  rcases hok.2 with h | ⟨b, o, ha, hc⟩
  · simp only at h
    subst h
    cases a with
    | none => exact run_convert_bytes_nil w _ _ Tryd.underlying24 Tryd.underlying5 _ _ _ Tryd.underlying9
    | some x =>
      rw [run_convert_bytes_string w _ _ _ _ _ _ Tryd.underlying24 Tryd.underlying5 Tryd.underlying9]
      exact run_bytesToString w x 0 c [] (by simpa using run_loadCells_list (P := Tryd.prog) w x [] (by simp))
  · simp only at ha hc
    subst ha
    exact run_convert_bytes_arg w _ _ Tryd.underlying24 Tryd.underlying5 b o zs.length c zs rfl hc _ Tryd.underlying9
theorem Part.ok_drewN {pt : Part} {w : World} (h : pt.ok w) (k : Nat) : pt.ok (w.drewN k) := h

end Go.Proofs.YtkijjmmebgogpaaDoor
