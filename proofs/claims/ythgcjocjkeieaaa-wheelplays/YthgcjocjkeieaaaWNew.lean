/-
  New.
-/
import Derived.Test.YthgcjocjkeieaaaWMem
import Derived.Laws.EntriesVeiled
import Derived.Carry
namespace Go.Proofs.Ythgcjocjkeieaaa
open Go.RowKit
set_option linter.all false

theorem wpList_build_to {P : Program} {ops : Array Oper} {rest : List Oper} {o : Oper} {a : Act} {w : World} {Q : Exit → Act → World → Prop} (hg : o.guard = none) (t : TypeId) (parts : Array (Nat × Operand)) (ho : o.op = .build t parts) (cells : Array Value)
    (hf : P.built t (parts.map fun (i, x) => (i, a.eval x)).toList = some cells) (h : wpList P ops Q rest (a.put o.dst (.agg cells)) w) : wpList P ops Q (o :: rest) a w :=
  wpList_build hg t parts ho (by rw [hf]; rfl) (by rw [hf]; exact h)
def newL (m : Nat) : List Value := [.int .i64 0, .int .i64 0, .map (some m)] ++ (List.replicate 256 (.slice none 0 0) ++ [.nilFunc, .slice none 0 0])
theorem newL_built (m : Nat) : Try.prog.built 58 [(2, .map (some m))] = some (newL m).toArray := by kernel_rfl
/-- an empty wheel's cells, ahead of its heap's first. -/
structure NewC (C : Array Value) (m : Nat) : Prop where
  size : C.size = 261
  now : C[0]? = some (.int .i64 0)
  last : C[1]? = some (.int .i64 0)
  map : C[2]? = some (.map (some m))
  slot : ∀ i, i < 256 → C[3 + i]? = some (.slice none 0 0)
  first : C[259]? = some .nilFunc
  ids : C[260]? = some (.slice none 0 0)
set_option maxRecDepth 20000 in
theorem newC (m : Nat) : NewC (newL m).toArray m := by
  refine ⟨by kernel_rfl, by kernel_rfl, by kernel_rfl, by kernel_rfl, fun i hi => ?_, by kernel_rfl, by kernel_rfl⟩
  rw [List.getElem?_toArray]
  unfold newL
  rw [List.getElem?_append_right (by simp), List.getElem?_append_left (by simp; omega)]
  rw [List.getElem?_replicate, if_pos (by show 3 + i - 3 < 256; omega)]
set_option maxHeartbeats 1000000 in
theorem newHeap_any (b : Nat) (w : World) :
    Calls Try.prog 19 #[firstV b] w fun e w' => e = .returned (.agg #[firstV b, .slice none 0 0]) ∧ w' = w.alloc (.cells #[firstV b, .slice none 0 0] 56) := by
  unfold firstV
  go_enter Try.func19, Try.ntmps19
  go_wp2
  refine bodyPost_ret (results_cell_row (P := Try.prog) rfl _ _ w.heap.size 56 #[firstV b, .slice none 0 0] (0, 0) _ rfl (heap_new w _) Try.underlying56 rfl (by kernel_rfl)) rfl ⟨rfl, rfl⟩
/-- what New leaves. -/
structure NewI (w : World) (b m : Nat) (w' : World) : Prop where
  wh : WheelW w' b m 0 0 [] (fun _ => .slice none 0 0) (fun _ => [])
  b : w.heap.size ≤ b
  m : w.heap.size ≤ m
  below : Below w.heap.size w w'
set_option maxRecDepth 20000 in
set_option maxHeartbeats 1000000 in
theorem new_any (w : World) : Calls Try.prog 8 #[] w fun e w' => ∃ b m, e = .returned (.pointer (some ⟨b, 0, none⟩)) ∧ Hid (NewI w b m w') := by
  have HB := hid (newL_built w.heap.size)
  have hmk := run_makeMap (P := Try.prog) 50 w
  have hC := newC w.heap.size
  generalize (newL w.heap.size).toArray = C at *
  have HH := hid (newHeap_any (w.heap.size + 1))
  have hb1 := balloc w (.map #[] 0)
  have hb2 := balloc (w.alloc (.map #[] 0)) (.cells C 58)
  have hb3 := balloc ((w.alloc (.map #[] 0)).alloc (.cells C 58)) (.cells #[firstV (w.heap.size + 1), .slice none 0 0] 56)
  have hs1 : (w.alloc (.map #[] 0)).heap.size = w.heap.size + 1 := by simp
  have n1 : (((w.alloc (.map #[] 0)).alloc (.cells C 58)).alloc (.cells #[firstV (w.heap.size + 1), .slice none 0 0] 56)).heap[w.heap.size + 1]? = some (.cells C 58 (0, 0)) := (hb3.block _ (by simp)).trans (by rw [← hs1]; exact heap_new _ _)
  have n0 : (((w.alloc (.map #[] 0)).alloc (.cells C 58)).alloc (.cells #[firstV (w.heap.size + 1), .slice none 0 0] 56)).heap[w.heap.size]? = some (.map #[] 0) := (hb3.block _ (by simp; omega)).trans ((hb2.block _ (by simp)).trans (heap_new w _))
  have c1 := cellHeap n1 259 hC.first
  have c2 := cellHeap n1 260 hC.ids
  have f1 := frozen_of_heap n1 259
  have f2 := frozen_of_heap n1 260
  have HE : Hid (NewI w (w.heap.size + 1) w.heap.size (((((w.alloc (.map #[] 0)).alloc (.cells C 58)).alloc (.cells #[firstV (w.heap.size + 1), .slice none 0 0] 56)).setCell ⟨w.heap.size + 1, 259, none⟩ (firstV (w.heap.size + 1))).setCell ⟨w.heap.size + 1, 260, none⟩ (.slice none 0 0))) := by
    have h1 := heap_setCell (j := 259) (v := firstV (w.heap.size + 1)) n1
    have h2 := heap_setCell (j := 260) (v := .slice none 0 0) h1
    have hs := hC.size
    refine ⟨⟨⟨_, h2, by simpa using hs, ?_, ?_, ?_, ?_, ?_, ?_⟩, ⟨#[], 0, ?_, rfl, List.Pairwise.nil, by simp⟩, fun i hi => Row.nil _ _, fun i j hi hj hne g hg => by simp [Value.ownBlock] at hg⟩, by omega, by omega, ?_⟩
    · rw [get_set, if_neg (by omega), get_set, if_neg (by omega)]; exact hC.now
    · rw [get_set, if_neg (by omega), get_set, if_neg (by omega)]; exact hC.last
    · rw [get_set, if_neg (by omega), get_set, if_neg (by omega)]; exact hC.map
    · intro i hi; rw [get_set, if_neg (by omega), get_set, if_neg (by omega)]; exact hC.slot i hi
    · rw [get_set, if_neg (by omega), get_set, if_pos ⟨rfl, by omega⟩]
    · rw [get_set, if_pos ⟨rfl, by simp; omega⟩]
    · rw [Below.heap_setCell _ _ _ _ (by simp), Below.heap_setCell _ _ _ _ (by simp)]; exact n0
    · have hB : Below w.heap.size w (((w.alloc (.map #[] 0)).alloc (.cells C 58)).alloc (.cells #[firstV (w.heap.size + 1), .slice none 0 0] 56)) := (hb1.trans (hb2.mono hb1.size)).trans (hb3.mono (by simp; omega))
      refine ⟨hB.os, hB.tape, hB.output, by simp [World.setCell]; omega, fun k hk => ?_⟩
      rw [Below.heap_setCell _ _ _ _ (by simp; omega), Below.heap_setCell _ _ _ _ (by simp; omega)]
      exact hB.block k hk
  have HW : Hid (∀ W, W = ((w.alloc (.map #[] 0)).alloc (.cells C 58)).alloc (.cells #[firstV (w.heap.size + 1), .slice none 0 0] 56) → W.cell? ⟨w.heap.size + 1, 259, none⟩ = some .nilFunc ∧ W.cell? ⟨w.heap.size + 1, 260, none⟩ = some (.slice none 0 0) ∧ W.frozen? ⟨w.heap.size + 1, 259, none⟩ = false ∧ W.frozen? ⟨w.heap.size + 1, 260, none⟩ = false ∧ NewI w (w.heap.size + 1) w.heap.size ((W.setCell ⟨w.heap.size + 1, 259, none⟩ (firstV (w.heap.size + 1))).setCell ⟨w.heap.size + 1, 260, none⟩ (.slice none 0 0))) := by
    rintro W rfl
    exact ⟨c1, c2, f1, f2, HE.out⟩
  clear hC hb1 hb2 hb3 hs1 n0 n1 c1 c2 f1 f2 HE
  unfold firstV at *
  go_enter Try.func8, Try.ntmps8
  go_wp2_with (first
    | (refine wpList_build_to rfl 58 _ rfl C (by simp only [List.map_toArray, List.map_cons, List.map_nil]; exact HB.out) ?_)
    | (go_at_call 19; refine (HH.out _).mono ?_; go_loud (rintro e w1 ⟨rfl, hw⟩; obtain ⟨c1, c2, f1, f2, hE⟩ := HW.out w1 hw; have HE := hid hE; clear hE hw HW))
    | fail)
  go_ret
  exact ⟨w.heap.size + 1, w.heap.size, rfl, HE⟩
end Go.Proofs.Ythgcjocjkeieaaa
