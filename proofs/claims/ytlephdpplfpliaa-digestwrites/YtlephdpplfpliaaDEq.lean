/-
  Digests held against one another.
-/
import Derived.Test.YtlephdpplfpliaaDEval
import Derived.DeepKeys
namespace Go.Proofs.Ytlephdpplfpliaa
open Go.RowKit
set_option linter.unusedVariables false
set_option linter.unusedSimpArgs false
theorem keyDig : Try.prog.keyTypeAt 2 26 = true := by kernel_rfl
theorem cellsU8 : Try.prog.cellsOf 5 = 1 := by kernel_rfl
theorem cellsDig : Try.prog.cellsOf 26 = 32 := by kernel_rfl
theorem wf_u8 (b : Int) (h : 0 ≤ b ∧ b ≤ 255) : (Lit.int .u8 b).wf = true := by
  simp [Lit.wf, IntKind.min, IntKind.max, IntKind.bits, IntKind.signed]; omega
theorem mapM_some {α β : Type} (f : α → Option β) (h : α → β) : ∀ l : List α, (∀ i, i ∈ l → f i = some (h i)) → l.mapM f = some (l.map h)
  | [], _ => rfl
  | a :: r, hf => by
    have ih := mapM_some f h r (fun i hi => hf i (by simp [hi]))
    simp [List.mapM_cons, hf a (by simp), ih]
theorem key_at (a : List Int) (hb : ∀ z, z ∈ a → 0 ≤ z ∧ z ≤ 255) (i : Nat) (hi : i < a.length) : Try.prog.keyLits 2 5 (((u8s a).drop (i * 1)).take 1) = some [.int .u8 (a.getD i 0)] := by
  have e : ((u8s a).drop (i * 1)).take 1 = [.int .u8 (a.getD i 0)] := by
    rw [Nat.mul_one]
    have hl : i < (u8s a).length := by rw [u8s_len]; exact hi
    rw [List.drop_eq_getElem_cons hl]
    simp [u8s, List.getD_eq_getElem?_getD, hi]
  have h := getD_bd (by omega) hb i
  rw [e]
  generalize a.getD i 0 = z at *
  simp [Program.keyLits, Try.underlying5, wf_u8 _ h]
theorem flat1 {α β : Type} (f : α → β) : ∀ l : List α, (l.map fun i => [f i]).flatten = l.map f
  | [] => rfl
  | a :: r => by simp [flat1 f r]
theorem lits_inj : ∀ a b : List Int, a.map (Lit.int .u8) = b.map (Lit.int .u8) → a = b
  | [], [], _ => rfl
  | [], _ :: _, h => by simp at h
  | _ :: _, [], h => by simp at h
  | x :: r, y :: q, h => by
    simp only [List.map_cons, List.cons.injEq, Lit.int.injEq, true_and] at h
    rw [h.1, lits_inj r q h.2]
theorem key_dig (a : List Int) (ha : a.length = 32) (hb : ∀ z, z ∈ a → 0 ≤ z ∧ z ≤ 255) : Try.prog.keyLits 3 26 (Value.cells (.agg (u8s a).toArray)).toList = some (a.map (Lit.int .u8)) := by
  have hm := mapM_some (fun i => Try.prog.keyLits 2 5 (((u8s a).drop (i * 1)).take 1)) (fun i => [Lit.int .u8 (a.getD i 0)]) (List.range 32) (fun i hi => key_at a hb i (by rw [ha]; simpa using hi))
  unfold Program.keyLits
  simp only [Try.underlying26, cellsDig, cellsU8, Value.cells, List.toList_toArray, u8s_len, ha, if_true]
  rw [hm]
  simp only [Option.map_some]
  congr 1
  apply List.ext_getElem?
  intro j
  have e : ((List.range 32).map fun i => [Lit.int .u8 (a.getD i 0)]).flatten = (List.range 32).map fun i => Lit.int .u8 (a.getD i 0) := by
    exact flat1 _ _
  rw [e]
  by_cases hj : j < 32
  · simp [hj, ha, List.getD_eq_getElem?_getD]
  · simp [hj, ha]
theorem dig_eq (a b : List Int) (ha : a.length = 32) (hb : b.length = 32) (hab : ∀ z, z ∈ a → 0 ≤ z ∧ z ≤ 255) (hbb : ∀ z, z ∈ b → 0 ≤ z ∧ z ≤ 255) (w : World) :
    (Op.equalIn 10000 26 (.agg (u8s a).toArray) (.agg (u8s b).toArray)).run Try.prog w = .ok (decide (a = b)) w := by
  have hf : ∀ l : List Int, l.length = 32 → (Value.formed Try.prog 26 (.agg (u8s l).toArray)) = true := fun l hl => by
    simp [Value.formed, Try.underlying26, u8s_len, hl, cellsDig]
  obtain ⟨r, hr, hi⟩ := run_equalIn_deep (P := Try.prog) 9998 2 26 keyDig w 3 3 _ _ _ _ (hf a ha) (hf b hb) (key_dig a ha hab) (key_dig b hb hbb)
  rw [hr]
  congr 1
  have inj : a.map (Lit.int .u8) = b.map (Lit.int .u8) ↔ a = b := ⟨lits_inj a b, fun h => by rw [h]⟩
  rw [Bool.eq_iff_iff, hi, inj]
  simp

/-- blocks that lie in memory. -/
def Holds (w : World) (l : List (Nat × Obj)) : Prop := ∀ p, p ∈ l → w.heap[p.1]? = some p.2
theorem Holds.lt {w : World} {l : List (Nat × Obj)} (h : Holds w l) {p : Nat × Obj} (hp : p ∈ l) : p.1 < w.heap.size := (Array.getElem?_eq_some_iff.1 (h p hp)).1
theorem Holds.below {w w' : World} {l : List (Nat × Obj)} (h : Holds w l) (hb : Below w.heap.size w w') : Holds w' l := fun p hp => (hb.block p.1 (h.lt hp)).trans (h p hp)
theorem Holds.but {g : Nat} {w w' : World} {l : List (Nat × Obj)} (h : Holds w l) (hb : But g w w') (hg : ∀ p, p ∈ l → p.1 ≠ g) : Holds w' l := fun p hp => (hb.block p.1 (hg p hp) (h.lt hp)).trans (h p hp)
theorem Holds.push {w : World} {l : List (Nat × Obj)} (h : Holds w l) (o : Obj) : Holds (w.alloc o) ((w.heap.size, o) :: l) := fun p hp => by
  rcases List.mem_cons.1 hp with rfl | hp
  · exact heap_alloc_new w o
  · exact (heap_alloc_old w o (h.lt hp)).trans (h p hp)
theorem Holds.more {w : World} {l : List (Nat × Obj)} (h : Holds w l) (o : Obj) : Holds (w.alloc o) l := fun p hp => (heap_alloc_old w o (h.lt hp)).trans (h p hp)
theorem Holds.nil (w : World) : Holds w [] := fun p hp => by cases hp
theorem Holds.cons {w : World} {l : List (Nat × Obj)} (h : Holds w l) {g : Nat} {o : Obj} (hg : w.heap[g]? = some o) : Holds w ((g, o) :: l) := fun p hp => by
  rcases List.mem_cons.1 hp with rfl | hp
  · exact hg
  · exact h p hp
theorem sha_len (zs : List Int) : (sha zs).length = 32 := rfl
theorem outL_bd (s : St) (h : s.ok) : ∀ z, z ∈ outL s → 0 ≤ z ∧ z ≤ 255 := by
  intro z hz
  obtain ⟨x, hx, hz⟩ := List.mem_flatMap.1 hz
  have := ok_at s h x hx
  exact wb_bd x this.1 this.2 z hz
theorem sumL_bd (x : HS) (h : x.ok) (hn : x.n ≤ 1152921504606846975) : ∀ z, z ∈ sumL x → 0 ≤ z ∧ z ≤ 255 := outL_bd _ (absorb_ok _ _ h (tailL_bd x.n hn)).1
theorem sha_bd (zs : List Int) (hz : ∀ z, z ∈ zs → 0 ≤ z ∧ z ≤ 255) (hn : zs.length ≤ 1152921504606840000) : ∀ z, z ∈ sha zs → 0 ≤ z ∧ z ≤ 255 := sumL_bd _ (absorb_ok _ _ hsI_ok hz) (by rw [absorb_n]; show 0 + _ ≤ _; omega)
end Go.Proofs.Ytlephdpplfpliaa
