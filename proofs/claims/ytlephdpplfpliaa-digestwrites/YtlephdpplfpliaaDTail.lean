/-
  The contract of digest.tail: what goes behind n bytes.
-/
import Derived.Test.YtlephdpplfpliaaDWrite
namespace Go.Proofs.Ytlephdpplfpliaa
open Go.RowKit
set_option linter.unusedVariables false
set_option linter.unusedSimpArgs false

def gapOf (n : Nat) : Nat := 64 - (n + 8) % 64
/-- what goes behind n bytes. -/
def tailL (n : Nat) : List Int := 128 :: List.replicate (gapOf n - 1) 0 ++ wb ((8 * n / 4294967296 : Nat) : Int) ++ wb ((8 * n % 4294967296 : Nat) : Int)
theorem gap_bd (n : Nat) : 1 ≤ gapOf n ∧ gapOf n ≤ 64 := by unfold gapOf; omega
theorem tailL_len (n : Nat) : (tailL n).length = gapOf n + 8 := by have := gap_bd n; simp [tailL, wb]; omega
theorem tailL_bd (n : Nat) (h : n ≤ 1152921504606846975) : ∀ z, z ∈ tailL n → 0 ≤ z ∧ z ≤ 255 := by
  intro z hz
  simp only [tailL, List.cons_append, List.mem_cons, List.mem_append] at hz
  rcases hz with rfl | (hz | hz) | hz
  · omega
  · rw [List.eq_of_mem_replicate hz]; omega
  · exact wb_bd _ (by omega) (by omega) z hz
  · exact wb_bd _ (by omega) (by omega) z hz

theorem splice4 (cur : Array Value) (o : Nat) (v0 v1 v2 v3 : Value) (h : o + 4 ≤ cur.size) : (((cur.setIfInBounds o v0).setIfInBounds (o + 1) v1).setIfInBounds (o + 2) v2).setIfInBounds (o + 3) v3 = (splice cur.toList o [v0, v1, v2, v3]).toArray := by
  rw [splice_cons _ _ _ _ (by simp; omega), splice_cons _ _ _ _ (by simp; omega), splice_cons _ _ _ _ (by simp; omega), splice_cons _ _ _ _ (by simp; omega)]
  have e : ∀ (L : List Value) p, splice L p [] = L := fun L p => by simp [splice]
  rw [e]
  apply Array.ext'
  simp
theorem putWord_row (g o len cap : Nat) (x : Int) (cur : Array Value) (t : TypeId) (w : World) (hg : w.heap[g]? = some (.cells cur t (0, 0))) (ho : o + 4 ≤ cur.size) (hl : 4 ≤ len) (hx : 0 ≤ x ∧ x ≤ 4294967295) :
    Calls Try.prog 25 #[.slice (some ⟨g, o, none⟩) len cap, .int .u32 x] w fun e w' => e = .returned (.tuple #[]) ∧ w'.heap[g]? = some (.cells (splice cur.toList o (u8s (wb x))).toArray t (0, 0)) ∧ But g w w' ∧ w'.heap.size = w.heap.size := by
  have c : ∀ j, j < 4 → w.cell? ⟨g, o + j, none⟩ = some (cur[o + j]?.getD undef) := fun j hj => by
    rw [cell_of_heap hg, Array.getElem?_eq_getElem (by omega)]; rfl
  refine (putWord_any g o len cap x _ _ _ _ w hl hx (c 0 (by omega)) (c 1 (by omega)) (c 2 (by omega)) (c 3 (by omega)) (frozen_of_heap hg _) (frozen_of_heap hg _) (frozen_of_heap hg _) (frozen_of_heap hg _)).mono ?_
  rintro e w' ⟨rfl, rfl⟩
  refine ⟨rfl, ?_, ?_, ?_⟩
  · have h := heap_setCell_at (j := o + 3) (v := .int .u8 (x % 256)) (heap_setCell_at (j := o + 2) (v := .int .u8 (x / 256 % 256)) (heap_setCell_at (j := o + 1) (v := .int .u8 (x / 65536 % 256)) (heap_setCell_at (j := o) (v := .int .u8 (x / 16777216)) hg)))
    rw [splice4 cur o _ _ _ _ ho] at h
    exact h
  · exact (((But.setCell g w o _).trans (But.setCell g _ (o + 1) _)).trans (But.setCell g _ (o + 2) _)).trans (But.setCell g _ (o + 3) _)
  · simp [World.setCells, World.setCell, u8s, wb]

theorem infoU8 : (Try.prog.info? 5).map (fun i => (i.zero, i.size, i.bytes)) = some (some (.int .u8 0), 1, 1) := by kernel_rfl
theorem made_eq (n : Nat) : madeCells #[Value.int .u8 0] n = (List.replicate n (Value.int .u8 0)).toArray := by
  apply Array.ext_getElem?
  intro i
  by_cases h : i < n <;> simp [madeCells, h, Nat.mod_one]

theorem splice_at {α : Type} (P R cs : List α) (p : Nat) (hp : P.length = p) : splice (P ++ R) p cs = P ++ (cs ++ R.drop cs.length) := by
  subst hp
  unfold splice
  rw [List.take_append_of_le_length (Nat.le_refl _), List.take_length, List.drop_append, List.drop_of_length_le (by omega)]
  simp
theorem tail_cells (q : Nat) (h : 1 ≤ q) (z v : Value) (a b : List Value) (ha : a.length = 4) (hb : b.length = 4) : splice (splice ((List.replicate (q + 8) z).set 0 v) q a) (q + 4) b = (v :: List.replicate (q - 1) z) ++ a ++ b := by
  have e : (List.replicate (q + 8) z).set 0 v = (v :: List.replicate (q - 1) z) ++ List.replicate 8 z := by
    obtain ⟨k, rfl⟩ : ∃ k, q = k + 1 := ⟨q - 1, by omega⟩
    rw [show k + 1 + 8 = (k + 8) + 1 by omega, List.replicate_succ, List.set_cons_zero, show k + 1 - 1 = k by omega]
    rw [List.cons_append, List.replicate_append_replicate]
  rw [e, splice_at _ _ _ q (by simp; omega), ha, ← List.append_assoc, splice_at _ _ _ (q + 4) (by simp [ha]; omega), hb]
  simp
theorem slice_sl (b o len cap l : Nat) (hl : l ≤ len) (hc : l < cap) (w : World) (x : Int) (hx : x = l) : (Instr.sliceAt 37 (.slice (some ⟨b, o, none⟩) len cap) (some (.int .i64 x)) none none).run Try.prog w = .ok (.slice (some ⟨b, o + l, none⟩) (len - l) (cap - l)) w := by
  subst hx
  cases hq : Try.prog.info? 5 with
  | none => have := sizeU8; rw [hq] at this; simp at this
  | some i =>
    have hs : i.size = 1 := by have := sizeU8; rw [hq] at this; simpa using this
    have h1 : ¬ len < l := by omega
    have h2 : ¬ cap = l := by omega
    simp [Instr.sliceAt, Instr.slice, run_underlying Try.underlying37, Instr.sliceBounds, Instr.sliceBound, asIntOf, sizeOf, typeInfo, hq, hs, h1, h2, Addr.add_mid]
set_option maxHeartbeats 1000000 in
theorem tail_any (n : Nat) (w : World) (hn : n ≤ 1152921504606846975) :
    Calls Try.prog 24 #[.int .i64 n] w fun e w' => e = .returned (.slice (some ⟨w.heap.size, 0, none⟩) (tailL n).length (tailL n).length) ∧ w'.heap[w.heap.size]? = some (.cells (u8s (tailL n)).toArray 5 (0, 0)) ∧ Below w.heap.size w w' ∧ w'.heap.size = w.heap.size + 1 := by
  obtain ⟨q, hq⟩ : ∃ q, q = gapOf n := ⟨_, rfl⟩
  have hq1 : 1 ≤ q ∧ q ≤ 64 := by rw [hq]; exact gap_bd n
  have HTL : Hid ((tailL n).length = q + 8) := by unfold Hid; rw [hq]; exact tailL_len n
  have hr : ((n : Int) + 64 - 56).tmod 64 = 64 - (q : Int) := by
    rw [Int.tmod_eq_emod_of_nonneg (by omega), hq]; unfold gapOf; omega
  have hmk := fun wx => Go.run_make_row' (P := Try.prog) 37 5 (.int .u8 0) 1 Try.underlying37 infoU8 rfl .i64 .i64 (q + 8) (by omega) (by omega) wx
  have ec : ((q + 8 : Nat) : Int) = (q : Int) + 8 := by omega
  rw [ec] at hmk
  have h1 : (64 : Int) - (64 - (q : Int)) = q := by omega
  have h2 : (q : Int) + 64 - 56 = (q : Int) + 8 := by omega
  have HQ : Hid (q = gapOf n) := hq
  have HS1 : Hid (∀ w', (Instr.sliceAt 37 (.slice (some ⟨w.heap.size, 0, none⟩) (q + 8) (q + 8)) (some (.int .i64 (q : Int))) none none).run Try.prog w' = .ok (.slice (some ⟨w.heap.size, q, none⟩) 8 8) w') := fun w' => by
    have := slice_sl w.heap.size 0 (q + 8) (q + 8) q (by omega) (by omega) w' q rfl
    rw [this, Nat.zero_add, show q + 8 - q = 8 by omega]
  have HS2 : Hid (∀ w', (Instr.sliceAt 37 (.slice (some ⟨w.heap.size, 0, none⟩) (q + 8) (q + 8)) (some (.int .i64 ((q : Int) + 4))) none none).run Try.prog w' = .ok (.slice (some ⟨w.heap.size, q + 4, none⟩) 4 4) w') := fun w' => by
    have := slice_sl w.heap.size 0 (q + 8) (q + 8) (q + 4) (by omega) (by omega) w' ((q : Int) + 4) (by omega)
    rw [this, Nat.zero_add, show q + 8 - (q + 4) = 4 by omega]
  obtain ⟨A0, hA0⟩ : ∃ A0, A0 = madeCells #[Value.int .u8 0] (q + 8) := ⟨_, rfl⟩
  have HA0 : Hid (A0 = madeCells #[Value.int .u8 0] (q + 8)) := hA0
  have a0 : A0[0]? = some (.int .u8 0) := by rw [hA0, made_eq]; simp
  have HAS : Hid (A0.size = q + 8) := by unfold Hid; rw [hA0]; simp [size_madeCells]
  rw [← hA0] at hmk
  clear hq hA0 ec
  go_enter Try.func24, Try.ntmps24
  go_wp2_with (first
    | (refine wpList_slice_run rfl 37 _ _ rfl (.slice (some ⟨w.heap.size, q, none⟩) 8 8) (HS1.out _) ?_)
    | (refine wpList_slice_run rfl 37 _ _ rfl (.slice (some ⟨w.heap.size, q + 4, none⟩) 4 4) (HS2.out _) ?_))
  refine (putWord_row w.heap.size q 8 8 _ _ 5 _ (heap_alloc_last w _) (by simp [HAS.out]) (by omega) (by omega)).mono ?_
  rintro e w1 ⟨rfl, hg1, hb1, hz1⟩
  have HG1 : Hid _ := hg1
  have HB1 : Hid (But w.heap.size _ w1) := hb1
  have HZ1 : Hid _ := hz1
  clear hg1 hb1 hz1 a0 hmk
  go_wp2_with (first
    | (refine wpList_slice_run rfl 37 _ _ rfl (.slice (some ⟨w.heap.size, q + 4, none⟩) 4 4) (HS2.out _) ?_))
  refine (putWord_row w.heap.size (q + 4) 4 4 _ _ 5 w1 HG1.out (by rw [List.size_toArray, length_splice _ _ _ (by simp [u8s, wb, HAS.out])]; simp [HAS.out]) (by omega) (by omega)).mono ?_
  rintro e w2 ⟨rfl, hg2, hb2, hz2⟩
  have HG2 : Hid _ := hg2
  have HB2 : Hid (But w.heap.size w1 w2) := hb2
  have HZ2 : Hid _ := hz2
  clear hg2 hb2 hz2
  go_wp2
  go_ret
  refine ⟨by rw [HTL.out]; rfl, ?_, ?_, ?_⟩
  · rw [HG2.out]
    congr 3
    have e : (A0.setIfInBounds 0 (Value.int .u8 128)).toList = (List.replicate (q + 8) (Value.int .u8 0)).set 0 (Value.int .u8 128) := by rw [HA0.out, made_eq]; simp
    have tc := tail_cells q (by omega) (Value.int .u8 0) (Value.int .u8 128) (u8s (wb (8 * (n : Int) / 4294967296))) (u8s (wb (8 * (n : Int) % 4294967296))) rfl rfl
    rw [e]
    rw [tc]
    unfold tailL
    rw [← HQ.out]
    simp [u8s]
  · exact ((((Below.refl _ w).alloc (Nat.le_refl _) _).trans (HB1.out.below (Nat.le_refl _) (by simp))).trans (HB2.out.below (Nat.le_refl _) (by rw [HZ1.out]; simp)))
  · rw [HZ2.out, HZ1.out]; simp
end Go.Proofs.Ytlephdpplfpliaa
