/-
  card.New.
-/
import Derived.Test.YtnjhlndikbkeaaaCLay
namespace Go.Proofs.Ytnjhlndikbkeaaa
open Go.RowKit
set_option linter.all false

def fitsB (n : Int) : Bool := decide (1 ≤ n ∧ n ≤ 64)
set_option maxHeartbeats 400000 in
theorem fits_any (n : Int) (w : World) : Calls Try.prog 23 #[.int .i64 n] w fun e w' => e = .returned (.bool (fitsB n)) ∧ w' = w := by
  by_cases h2 : 1 ≤ n
  · by_cases h3 : n ≤ 64
    · go_enter Try.func23, Try.ntmps23
      go_wp2
      go_ret
      exact ⟨ret_bool (by simp [fitsB, h2, h3]), rfl⟩
    · have h4 : 64 < n := by omega
      go_enter Try.func23, Try.ntmps23
      go_wp2
      go_ret
      exact ⟨ret_bool (by simp [fitsB, h3]), rfl⟩
  · have h4 : n < 1 := by omega
    go_enter Try.func23, Try.ntmps23
    go_wp2
    go_ret
    exact ⟨ret_bool (by simp [fitsB]; omega), rfl⟩
theorem infoPl : (Try.prog.info? 102).map (fun i => (i.size, i.bytes, i.zero.map (fun z => (z.cells.size, z.cells[0]!, z.cells[1]!)))) = some (1516, 1536, some (1516, .bool false, .int .i64 0)) := by kernel_rfl
theorem mkPl (n : Nat) (hn : n ≤ 64) : ∃ C : Array Value, (∀ wx : World, (Instr.makeSlice 68 (.int .i64 (n : Int)) (.int .i64 (n : Int))).run Try.prog wx = .ok (.slice (some ⟨wx.heap.size, 0, none⟩) n n) (wx.alloc (.cells C 102))) ∧ C.size = n * 1516 ∧ ∀ i, i < n → PlAt C (i * 1516) ⟨false, []⟩ := by
  have h := infoPl
  cases hq : Try.prog.info? 102 with
  | none => rw [hq] at h; simp at h
  | some i =>
    rw [hq] at h
    simp only [Option.map_some, Option.some.injEq, Prod.mk.injEq] at h
    obtain ⟨h1, h2, h3⟩ := h
    cases hz : i.zero with
    | none => rw [hz] at h3; simp at h3
    | some z =>
      rw [hz] at h3
      simp only [Option.map_some, Option.some.injEq, Prod.mk.injEq] at h3
      obtain ⟨z1, z2, z3⟩ := h3
      refine ⟨madeCells z.cells (n * 1516), fun wx => ?_, size_madeCells _ _, fun j hj => ⟨?_, ?_, fun k hk => by simp at hk, by simp, by simp⟩⟩
      · have := run_make (P := Try.prog) wx 68 102 i z Try.underlying68 hq hz .i64 .i64 n n (by omega) (Int.le_refl _) (by rw [h2]; omega) (by omega)
        rw [this, h1]
        simp
      · have hb : j * 1516 < n * 1516 := by omega
        simp only [madeCells]
        rw [Array.getElem?_map, Array.getElem?_range, if_pos hb]
        show some (z.cells[(j * 1516) % z.cells.size]!) = _
        rw [z1, show j * 1516 % 1516 = 0 by omega, z2]
      · have hb : j * 1516 + 1 < n * 1516 := by omega
        simp only [madeCells]
        rw [Array.getElem?_map, Array.getElem?_range, if_pos hb]
        show some (z.cells[(j * 1516 + 1) % z.cells.size]!) = _
        rw [z1, show (j * 1516 + 1) % 1516 = 1 by omega, z3]
        rfl
/-- a ring of which the first k places were laid. -/
def ringK (b : Bool) (n k : Nat) : List Pl := List.replicate k ⟨b, []⟩ ++ List.replicate (n - k) ⟨false, []⟩
theorem ringK_len (b : Bool) (n k : Nat) (h : k ≤ n) : (ringK b n k).length = n := by simp [ringK]; omega
theorem ringK_set (b : Bool) (n k : Nat) (h : k < n) : (ringK b n k).set k ⟨b, []⟩ = ringK b n (k + 1) := by
  apply List.ext_getElem?
  intro i
  by_cases hik : i = k
  · subst hik
    rw [List.getElem?_set_self (by rw [ringK_len _ _ _ (by omega)]; exact h)]
    simp [ringK, List.getElem?_append, List.getElem?_replicate]
  · rw [List.getElem?_set_ne (fun e => hik e.symm)]
    simp only [ringK, List.getElem?_append, List.getElem?_replicate, List.length_replicate]
    by_cases h1 : i < k
    · simp [h1, show i < k + 1 by omega]
    · simp only [h1, if_false, show ¬ i < k + 1 by omega]
      congr 1
      simp only [eq_iff_iff]; omega
theorem ringK_at (b : Bool) (n k : Nat) (h : k < n) : (ringK b n k)[k]? = some ⟨false, []⟩ := by
  unfold ringK
  simp [List.getElem?_append, List.getElem?_replicate]
  omega
theorem ringK_end (b : Bool) (n : Nat) : ringK b n n = List.replicate n ⟨b, []⟩ := by simp [ringK]
/-- the block with one bool laid. -/
theorem set_at {C : Array Value} {o : Nat} {b : Bool} {b' : Bool} (h : PlAt C o ⟨b', []⟩) : PlAt (C.setIfInBounds o (.bool b)) o ⟨b, []⟩ := by
  have hs : o < C.size := (Array.getElem?_eq_some_iff.1 h.1).1
  exact ⟨by rw [Array.getElem?_setIfInBounds_self_of_lt hs], by rw [Array.getElem?_setIfInBounds_ne (by omega)]; exact h.2.1, fun k hk => by simp at hk, by simp, by simp⟩
/-- newRing under way. -/
structure NewI (w : World) (b : Bool) (n k : Nat) (wr : World) : Prop where
  res : wr.heap[w.heap.size]? = some (.cells #[.slice none 0 0, .int .i64 0] 70 (0, 0))
  pls : RingAt wr (w.heap.size + 1) (ringK b n k)
  box : wr.heap[w.heap.size + 1 + 1]? = some (.cells #[.slice (some ⟨w.heap.size + 1, 0, none⟩) n n, .int .i64 0] 70 (0, 0))
  bel : Below w.heap.size w wr
theorem NewI.step {w wr : World} {b : Bool} {n k : Nat} (h : NewI w b n k wr) (hk : k < n) : NewI w b n (k + 1) (wr.setCell ⟨w.heap.size + 1, k * 1516, none⟩ (.bool b)) := by
  obtain ⟨C, h1, h2, h3⟩ := h.pls
  refine ⟨?_, ⟨_, heap_setCell h1, ?_, ?_⟩, ?_, bset h.bel (by omega) _ _⟩
  · rw [Below.heap_setCell _ _ _ _ (by simp)]; exact h.res
  · rw [Array.size_setIfInBounds, h2, ringK_len _ _ _ (by omega), ringK_len _ _ _ (by omega)]
  · rw [← ringK_set b n k hk]
    exact ring_set h3 (fun q hq => Array.getElem?_setIfInBounds_ne (by omega)) (set_at (h3 k _ (ringK_at b n k hk)))
  · rw [Below.heap_setCell _ _ _ _ (by simp)]; exact h.box
theorem heap3 (w : World) (a b c : Obj) : (((w.alloc a).alloc b).alloc c).heap[w.heap.size]? = some a ∧ (((w.alloc a).alloc b).alloc c).heap[w.heap.size + 1]? = some b ∧ (((w.alloc a).alloc b).alloc c).heap[w.heap.size + 1 + 1]? = some c := by
  refine ⟨?_, ?_, ?_⟩
  · rw [heap_old _ _ (by simp; omega), heap_old _ _ (by simp), heap_new]
  · rw [heap_old _ _ (by simp)]
    have := heap_new (w.alloc a) b
    rwa [World.size_alloc] at this
  · have := heap_new ((w.alloc a).alloc b) c
    rwa [World.size_alloc, World.size_alloc] at this
set_option maxRecDepth 20000 in
set_option maxHeartbeats 1000000 in
theorem newRing_any (n : Nat) (b : Bool) (w : World) (hn : n ≤ 64) :
    Calls Try.prog 24 #[.int .i64 n, .bool b] w fun e w' => ∃ g, e = .returned (.agg #[.slice (some ⟨g, 0, none⟩) n n, .int .i64 0]) ∧ w.heap.size ≤ g ∧ RingAt w' g (List.replicate n ⟨b, []⟩) ∧ Below w.heap.size w w' := by
  obtain ⟨C, hmk, hcs, hcp⟩ := mkPl n hn
  have HCS := hid hcs
  have HCP := hid hcp
  clear hcs hcp
  go_enter Try.func24, Try.ntmps24
  go_wp2
  obtain ⟨x1, x2, x3⟩ := heap3 w (.cells #[.slice none 0 0, .int .i64 0] 70) (.cells C 102) (.cells #[.slice (some ⟨w.heap.size + 1, 0, none⟩) n n, .int .i64 0] 70)
  have HST : Hid (NewI w b n 0 (((w.alloc (.cells #[.slice none 0 0, .int .i64 0] 70)).alloc (.cells C 102)).alloc (.cells #[.slice (some ⟨w.heap.size + 1, 0, none⟩) n n, .int .i64 0] 70))) :=
    ⟨x1, ⟨C, x2, by rw [ringK_len _ _ _ (by omega)]; exact HCS.out, fun i p hi => by
      have hl : i < (ringK b n 0).length := (List.getElem?_eq_some_iff.1 hi).1
      rw [ringK_len _ _ _ (by omega)] at hl
      have e : p = ⟨false, []⟩ := by simp [ringK, List.getElem?_replicate, hl] at hi; exact hi.symm
      subst e
      exact HCP.out i hl⟩, x3, bpush (bpush (balloc w _) _) _⟩
  clear x1 x2 x3
  go_loopw [13] (fun i wr => ∃ k : Nat, k ≤ n ∧ i = .int .i64 k ∧ Hid (NewI w b n k wr)) (fun i _ => n - (intOf i).toNat)
  case atStart => exact ⟨0, by omega, rfl, HST⟩
  case round =>
    obtain ⟨k, hk, rfl, HI⟩ := hrel
    have q0 : wr.cell? ⟨w.heap.size + 1 + 1, 0, none⟩ = some (.slice (some ⟨w.heap.size + 1, 0, none⟩) n n) := cellHeap HI.out.box 0 rfl
    have q1 : wr.cell? ⟨w.heap.size + 1 + 1, 1, none⟩ = some (.int .i64 0) := cellHeap HI.out.box 1 rfl
    by_cases hlt : k < n
    · have hlt2 : (k : Int) < n := by omega
      have q2 : wr.cell? ⟨w.heap.size + 1, k * 1516, none⟩ = some (.bool false) := ring_b HI.out.pls (ringK_at b n k hlt)
      have q3 : wr.frozen? ⟨w.heap.size + 1, k * 1516, none⟩ = false := by
        obtain ⟨C', hC', _⟩ := HI.out.pls
        exact frozen_of_heap hC' _
      go_wp2
      go_roundw
      case rel => exact ⟨k + 1, by omega, by go_num, HI.out.step hlt⟩
      case measure => simp [intOf]; omega
    · have hge : ¬ (k : Int) < n := by omega
      have hkn : k = n := by omega
      have q4 : wr.cell? ⟨w.heap.size, 0, none⟩ = some (.slice none 0 0) := cellHeap HI.out.res 0 rfl
      have q5 : wr.cell? ⟨w.heap.size, 1, none⟩ = some (.int .i64 0) := cellHeap HI.out.res 1 rfl
      have q6 : ∀ q, wr.frozen? ⟨w.heap.size, q, none⟩ = false := fun q => frozen_of_heap HI.out.res q
      have HKN := hid hkn
      clear hkn
      go_wp2
      refine bodyPost_ret (results_cell_row (P := Try.prog) rfl _ _ w.heap.size 70 #[.slice (some ⟨w.heap.size + 1, 0, none⟩) n n, .int .i64 0] (0, 0) _ rfl (heap_setCell (heap_setCell HI.out.res)) Try.underlying70 rfl (by kernel_rfl)) rfl ⟨w.heap.size + 1, rfl, by omega, ?_, bset (bset HI.out.bel (Nat.le_refl _) _ _) (Nat.le_refl _) _ _⟩
      rw [← ringK_end, ← HKN.out]
      have := HI.out.pls
      rw [HKN.out] at this
      refine RingAt.keep (by rw [HKN.out]; exact this) ?_
      rw [Below.heap_setCell _ _ _ _ (by simp), Below.heap_setCell _ _ _ _ (by simp)]
end Go.Proofs.Ytnjhlndikbkeaaa
