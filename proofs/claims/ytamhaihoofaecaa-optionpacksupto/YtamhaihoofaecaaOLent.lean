/-
  The contracts of slipwayref15.Lent and AsLent.
-/
import Derived.Test.YtamhaihoofaecaaOMem
import Derived.Test.YtamhaihoofaecaaBLent
import Derived.Deep.RegionHeld3
namespace Go.Proofs.Ytamhaihoofaecaa
open Go.RowKit
set_option linter.all false

/-- options of which k are laid in memory of their own. -/
structure LentI (w wr : World) (ga n : Nat) (os : List OP) (k : Nat) (X : Array Value) : Prop where
  box : wr.heap[ga]? = some (.cells X 58 (0, 0))
  size : X.size = (n + 2) * 2
  row : ∀ (i : Nat) o, i < k → os[i]? = some o → X[i * 2]? = some (.int .i64 o.1) ∧ X[i * 2 + 1]? = some (.slice (some ⟨ga + 1 + i, 0, none⟩) o.2.zs.length (o.2.zs.length + 2)) ∧ wr.heap[ga + 1 + i]? = some (.cells (L2 o.2.zs) 5 (0, 0))
  hs : wr.heap.size = ga + 1 + k
  below : Below w.heap.size w wr
  low : w.heap.size ≤ ga
theorem made_opts (n : Nat) (hn : n ≤ 4398046511106) : ∃ X : Array Value, X.size = n * 2 ∧ ∀ wx : World, (Instr.makeSlice 24 (.int .i64 (n : Int)) (.int .i64 (n : Int))).run Try.prog wx = .ok (.slice (some ⟨wx.heap.size, 0, none⟩) n n) (wx.alloc (.cells X 58)) := by
  obtain ⟨i, hi, hz0, hz1, hz2⟩ := info_sz infoOpt
  refine ⟨madeCells (Value.agg #[.int .i64 0, .slice none 0 0]).cells (n * 2), size_madeCells _ _, fun wx => ?_⟩
  · have := run_make (P := Try.prog) wx 24 58 i _ Try.underlying24 hi hz0 .i64 .i64 n n (by omega) (Int.le_refl _) (by rw [hz2]; omega) (by omega)
    rw [this, hz1]
    simp only [Int.toNat_natCast]
theorem LentI.start {w : World} {n : Nat} {os : List OP} {X : Array Value} (hX : X.size = (n + 2) * 2) : LentI w (w.alloc (.cells X 58)) w.heap.size n os 0 X :=
  ⟨heap_new w _, hX, fun i o hi => by omega, by simp, bpush (Below.refl _ _) _, Nat.le_refl _⟩
theorem LentI.step {w wr : World} {ga n k : Nat} {os : List OP} {X : Array Value} {o : OP} (h : LentI w wr ga n os k X) (ho : os[k]? = some o) (hn : n = os.length) :
    LentI w (((wr.setCell ⟨ga, k * 2, none⟩ (.int .i64 o.1)).setCell ⟨ga, k * 2 + 1, none⟩ (.slice (some ⟨wr.heap.size, 0, none⟩) o.2.zs.length (o.2.zs.length + 2))).alloc (.cells (L2 o.2.zs) 5)).drew ga n os (k + 1) ((X.setIfInBounds (k * 2) (.int .i64 o.1)).setIfInBounds (k * 2 + 1) (.slice (some ⟨wr.heap.size, 0, none⟩) o.2.zs.length (o.2.zs.length + 2))) := by
  have hl := heap_lt h.box
  have hk : k < n := by rw [hn]; exact (List.getElem?_eq_some_iff.1 ho).1
  have hs := h.size
  have hss := h.hs
  have b3 := heap_setCell (j := k * 2 + 1) (v := .slice (some ⟨wr.heap.size, 0, none⟩) o.2.zs.length (o.2.zs.length + 2)) (heap_setCell (j := k * 2) (v := .int .i64 o.1) h.box)
  obtain ⟨W2, hW2⟩ : ∃ W2, W2 = (wr.setCell ⟨ga, k * 2, none⟩ (.int .i64 o.1)).setCell ⟨ga, k * 2 + 1, none⟩ (.slice (some ⟨wr.heap.size, 0, none⟩) o.2.zs.length (o.2.zs.length + 2)) := ⟨_, rfl⟩
  have old : ∀ g, g ≠ ga → W2.heap[g]? = wr.heap[g]? := fun g hg => by
    rw [hW2, Below.heap_setCell _ _ _ _ (by simpa using hg), Below.heap_setCell _ _ _ _ (by simpa using hg)]
  have hz2 : W2.heap.size = wr.heap.size := by rw [hW2]; simp [World.setCell]
  have hb2 : Below w.heap.size w W2 := by rw [hW2]; exact bbut (bbut h.below (But.setCell ga _ _ _) h.low) (But.setCell ga _ _ _) h.low
  rw [← hW2] at b3 ⊢
  refine ⟨(heap_old W2 _ (by omega)).trans b3, by simpa using hs, fun i q hi hq => ?_, ?_, (bpush hb2 _).drew, h.low⟩
  · rcases Nat.lt_or_ge i k with h1 | h1
    · obtain ⟨r1, r2, r3⟩ := h.row i q h1 hq
      refine ⟨?_, ?_, ?_⟩
      · rw [Array.getElem?_setIfInBounds_ne (by omega), Array.getElem?_setIfInBounds_ne (by omega)]; exact r1
      · rw [Array.getElem?_setIfInBounds_ne (by omega), Array.getElem?_setIfInBounds_ne (by omega)]; exact r2
      · exact (heap_old W2 _ (by omega)).trans ((old _ (by omega)).trans r3)
    · have : i = k := by omega
      subst this
      rw [ho] at hq
      simp only [Option.some.injEq] at hq
      subst hq
      refine ⟨?_, ?_, ?_⟩
      · rw [Array.getElem?_setIfInBounds_ne (by omega), Array.getElem?_setIfInBounds, if_pos rfl, if_pos (by omega)]
      · rw [Array.getElem?_setIfInBounds, if_pos rfl, if_pos (by simp; omega), hss]
      · have := heap_new W2 (.cells (L2 o.2.zs) 5)
        rw [show ga + 1 + i = W2.heap.size by omega]
        exact this
  · show (W2.alloc _).heap.size = _
    rw [World.size_alloc, hz2, hss]
    omega
/-- all of them, with two marks behind. -/
structure LentF (w wr : World) (ga : Nat) (os : List OP) (X : Array Value) : Prop where
  i : LentI w wr ga os.length os os.length X
  m0 : X[os.length * 2]? = some (.int .i64 71)
  m1 : X[os.length * 2 + 1]? = some (.slice none 0 0)
  m2 : X[(os.length + 1) * 2]? = some (.int .i64 72)
  m3 : X[(os.length + 1) * 2 + 1]? = some (.slice none 0 0)
theorem LentI.marks {w wr : World} {ga : Nat} {os : List OP} {X : Array Value} (h : LentI w wr ga os.length os os.length X) :
    ∃ Y, LentF w ((((wr.setCell ⟨ga, os.length * 2, none⟩ (.int .i64 71)).setCell ⟨ga, os.length * 2 + 1, none⟩ (.slice none 0 0)).setCell ⟨ga, (os.length + 1) * 2, none⟩ (.int .i64 72)).setCell ⟨ga, (os.length + 1) * 2 + 1, none⟩ (.slice none 0 0)) ga os Y := by
  have hs := h.size
  have b := heap_setCell (j := (os.length + 1) * 2 + 1) (v := .slice none 0 0) (heap_setCell (j := (os.length + 1) * 2) (v := .int .i64 72) (heap_setCell (j := os.length * 2 + 1) (v := .slice none 0 0) (heap_setCell (j := os.length * 2) (v := .int .i64 71) h.box)))
  refine ⟨_, ⟨b, by simpa using hs, fun i o hi ho => ?_, ?_, ?_, h.low⟩, ?_, ?_, ?_, ?_⟩
  · obtain ⟨r1, r2, r3⟩ := h.row i o hi ho
    refine ⟨?_, ?_, ?_⟩
    · rw [Array.getElem?_setIfInBounds_ne (by omega), Array.getElem?_setIfInBounds_ne (by omega), Array.getElem?_setIfInBounds_ne (by omega), Array.getElem?_setIfInBounds_ne (by omega)]; exact r1
    · rw [Array.getElem?_setIfInBounds_ne (by omega), Array.getElem?_setIfInBounds_ne (by omega), Array.getElem?_setIfInBounds_ne (by omega), Array.getElem?_setIfInBounds_ne (by omega)]; exact r2
    · have hg : ga + 1 + i ≠ ga := by omega
      rw [Below.heap_setCell _ _ _ _ (by simpa using hg), Below.heap_setCell _ _ _ _ (by simpa using hg), Below.heap_setCell _ _ _ _ (by simpa using hg), Below.heap_setCell _ _ _ _ (by simpa using hg)]
      exact r3
  · simp only [World.setCell, Array.size_modify]
    exact h.hs
  · exact bbut (bbut (bbut (bbut h.below (But.setCell ga _ _ _) h.low) (But.setCell ga _ _ _) h.low) (But.setCell ga _ _ _) h.low) (But.setCell ga _ _ _) h.low
  · rw [Array.getElem?_setIfInBounds_ne (by omega), Array.getElem?_setIfInBounds_ne (by omega), Array.getElem?_setIfInBounds_ne (by omega), Array.getElem?_setIfInBounds, if_pos rfl, if_pos (by omega)]
  · rw [Array.getElem?_setIfInBounds_ne (by omega), Array.getElem?_setIfInBounds_ne (by omega), Array.getElem?_setIfInBounds, if_pos rfl, if_pos (by simp; omega)]
  · rw [Array.getElem?_setIfInBounds_ne (by omega), Array.getElem?_setIfInBounds, if_pos rfl, if_pos (by simp; omega)]
  · rw [Array.getElem?_setIfInBounds, if_pos rfl, if_pos (by simp; omega)]
set_option maxRecDepth 20000 in
set_option maxHeartbeats 2000000 in
theorem lentO_any (a : Option Addr) (c : Nat) (os : List OP) (w : World) (h : OV w a os) :
    Calls Try.prog 11 #[.slice a os.length c] w fun e w' => e = .returned (.slice (some ⟨w.heap.size, 0, none⟩) os.length (os.length + 2)) ∧ Hid (∃ X, LentF w w' w.heap.size os X) := by
  obtain ⟨n, hn⟩ : ∃ n, n = os.length := ⟨_, rfl⟩
  have HN := hid hn
  have hf := h.few
  rw [← hn] at hf ⊢
  have HV := hid h
  clear h hn
  obtain ⟨X0, hX0, hmk⟩ := made_opts (n + 2) (by omega)
  have ec : ((n + 2 : Nat) : Int) = (n : Int) + 2 := by omega
  rw [ec] at hmk
  have HI0 : Hid (LentI w (w.alloc (.cells X0 58)) w.heap.size n os 0 X0) := LentI.start hX0
  go_enter Try.func11, Try.ntmps11
  go_wp2
  clear hmk
  generalize w.alloc (.cells X0 58) = W0 at *
  generalize hga : w.heap.size = ga at *
  go_loopw [4] (fun i wr => ∃ (k : Nat) (X : Array Value), k ≤ n ∧ i = .int .i64 k ∧ Hid (LentI w wr ga n os k X)) (fun i _ => n - (intOf i).toNat)
  case atStart => exact ⟨0, X0, Nat.zero_le _, rfl, HI0⟩
  case round =>
    obtain ⟨k, X, hk, rfl, HI⟩ := hrel
    clear HI0
    by_cases hlt : k < n
    · have hlt' : (k : Int) < n := by omega
      obtain ⟨⟨cd, ad, cp, zs⟩, ho⟩ : ∃ o, os[k]? = some o := ⟨os[k]'(by rw [← HN.out]; exact hlt), List.getElem?_eq_getElem _⟩
      obtain ⟨b, off, ea, c0, c1⟩ := (HV.out.below HI.out.below).cell k _ ho
      have HOK := HV.out.oks _ (List.mem_of_getElem? ho)
      have HST := hid (HI.out.step ho HN.out)
      have CL := fun (wx : World) (hw : Below wr.heap.size wr wx) => lent_any ⟨ad, cp, zs⟩ wx (Part.ok_below (Part.ok_below HOK.1 HI.out.below) hw) HOK.2
      have hbl : b < wr.heap.size := World.block_lt_of_cell? wr _ c0
      simp only [Part.val] at c0 c1 CL
      subst ea
      have hgl : ga < wr.heap.size := heap_lt HI.out.box
      have x0 : ∃ u, wr.cell? ⟨ga, k * 2, none⟩ = some u := ⟨X[k * 2]'(by rw [HI.out.size]; omega), by rw [cell_of_heap HI.out.box, Array.getElem?_eq_getElem]⟩
      have x1 : ∃ u, wr.cell? ⟨ga, k * 2 + 1, none⟩ = some u := ⟨X[k * 2 + 1]'(by rw [HI.out.size]; omega), by rw [cell_of_heap HI.out.box, Array.getElem?_eq_getElem]⟩
      obtain ⟨u0, x0⟩ := x0
      obtain ⟨u1, x1⟩ := x1
      have f0 : wr.frozen? ⟨ga, k * 2, none⟩ = false := frozen_of_heap HI.out.box _
      have f1 : wr.frozen? ⟨ga, k * 2 + 1, none⟩ = false := frozen_of_heap HI.out.box _
      clear ho HOK
      go_wp2
      go_region_with (first
        | (go_at_call 35; refine (CL _ (by repeat (first | exact Below.refl _ _ | refine Below.drew ?_))).mono ?_; rintro e w2 ⟨rfl, rfl⟩))
      all_goals (try go_wp2)
      all_goals
        refine ⟨⟨k + 1, _, by omega, by go_num, HST.out⟩, ?_⟩
        simp [intOf]
        omega
    · have hkn : k = n := by omega
      have hi := HI.out
      rw [hkn, HN.out] at hi
      obtain ⟨Y, hY⟩ := hi.marks
      rw [← HN.out] at hY
      have HY : Hid (∃ Y, LentF w ((((wr.setCell ⟨ga, n * 2, none⟩ (.int .i64 71)).setCell ⟨ga, n * 2 + 1, none⟩ (.slice none 0 0)).setCell ⟨ga, (n + 1) * 2, none⟩ (.int .i64 72)).setCell ⟨ga, (n + 1) * 2 + 1, none⟩ (.slice none 0 0)) ga os Y) := ⟨Y, hY⟩
      have hge : ¬ (k : Int) < n := by omega
      have hsz := HI.out.size
      have x : ∀ j, j < 4 → ∃ u, wr.cell? ⟨ga, n * 2 + j, none⟩ = some u := fun j hj => ⟨X[n * 2 + j]'(by rw [hsz]; omega), by rw [cell_of_heap HI.out.box, Array.getElem?_eq_getElem]⟩
      obtain ⟨u0, x0⟩ := x 0 (by omega)
      obtain ⟨u1, x1⟩ := x 1 (by omega)
      obtain ⟨u2, x2⟩ := x 2 (by omega)
      obtain ⟨u3, x3⟩ := x 3 (by omega)
      have f : ∀ j, wr.frozen? ⟨ga, j, none⟩ = false := fun j => frozen_of_heap HI.out.box j
      have f0 := f (n * 2)
      have f1 := f (n * 2 + 1)
      have f2 := f ((n + 1) * 2)
      have f3 := f ((n + 1) * 2 + 1)
      rw [show n * 2 + 2 = (n + 1) * 2 by omega] at x2
      rw [show n * 2 + 3 = (n + 1) * 2 + 1 by omega] at x3
      simp only [Nat.add_zero] at x0
      clear x f hi hY hsz hkn
      have hn1 : (n : Int) < (n : Int) + 2 := by omega
      have hn2 : (n : Int) + 1 < (n : Int) + 2 := by omega
      have hn3 : (n : Int) ≤ (n : Int) + 2 := by omega
      have hn4 : n ≤ n + 2 := by omega
      go_wp2
      go_ret
      exact ⟨rfl, HY.out⟩
end Go.Proofs.Ytamhaihoofaecaa
