/-
  The contracts of the statements' own functions lentParts and asLentParts.
-/
import Derived.Test.YtmdkanbfpmdimaaOPar
import Derived.Test.YtmdkanbfpmdimaaBLent
import Derived.Test.YtmdkanbfpmdimaaBBook
import Derived.Deep.RegionHeld3
namespace Go.Proofs.Ytmdkanbfpmdimaa
open Go.RowKit
set_option linter.all false

/-- parts that lie below a block. -/
structure PLow (B : Nat) (w : World) (a : Option Addr) (ps : List Part) : Prop where
  v : PV w a ps
  row : ∀ b off, a = some ⟨b, off, none⟩ → ps ≠ [] → b < B
  data : ∀ p ∈ ps, ∀ b off, p.a = some ⟨b, off, none⟩ → p.zs ≠ [] → b < B
theorem PLow.of {w : World} {a : Option Addr} {ps : List Part} (h : PV w a ps) : PLow w.heap.size w a ps := by
  refine ⟨h, fun b off e hn => ?_, fun p hp => Part.low (h.oks p hp)⟩
  obtain ⟨o, r, rfl⟩ := List.exists_cons_of_ne_nil hn
  obtain ⟨b', off', e', c0⟩ := h.cell 0 o rfl
  rw [e] at e'
  simp only [Option.some.injEq, Addr.mk.injEq] at e'
  obtain ⟨rfl, rfl, _⟩ := e'
  exact World.block_lt_of_cell? w _ c0
theorem PLow.below {B : Nat} {w w' : World} {a : Option Addr} {ps : List Part} (h : PLow B w a ps) (hb : Below B w w') : PLow B w' a ps := by
  refine ⟨⟨fun i p hp => ?_, fun p hp => Part.ok_lo (h.v.oks p hp) (h.data p hp) hb⟩, h.row, h.data⟩
  obtain ⟨b, off, e, c0⟩ := h.v.cell i p hp
  have hl := h.row b off e (fun e => by rw [e] at hp; simp at hp)
  exact ⟨b, off, e, (hb.cell (p := ⟨b, off + i, none⟩) hl).trans c0⟩
def behindC : Array Value := #[.int .u8 98, .int .u8 101, .int .u8 104, .int .u8 105, .int .u8 110, .int .u8 100]
/-- parts of which k are laid in memory of their own. -/
structure LpI (w wr : World) (ga n : Nat) (ps : List Part) (k : Nat) (X : Array Value) : Prop where
  box : wr.heap[ga]? = some (.cells X 41 (0, 0))
  size : X.size = n + 1
  row : ∀ (i : Nat) p, i < k → ps[i]? = some p → X[i]? = some (.slice (some ⟨ga + 1 + i, 0, none⟩) p.zs.length (p.zs.length + 2)) ∧ wr.heap[ga + 1 + i]? = some (.cells (L2 p.zs) 5 (0, 0))
  hs : wr.heap.size = ga + 1 + k
  below : Below w.heap.size w wr
  low : w.heap.size ≤ ga
theorem made_parts (n : Nat) (hn : n ≤ 5864062014805) : ∃ X : Array Value, X.size = n ∧ ∀ wx : World, (Instr.makeSlice 22 (.int .i64 (n : Int)) (.int .i64 (n : Int))).run Try.prog wx = .ok (.slice (some ⟨wx.heap.size, 0, none⟩) n n) (wx.alloc (.cells X 41)) := by
  obtain ⟨i, hi, hz0, hz1, hz2⟩ := info_three infoSl
  refine ⟨madeCells (Value.slice none 0 0).cells n, size_madeCells _ _, fun wx => ?_⟩
  have := run_make (P := Try.prog) wx 22 41 i _ Try.underlying22 hi hz0 .i64 .i64 n n (by omega) (Int.le_refl _) (by rw [hz2]; omega) (by omega)
  rw [this, hz1]
  simp only [Int.toNat_natCast, Nat.mul_one]
theorem LpI.start {w : World} {n : Nat} {ps : List Part} {X : Array Value} (hX : X.size = n + 1) : LpI w (w.alloc (.cells X 41)) w.heap.size n ps 0 X :=
  ⟨heap_new w _, hX, fun i o hi => by omega, by simp, bpush (Below.refl _ _) _, Nat.le_refl _⟩
theorem LpI.step {w wr : World} {ga n k : Nat} {ps : List Part} {X : Array Value} {p : Part} (h : LpI w wr ga n ps k X) (hp : ps[k]? = some p) (hn : n = ps.length) :
    LpI w ((wr.setCell ⟨ga, k, none⟩ (.slice (some ⟨wr.heap.size, 0, none⟩) p.zs.length (p.zs.length + 2))).alloc (.cells (L2 p.zs) 5)) ga n ps (k + 1) (X.setIfInBounds k (.slice (some ⟨wr.heap.size, 0, none⟩) p.zs.length (p.zs.length + 2))) := by
  have hl := heap_lt h.box
  have hk : k < n := by rw [hn]; exact (List.getElem?_eq_some_iff.1 hp).1
  have hs := h.size
  have hss := h.hs
  have b3 := heap_setCell (j := k) (v := .slice (some ⟨wr.heap.size, 0, none⟩) p.zs.length (p.zs.length + 2)) h.box
  obtain ⟨W2, hW2⟩ : ∃ W2, W2 = wr.setCell ⟨ga, k, none⟩ (.slice (some ⟨wr.heap.size, 0, none⟩) p.zs.length (p.zs.length + 2)) := ⟨_, rfl⟩
  have old : ∀ g, g ≠ ga → W2.heap[g]? = wr.heap[g]? := fun g hg => by
    rw [hW2, Below.heap_setCell _ _ _ _ (by simpa using hg)]
  have hz2 : W2.heap.size = wr.heap.size := by rw [hW2]; simp [World.setCell]
  have hb2 : Below w.heap.size w W2 := by rw [hW2]; exact bbut h.below (But.setCell ga _ _ _) h.low
  rw [← hW2] at b3 ⊢
  refine ⟨(heap_old W2 _ (by omega)).trans b3, by simpa using hs, fun i q hi hq => ?_, ?_, bpush hb2 _, h.low⟩
  · rcases Nat.lt_or_ge i k with h1 | h1
    · obtain ⟨r1, r3⟩ := h.row i q h1 hq
      refine ⟨?_, ?_⟩
      · rw [Array.getElem?_setIfInBounds_ne (by omega)]; exact r1
      · exact (heap_old W2 _ (by omega)).trans ((old _ (by omega)).trans r3)
    · have : i = k := by omega
      subst this
      rw [hp] at hq
      simp only [Option.some.injEq] at hq
      subst hq
      refine ⟨?_, ?_⟩
      · rw [Array.getElem?_setIfInBounds, if_pos rfl, if_pos (by omega), hss]
      · have := heap_new W2 (.cells (L2 p.zs) 5)
        rw [show ga + 1 + i = W2.heap.size by omega]
        exact this
  · show (W2.alloc _).heap.size = _
    rw [World.size_alloc, hz2, hss]
    omega
/-- all of them, with a mark behind. -/
structure LpF (w wr : World) (ga : Nat) (ps : List Part) (X : Array Value) : Prop where
  box : wr.heap[ga]? = some (.cells X 41 (0, 0))
  size : X.size = ps.length + 1
  row : ∀ (i : Nat) p, ps[i]? = some p → X[i]? = some (.slice (some ⟨ga + 1 + i, 0, none⟩) p.zs.length (p.zs.length + 2)) ∧ wr.heap[ga + 1 + i]? = some (.cells (L2 p.zs) 5 (0, 0))
  mark : X[ps.length]? = some (.slice (some ⟨ga + 1 + ps.length, 0, none⟩) 6 6)
  text : wr.heap[ga + 1 + ps.length]? = some (.cells behindC 5 (6, 7))
  hs : wr.heap.size = ga + 2 + ps.length
  below : Below w.heap.size w wr
  low : w.heap.size ≤ ga
theorem LpI.marks {w wr : World} {ga : Nat} {ps : List Part} {X : Array Value} (h : LpI w wr ga ps.length ps ps.length X) :
    ∃ Y, LpF w ((wr.setCell ⟨ga, ps.length, none⟩ (.slice (some ⟨wr.heap.size, 0, none⟩) 6 6)).alloc (.cells behindC 5 (6, 7))) ga ps Y := by
  have hs := h.size
  have hss := h.hs
  have b3 := heap_setCell (j := ps.length) (v := .slice (some ⟨wr.heap.size, 0, none⟩) 6 6) h.box
  obtain ⟨W2, hW2⟩ : ∃ W2, W2 = wr.setCell ⟨ga, ps.length, none⟩ (.slice (some ⟨wr.heap.size, 0, none⟩) 6 6) := ⟨_, rfl⟩
  have old : ∀ g, g ≠ ga → W2.heap[g]? = wr.heap[g]? := fun g hg => by
    rw [hW2, Below.heap_setCell _ _ _ _ (by simpa using hg)]
  have hz2 : W2.heap.size = wr.heap.size := by rw [hW2]; simp [World.setCell]
  have hb2 : Below w.heap.size w W2 := by rw [hW2]; exact bbut h.below (But.setCell ga _ _ _) h.low
  rw [← hW2] at b3 ⊢
  have hl := heap_lt b3
  refine ⟨_, ⟨(heap_old W2 _ hl).trans b3, by simpa using hs, fun i p hp => ?_, ?_, ?_, ?_, bpush hb2 _, h.low⟩⟩
  · have hi := (List.getElem?_eq_some_iff.1 hp).1
    obtain ⟨r1, r3⟩ := h.row i p hi hp
    refine ⟨?_, ?_⟩
    · rw [Array.getElem?_setIfInBounds_ne (by omega)]; exact r1
    · exact (heap_old W2 _ (by omega)).trans ((old _ (by omega)).trans r3)
  · rw [Array.getElem?_setIfInBounds, if_pos rfl, if_pos (by omega), hss]
  · have := heap_new W2 (.cells behindC 5 (6, 7))
    rw [show ga + 1 + ps.length = W2.heap.size by omega]
    exact this
  · rw [World.size_alloc, hz2, hss]
    omega
set_option maxRecDepth 20000 in
set_option maxHeartbeats 2000000 in
theorem lentP_any (a : Option Addr) (c : Nat) (ps : List Part) (w : World) (h : PV w a ps) (hf : ps.length ≤ 5864062014804) (hl : ∀ p ∈ ps, p.zs.length ≤ 140737488353280) :
    Calls Try.prog 8 #[.slice a ps.length c] w fun e w' => e = .returned (.slice (some ⟨w.heap.size, 0, none⟩) ps.length (ps.length + 1)) ∧ Hid (∃ X, LpF w w' w.heap.size ps X) := by
  obtain ⟨n, hn⟩ : ∃ n, n = ps.length := ⟨_, rfl⟩
  have HN := hid hn
  rw [← hn] at hf ⊢
  have HV := hid h
  have HLL := hid hl
  clear h hn hl
  obtain ⟨X0, hX0, hmk⟩ := made_parts (n + 1) (by omega)
  have ec : ((n + 1 : Nat) : Int) = (n : Int) + 1 := by omega
  rw [ec] at hmk
  have HI0 : Hid (LpI w (w.alloc (.cells X0 41)) w.heap.size n ps 0 X0) := LpI.start hX0
  go_enter Try.func8, Try.ntmps8
  go_wp2
  clear hmk
  generalize w.alloc (.cells X0 41) = W0 at *
  generalize hga : w.heap.size = ga at *
  go_loopw [4] (fun i wr => ∃ (k : Nat) (X : Array Value), k ≤ n ∧ i = .int .i64 k ∧ Hid (LpI w wr ga n ps k X)) (fun i _ => n - (intOf i).toNat)
  case atStart => exact ⟨0, X0, Nat.zero_le _, rfl, HI0⟩
  case round =>
    obtain ⟨k, X, hk, rfl, HI⟩ := hrel
    clear HI0
    by_cases hlt : k < n
    · have hlt' : (k : Int) < n := by omega
      obtain ⟨⟨ad, cp, zs⟩, hp⟩ : ∃ p, ps[k]? = some p := ⟨ps[k]'(by rw [← HN.out]; exact hlt), List.getElem?_eq_getElem _⟩
      obtain ⟨b, off, ea, c0⟩ := (HV.out.below HI.out.below).cell k _ hp
      have HOK := HV.out.oks _ (List.mem_of_getElem? hp)
      have HZL := HLL.out _ (List.mem_of_getElem? hp)
      have HST := hid (HI.out.step hp HN.out)
      have CL := lent_any ⟨ad, cp, zs⟩ wr (Part.ok_below HOK HI.out.below) HZL
      have hbl : b < wr.heap.size := World.block_lt_of_cell? wr _ c0
      simp only [Part.val] at c0 CL
      have HCL := hid CL
      subst ea
      have hgl : ga < wr.heap.size := heap_lt HI.out.box
      obtain ⟨u0, x0⟩ : ∃ u, wr.cell? ⟨ga, k, none⟩ = some u := ⟨X[k]'(by rw [HI.out.size]; omega), by rw [cell_of_heap HI.out.box, Array.getElem?_eq_getElem]⟩
      have f0 : wr.frozen? ⟨ga, k, none⟩ = false := frozen_of_heap HI.out.box _
      have hk1 : k < n + 1 := by omega
      have hk1' : (k : Int) < (n : Int) + 1 := by omega
      clear hp HOK HZL CL HI
      go_wp2_with (first
        | (go_at_call 22; refine HCL.out.mono ?_; rintro e w2 ⟨rfl, rfl⟩; clear HCL)
        | fail)
      refine ⟨⟨k + 1, _, by omega, by go_num, HST.out⟩, ?_⟩
      simp [intOf]
      omega
    · have hkn : k = n := by omega
      have hi := HI.out
      rw [hkn, HN.out] at hi
      obtain ⟨Y, hY⟩ := hi.marks
      rw [← HN.out] at hY
      have HY : Hid (∃ Y, LpF w ((wr.setCell ⟨ga, n, none⟩ (.slice (some ⟨wr.heap.size, 0, none⟩) 6 6)).alloc (.cells behindC 5 (6, 7))) ga ps Y) := ⟨Y, hY⟩
      have hge : ¬ (k : Int) < n := by omega
      obtain ⟨u0, x0⟩ : ∃ u, wr.cell? ⟨ga, n, none⟩ = some u := ⟨X[n]'(by rw [HI.out.size]; omega), by rw [cell_of_heap HI.out.box, Array.getElem?_eq_getElem]⟩
      have f0 : wr.frozen? ⟨ga, n, none⟩ = false := frozen_of_heap HI.out.box _
      have hgl : ga < wr.heap.size := heap_lt HI.out.box
      have hcc := conv_const wr.heap.size wr behindC 6 6 rfl
      unfold behindC at hcc HY
      simp only [List.size_toArray, List.length_cons, List.length_nil, Nat.zero_add, Nat.reduceAdd] at hcc
      clear hi hY HI
      have hn1 : (n : Int) < (n : Int) + 1 := by omega
      have hn3 : (n : Int) ≤ (n : Int) + 1 := by omega
      have hn4 : n ≤ n + 1 := by omega
      have hn5 : n < n + 1 := by omega
      go_wp2
      go_ret
      exact ⟨rfl, HY.out⟩
end Go.Proofs.Ytmdkanbfpmdimaa
