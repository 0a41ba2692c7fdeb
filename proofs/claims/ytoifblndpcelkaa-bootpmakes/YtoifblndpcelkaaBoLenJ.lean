import Derived.Test.YtoifblndpcelkaaBMem
import Derived.Test.YtoifblndpcelkaaOMem
import Derived.Deep.RegionHeld3
/-
  The contracts of slipwayref01.Lent and slipwayref01.AsLent: bytes handed in from memory of their own, with two marks behind them. For every seat.
-/
namespace Go.Proofs.Ytoifblndpcelkaa
open Go.RowKit
set_option linter.all false

/-- what Lent has laid, ahead of the marks; with them. -/
def L0 (zs : List Int) : Array Value := (u8s zs ++ [Value.int .u8 0, Value.int .u8 0]).toArray
def L2 (zs : List Int) : Array Value := (u8s zs ++ [Value.int .u8 71, Value.int .u8 72]).toArray

theorem made_old (n : Nat) : madeCells #[Value.int .u8 0] n = (List.replicate n (Value.int .u8 0)).toArray := by
  rw [made_eq]; simp [u8s]
theorem copy_lent (pt : Part) (w : World) (hok : pt.ok w) (ty : TypeId) :
    (Builtin.copy_ #[33, 33] ty #[.slice (some ⟨w.heap.size, 0, none⟩) (pt.zs.length + 2) (pt.zs.length + 2), pt.val]).run Try.prog (w.alloc (.cells (madeCells #[.int .u8 0] (pt.zs.length + 2)) 5))
      = .ok (goInt pt.zs.length) (w.alloc (.cells (L0 pt.zs) 5)) := by
  obtain ⟨a, c, zs⟩ := pt
  simp only [Part.val]
  rcases hok.2.2 with h | ⟨b, o, ha, hc⟩
  · simp only at h
    subst h
    rw [run_copy_none _ _ _ _ 5 _ _ _ _ _ _ Try.underlying33 sizeU8 (by simp)]
    simp [L0, u8s, made_old]
  · simp only at ha hc
    subst ha
    have hcell : ∀ j v, (u8s zs)[j]? = some v → (w.alloc (.cells (madeCells #[.int .u8 0] (zs.length + 2)) 5)).cell? ((⟨b, o, none⟩ : Addr).add j) = some v := by
      intro j v hj
      have hjl : j < zs.length := by
        rcases Nat.lt_or_ge j zs.length with h | h
        · exact h
        · simp [u8s, List.getElem?_eq_none h] at hj
      have := hc j hjl
      have hb : b < w.heap.size := World.block_lt_of_cell? w _ this
      rw [show (⟨b, o, none⟩ : Addr).add j = ⟨b, o + j, none⟩ from by unfold Addr.add; split <;> simp_all, World.cell?_alloc_past _ _ _ hb, this]
      simp [u8s, hjl] at hj
      simp [hjl, hj]
    rw [run_copy_row (P := Try.prog) _ _ _ _ 5 w.heap.size 0 _ _ _ _ _ (madeCells #[.int .u8 0] (zs.length + 2)) 5 (u8s zs) Try.underlying33 sizeU8 (heap_new w _) (by simp [u8s]) hcell (by simp [u8s, size_madeCells]) (u8s_one zs)]
    rw [World.setRow_alloc_new]
    simp only [u8s, List.length_map]
    congr 3
    simp [L0, u8s, made_old]

theorem L0_at (zs : List Int) : (L0 zs)[zs.length]? = some (.int .u8 0) := by simp [L0, u8s]
theorem L1_at (zs : List Int) : ((L0 zs).setIfInBounds zs.length (.int .u8 71))[zs.length + 1]? = some (.int .u8 0) := by
  rw [Array.getElem?_setIfInBounds_ne (by omega)]
  simp [L0, u8s]
theorem L2_eq (zs : List Int) : ((L0 zs).setIfInBounds zs.length (.int .u8 71)).setIfInBounds (zs.length + 1) (.int .u8 72) = L2 zs := by
  simp [L0, L2, u8s]

set_option maxHeartbeats 400000 in
theorem lent_any (pt : Part) (w : World) (hok : pt.ok w) (hl : pt.zs.length ≤ 140737488353280) :
    Calls Try.prog 19 #[pt.val] w fun e w' => e = .returned (.slice (some ⟨w.heap.size, 0, none⟩) pt.zs.length (pt.zs.length + 2)) ∧ w' = w.alloc (.cells (L2 pt.zs) 5) := by
  have hcp := copy_lent pt w hok
  have hmk := fun wx => Go.run_make_row' (P := Try.prog) 33 5 (.int .u8 0) 1 Try.underlying33 infoU8 rfl .i64 .i64 (pt.zs.length + 2) (by omega) (by omega) wx
  have h0 := L0_at pt.zs
  have h1 := L1_at pt.zs
  have H2 : Hid (((L0 pt.zs).setIfInBounds pt.zs.length (.int .u8 71)).setIfInBounds (pt.zs.length + 1) (.int .u8 72) = L2 pt.zs) := L2_eq pt.zs
  unfold Part.val at hcp ⊢
  generalize pt.zs.length = n at *
  generalize L0 pt.zs = A0 at *
  have ec : ((n + 2 : Nat) : Int) = (n : Int) + 2 := by omega
  rw [ec] at hmk
  clear hok
  go_enter Try.func19, Try.ntmps19
  go_wp2
  go_ret
  exact ⟨rfl, by rw [H2.out]⟩

theorem L2_lo (zs : List Int) (j : Nat) (h : j < zs.length) : (L2 zs)[j]? = some (.int .u8 (zs.getD j 0)) := by
  simp [L2, u8s, List.getElem?_append, h, List.getD_eq_getElem?_getD]
theorem L2_n (zs : List Int) : (L2 zs)[zs.length]? = some (.int .u8 71) := by simp [L2, u8s]
theorem L2_n1 (zs : List Int) : (L2 zs)[zs.length + 1]? = some (.int .u8 72) := by simp [L2, u8s]
theorem L2_size (zs : List Int) : (L2 zs).size = zs.length + 2 := by simp [L2, u8s]

set_option maxHeartbeats 1000000 in
theorem asLent_any (g : Nat) (pt : Part) (w : World) (hok : pt.ok w) (hl : pt.zs.length ≤ 140737488353280) (hg : w.heap[g]? = some (.cells (L2 pt.zs) 5 (0, 0))) :
    Calls Try.prog 20 #[.slice (some ⟨g, 0, none⟩) pt.zs.length (pt.zs.length + 2), pt.val] w fun e w' => e = .returned (.bool true) ∧ But g w w' := by
  have c2 : ∀ k, (convert 33 9 pt.val).run Try.prog (w.drewN k) = .ok (.string (strOfNums pt.zs)) (w.drewN k) := fun k => conv_part pt _ (Part.ok_drewN hok k)
  have c1 : ∀ k, (convert 33 9 (.slice (some ⟨g, 0, none⟩) pt.zs.length (pt.zs.length + 2))).run Try.prog (w.drewN k) = .ok (.string (strOfNums pt.zs)) (w.drewN k) := fun k =>
    conv_part ⟨some ⟨g, 0, none⟩, pt.zs.length + 2, pt.zs⟩ _ ⟨hok.1, by simp only; omega, Or.inr ⟨g, 0, rfl, fun j hj => by
      show w.cell? ⟨g, 0 + j, none⟩ = _
      rw [cell_of_heap hg, Nat.zero_add, L2_lo _ _ hj]⟩⟩
  have l1 : w.cell? ⟨g, pt.zs.length, none⟩ = some (.int .u8 71) := by rw [cell_of_heap hg, L2_n]
  have l2 : w.cell? ⟨g, pt.zs.length + 1, none⟩ = some (.int .u8 72) := by rw [cell_of_heap hg, L2_n1]
  have HS : Hid ((L2 pt.zs).size = pt.zs.length + 2) := L2_size pt.zs
  have HG : Hid (w.heap[g]? = some (.cells (L2 pt.zs) 5 (0, 0))) := hg
  unfold Part.val at c2 ⊢
  generalize pt.zs.length = n at *
  generalize strOfNums pt.zs = S at *
  have b1 : (n : Int) < (n : Int) + 2 := by omega
  have b2 : (n : Int) + 1 < (n : Int) + 2 := by omega
  have b3 : (0 : Int) ≤ (n : Int) := by omega
  have b4 : (0 : Int) ≤ (n : Int) + 1 := by omega
  clear hok hg
  go_enter Try.func20, Try.ntmps20
  go_wp2
  go_quiet (fail)
  go_wp2
  go_loopw [8] (fun i wr => ∃ k : Nat, k ≤ n + 2 ∧ i = .int .i64 k ∧ But g w wr ∧ ∃ X : Array Value, wr.heap[g]? = some (.cells X 5 (0, 0)) ∧ X.size = n + 2) (fun i _ => n + 2 - (intOf i).toNat)
  case atStart => exact ⟨0, by omega, rfl, But.drewN g w _, _, HG.out, HS.out⟩
  case round =>
    obtain ⟨k, hk, rfl, ho, X, hX, hXs⟩ := hrel
    have HO : Hid (But g w wr) := ho
    have HX : Hid (wr.heap[g]? = some (.cells X 5 (0, 0))) := hX
    have HXS : Hid (X.size = n + 2) := hXs
    clear ho hX hXs c1 c2 l1 l2
    by_cases hlt : k < n + 2
    · have hlt2 : (k : Int) < (n : Int) + 2 := by omega
      obtain ⟨v, hv⟩ : ∃ v, wr.cell? ⟨g, k, none⟩ = some v := ⟨X[k]'(by rw [HXS.out]; exact hlt), by rw [cell_of_heap HX.out]; simp [HXS.out, hlt]⟩
      have hf : wr.frozen? ⟨g, k, none⟩ = false := frozen_of_heap HX.out k
      go_wp2
      go_roundw
      case rel => exact ⟨k + 1, by omega, by go_num, HO.out.trans (But.setCell _ _ _ _), _, heap_setCell HX.out, by simpa using HXS.out⟩
      case measure => simp [intOf]; omega
    · have hge : ¬ (k : Int) < (n : Int) + 2 := by omega
      go_wp2
      go_ret
      exact ⟨rfl, HO.out⟩
end Go.Proofs.Ytoifblndpcelkaa

/-
  The statements' own function lent (stage 16).
-/
namespace Go.Proofs.Ytoifblndpcelkaa
open Go.RowKit
set_option linter.all false

/-- options of which k are laid in memory of their own. -/
structure LentI (w wr : World) (ga n : Nat) (os : List OP) (k : Nat) (X : Array Value) : Prop where
  box : wr.heap[ga]? = some (.cells X 67 (0, 0))
  size : X.size = (n + 2) * 2
  row : ∀ (i : Nat) o, i < k → os[i]? = some o → X[i * 2]? = some (.int .i64 o.1) ∧ X[i * 2 + 1]? = some (.slice (some ⟨ga + 1 + i, 0, none⟩) o.2.zs.length (o.2.zs.length + 2)) ∧ wr.heap[ga + 1 + i]? = some (.cells (L2 o.2.zs) 5 (0, 0))
  hs : wr.heap.size = ga + 1 + k
  below : Below w.heap.size w wr
  low : w.heap.size ≤ ga
theorem made_opts (n : Nat) (hn : n ≤ 4398046511106) : ∃ X : Array Value, X.size = n * 2 ∧ ∀ wx : World, (Instr.makeSlice 26 (.int .i64 (n : Int)) (.int .i64 (n : Int))).run Try.prog wx = .ok (.slice (some ⟨wx.heap.size, 0, none⟩) n n) (wx.alloc (.cells X 67)) := by
  obtain ⟨i, hi, hz0, hz1, hz2⟩ := info_sz infoOpt
  refine ⟨madeCells (Value.agg #[.int .i64 0, .slice none 0 0]).cells (n * 2), size_madeCells _ _, fun wx => ?_⟩
  · have := run_make (P := Try.prog) wx 26 67 i _ Try.underlying26 hi hz0 .i64 .i64 n n (by omega) (Int.le_refl _) (by rw [hz2]; omega) (by omega)
    rw [this, hz1]
    simp only [Int.toNat_natCast]
theorem LentI.start {w : World} {n : Nat} {os : List OP} {X : Array Value} (hX : X.size = (n + 2) * 2) : LentI w (w.alloc (.cells X 67)) w.heap.size n os 0 X :=
  ⟨heap_new w _, hX, fun i o hi => by omega, by simp, bpush (Below.refl _ _) _, Nat.le_refl _⟩
theorem LentI.step {w wr : World} {ga n k : Nat} {os : List OP} {X : Array Value} {o : OP} (h : LentI w wr ga n os k X) (ho : os[k]? = some o) (hn : n = os.length) :
    LentI w (((wr.setCell ⟨ga, k * 2, none⟩ (.int .i64 o.1)).setCell ⟨ga, k * 2 + 1, none⟩ (.slice (some ⟨wr.heap.size, 0, none⟩) o.2.zs.length (o.2.zs.length + 2))).alloc (.cells (L2 o.2.zs) 5)) ga n os (k + 1) ((X.setIfInBounds (k * 2) (.int .i64 o.1)).setIfInBounds (k * 2 + 1) (.slice (some ⟨wr.heap.size, 0, none⟩) o.2.zs.length (o.2.zs.length + 2))) := by
  have hl := heap_lt h.box
  have hk : k < n := by rw [hn]; exact (List.getElem?_eq_some_iff.1 ho).1
  have hs := h.size
  have hss := h.hs
  have b3 := heap_setCell (j := k * 2 + 1) (v := .slice (some ⟨wr.heap.size, 0, none⟩) o.2.zs.length (o.2.zs.length + 2)) (heap_setCell (j := k * 2) (v := .int .i64 o.1) h.box)
  obtain ⟨W2, hW2⟩ : ∃ W2, W2 = (wr.setCell ⟨ga, k * 2, none⟩ (.int .i64 o.1)).setCell ⟨ga, k * 2 + 1, none⟩ (.slice (some ⟨wr.heap.size, 0, none⟩) o.2.zs.length (o.2.zs.length + 2)) := ⟨_, rfl⟩
  have old : ∀ g, g ≠ ga → W2.heap[g]? = wr.heap[g]? := fun g hg => by
    rw [hW2, Below.heap_setCell _ _ _ _ (by simpa using hg), Below.heap_setCell _ _ _ _ (by simpa using hg)]
  have hz2 : W2.heap.size = wr.heap.size := by rw [hW2]; simp [World.setCell]
  have hb2 : Below w.heap.size w W2 := by rw [hW2]; exact bbut (bbut h.below (But.setCell ga _ _ _) h.low) (But.setCell ga _ _ _) h.low
  rw [← hW2] at b3 ⊢
  refine ⟨(heap_old W2 _ (by omega)).trans b3, by simpa using hs, fun i q hi hq => ?_, ?_, bpush hb2 _, h.low⟩
  · rcases Nat.lt_or_ge i k with h1 | h1
    · obtain ⟨r1, r2, r3⟩ := h.row i q h1 hq
      refine ⟨?_, ?_, ?_⟩
      · rw [Array.getElem?_setIfInBounds_ne (by omega), Array.getElem?_setIfInBounds_ne (by omega)]; exact r1
      · rw [Array.getElem?_setIfInBounds_ne (by omega), Array.getElem?_setIfInBounds_ne (by omega)]; exact r2
      · exact (heap_old W2 _ (by omega)).trans ((old _ (by omega)).trans r3)
    · have : i = k := by omega
      subst this
      rw [ho] at hq
      simp only [Option.some.injEq] at hq
      subst hq
      refine ⟨?_, ?_, ?_⟩
      · rw [Array.getElem?_setIfInBounds_ne (by omega), Array.getElem?_setIfInBounds, if_pos rfl, if_pos (by omega)]
      · rw [Array.getElem?_setIfInBounds, if_pos rfl, if_pos (by simp; omega), hss]
      · have := heap_new W2 (.cells (L2 o.2.zs) 5)
        rw [show ga + 1 + i = W2.heap.size by omega]
        exact this
  · show (W2.alloc _).heap.size = _
    rw [World.size_alloc, hz2, hss]
    omega
/-- all of them, with two marks behind. -/
structure LentF (w wr : World) (ga : Nat) (os : List OP) (X : Array Value) : Prop where
  i : LentI w wr ga os.length os os.length X
  m0 : X[os.length * 2]? = some (.int .i64 (-71))
  m1 : X[os.length * 2 + 1]? = some (.slice none 0 0)
  m2 : X[(os.length + 1) * 2]? = some (.int .i64 (-72))
  m3 : X[(os.length + 1) * 2 + 1]? = some (.slice none 0 0)
theorem LentI.marks {w wr : World} {ga : Nat} {os : List OP} {X : Array Value} (h : LentI w wr ga os.length os os.length X) :
    ∃ Y, LentF w ((((wr.setCell ⟨ga, os.length * 2, none⟩ (.int .i64 (-71))).setCell ⟨ga, os.length * 2 + 1, none⟩ (.slice none 0 0)).setCell ⟨ga, (os.length + 1) * 2, none⟩ (.int .i64 (-72))).setCell ⟨ga, (os.length + 1) * 2 + 1, none⟩ (.slice none 0 0)) ga os Y := by
  have hs := h.size
  have b := heap_setCell (j := (os.length + 1) * 2 + 1) (v := .slice none 0 0) (heap_setCell (j := (os.length + 1) * 2) (v := .int .i64 (-72)) (heap_setCell (j := os.length * 2 + 1) (v := .slice none 0 0) (heap_setCell (j := os.length * 2) (v := .int .i64 (-71)) h.box)))
  refine ⟨_, ⟨b, by simpa using hs, fun i o hi ho => ?_, ?_, ?_, h.low⟩, ?_, ?_, ?_, ?_⟩
  · obtain ⟨r1, r2, r3⟩ := h.row i o hi ho
    refine ⟨?_, ?_, ?_⟩
    · rw [Array.getElem?_setIfInBounds_ne (by omega), Array.getElem?_setIfInBounds_ne (by omega), Array.getElem?_setIfInBounds_ne (by omega), Array.getElem?_setIfInBounds_ne (by omega)]; exact r1
    · rw [Array.getElem?_setIfInBounds_ne (by omega), Array.getElem?_setIfInBounds_ne (by omega), Array.getElem?_setIfInBounds_ne (by omega), Array.getElem?_setIfInBounds_ne (by omega)]; exact r2
    · have hg : ga + 1 + i ≠ ga := by omega
      rw [Below.heap_setCell _ _ _ _ (by simpa using hg), Below.heap_setCell _ _ _ _ (by simpa using hg), Below.heap_setCell _ _ _ _ (by simpa using hg), Below.heap_setCell _ _ _ _ (by simpa using hg)]
      exact r3
  · simp only [World.setCell, Array.size_modify]
    exact h.hs
  · exact bbut (bbut (bbut (bbut h.below (But.setCell ga _ _ _) h.low) (But.setCell ga _ _ _) h.low) (But.setCell ga _ _ _) h.low) (But.setCell ga _ _ _) h.low
  · rw [Array.getElem?_setIfInBounds_ne (by omega), Array.getElem?_setIfInBounds_ne (by omega), Array.getElem?_setIfInBounds_ne (by omega), Array.getElem?_setIfInBounds, if_pos rfl, if_pos (by omega)]
  · rw [Array.getElem?_setIfInBounds_ne (by omega), Array.getElem?_setIfInBounds_ne (by omega), Array.getElem?_setIfInBounds, if_pos rfl, if_pos (by simp; omega)]
  · rw [Array.getElem?_setIfInBounds_ne (by omega), Array.getElem?_setIfInBounds, if_pos rfl, if_pos (by simp; omega)]
  · rw [Array.getElem?_setIfInBounds, if_pos rfl, if_pos (by simp; omega)]
set_option maxRecDepth 20000 in
set_option maxHeartbeats 2000000 in
theorem lentO_any (a : Option Addr) (c : Nat) (os : List OP) (w : World) (h : OV w a os) :
    Calls Try.prog 13 #[.slice a os.length c] w fun e w' => e = .returned (.slice (some ⟨w.heap.size, 0, none⟩) os.length (os.length + 2)) ∧ Hid (∃ X, LentF w w' w.heap.size os X) := by
  obtain ⟨n, hn⟩ : ∃ n, n = os.length := ⟨_, rfl⟩
  have HN := hid hn
  have hf := h.few
  rw [← hn] at hf ⊢
  have HV := hid h
  clear h hn
  obtain ⟨X0, hX0, hmk⟩ := made_opts (n + 2) (by omega)
  have ec : ((n + 2 : Nat) : Int) = (n : Int) + 2 := by omega
  rw [ec] at hmk
  have HI0 : Hid (LentI w (w.alloc (.cells X0 67)) w.heap.size n os 0 X0) := LentI.start hX0
  go_enter Try.func13, Try.ntmps13
  go_wp2
  clear hmk
  generalize w.alloc (.cells X0 67) = W0 at *
  generalize hga : w.heap.size = ga at *
  go_loopw [5] (fun i wr => ∃ (k : Nat) (X : Array Value), k ≤ n ∧ i = .int .i64 k ∧ Hid (LentI w wr ga n os k X)) (fun i _ => n - (intOf i).toNat)
  case atStart => exact ⟨0, X0, Nat.zero_le _, rfl, HI0⟩
  case round =>
    obtain ⟨k, X, hk, rfl, HI⟩ := hrel
    clear HI0
    by_cases hlt : k < n
    · have hlt' : (k : Int) < n := by omega
      obtain ⟨⟨cd, ad, cp, zs⟩, ho⟩ : ∃ o, os[k]? = some o := ⟨os[k]'(by rw [← HN.out]; exact hlt), List.getElem?_eq_getElem _⟩
      obtain ⟨b, off, ea, c0, c1⟩ := (HV.out.below HI.out.below).cell k _ ho
      have HOK := HV.out.oks _ (List.mem_of_getElem? ho)
      have HST := hid (HI.out.step ho HN.out)
      have CL := fun (wx : World) (hw : Below wr.heap.size wr wx) => lent_any ⟨ad, cp, zs⟩ wx (Part.ok_below (Part.ok_below HOK.1 HI.out.below) hw) HOK.2
      have hbl : b < wr.heap.size := World.block_lt_of_cell? wr _ c0
      simp only [Part.val] at c0 c1 CL
      subst ea
      have hgl : ga < wr.heap.size := heap_lt HI.out.box
      have x0 : ∃ u, wr.cell? ⟨ga, k * 2, none⟩ = some u := ⟨X[k * 2]'(by rw [HI.out.size]; omega), by rw [cell_of_heap HI.out.box, Array.getElem?_eq_getElem]⟩
      have x1 : ∃ u, wr.cell? ⟨ga, k * 2 + 1, none⟩ = some u := ⟨X[k * 2 + 1]'(by rw [HI.out.size]; omega), by rw [cell_of_heap HI.out.box, Array.getElem?_eq_getElem]⟩
      obtain ⟨u0, x0⟩ := x0
      obtain ⟨u1, x1⟩ := x1
      have f0 : wr.frozen? ⟨ga, k * 2, none⟩ = false := frozen_of_heap HI.out.box _
      have f1 : wr.frozen? ⟨ga, k * 2 + 1, none⟩ = false := frozen_of_heap HI.out.box _
      simp only at HST
      clear ho HOK
      go_wp2_with (first
        | (go_at_call 19; refine (CL _ (Below.refl _ _)).mono ?_; rintro e w2 ⟨rfl, rfl⟩)
        | fail)
      go_roundw
      case rel => exact ⟨k + 1, _, by omega, by go_num, HST⟩
      case measure => simp [intOf]; omega
    · have hkn : k = n := by omega
      have hi := HI.out
      rw [hkn, HN.out] at hi
      obtain ⟨Y, hY⟩ := hi.marks
      rw [← HN.out] at hY
      have HY : Hid (∃ Y, LentF w ((((wr.setCell ⟨ga, n * 2, none⟩ (.int .i64 (-71))).setCell ⟨ga, n * 2 + 1, none⟩ (.slice none 0 0)).setCell ⟨ga, (n + 1) * 2, none⟩ (.int .i64 (-72))).setCell ⟨ga, (n + 1) * 2 + 1, none⟩ (.slice none 0 0)) ga os Y) := ⟨Y, hY⟩
      have hge : ¬ (k : Int) < n := by omega
      have hsz := HI.out.size
      have x : ∀ j, j < 4 → ∃ u, wr.cell? ⟨ga, n * 2 + j, none⟩ = some u := fun j hj => ⟨X[n * 2 + j]'(by rw [hsz]; omega), by rw [cell_of_heap HI.out.box, Array.getElem?_eq_getElem]⟩
      obtain ⟨u0, x0⟩ := x 0 (by omega)
      obtain ⟨u1, x1⟩ := x 1 (by omega)
      obtain ⟨u2, x2⟩ := x 2 (by omega)
      obtain ⟨u3, x3⟩ := x 3 (by omega)
      have f : ∀ j, wr.frozen? ⟨ga, j, none⟩ = false := fun j => frozen_of_heap HI.out.box j
      have f0 := f (n * 2)
      have f1 := f (n * 2 + 1)
      have f2 := f ((n + 1) * 2)
      have f3 := f ((n + 1) * 2 + 1)
      rw [show n * 2 + 2 = (n + 1) * 2 by omega] at x2
      rw [show n * 2 + 3 = (n + 1) * 2 + 1 by omega] at x3
      simp only [Nat.add_zero] at x0
      clear x f hi hY hsz hkn
      have hn1 : (n : Int) < (n : Int) + 2 := by omega
      have hn2 : (n : Int) + 1 < (n : Int) + 2 := by omega
      have hn3 : (n : Int) ≤ (n : Int) + 2 := by omega
      have hn4 : n ≤ n + 2 := by omega
      go_wp2
      go_ret
      exact ⟨rfl, HY.out⟩
end Go.Proofs.Ytoifblndpcelkaa

/-
  The statements' own function asLent (stage 16).
-/
namespace Go.Proofs.Ytoifblndpcelkaa
open Go.RowKit
set_option linter.all false

/-- blocks from lo to below hi may have turned, and new ones come. -/
structure Btw (lo hi : Nat) (w w' : World) : Prop where
  os : w'.os = w.os
  tape : w'.tape = w.tape
  output : w'.output = w.output
  size : w.heap.size ≤ w'.heap.size
  block : ∀ k, k < w.heap.size → (k < lo ∨ hi ≤ k) → w'.heap[k]? = w.heap[k]?
theorem Btw.refl (lo hi : Nat) (w : World) : Btw lo hi w w := ⟨rfl, rfl, rfl, Nat.le_refl _, fun _ _ _ => rfl⟩
theorem Btw.trans {lo hi : Nat} {x y z : World} (h : Btw lo hi x y) (k : Btw lo hi y z) : Btw lo hi x z :=
  ⟨k.os.trans h.os, k.tape.trans h.tape, k.output.trans h.output, Nat.le_trans h.size k.size, fun i hi hn => (k.block i (Nat.lt_of_lt_of_le hi h.size) hn).trans (h.block i hi hn)⟩
theorem Btw.of_but {lo hi g : Nat} {w w' : World} (h : But g w w') (h1 : lo ≤ g) (h2 : g < hi) : Btw lo hi w w' := ⟨h.os, h.tape, h.output, h.size, fun k hk hn => h.block k (by omega) hk⟩
theorem Btw.of_below {lo hi : Nat} {w w' : World} (h : Below w.heap.size w w') : Btw lo hi w w' := ⟨h.os, h.tape, h.output, h.size, fun k hk _ => h.block k hk⟩
theorem Btw.below {lo hi B : Nat} {w w' : World} (h : Btw lo hi w w') (hB : B ≤ lo) (hs : B ≤ w.heap.size) : Below B w w' := ⟨h.os, h.tape, h.output, h.size, fun k hk => h.block k (by omega) (Or.inl (by omega))⟩
/-- options as their owner handed them in, still as they were. -/
structure LentK (wz : World) (ga : Nat) (os : List OP) (X : Array Value) : Prop where
  box : wz.heap[ga]? = some (.cells X 67 (0, 0))
  size : X.size = (os.length + 2) * 2
  row : ∀ (i : Nat) o, os[i]? = some o → X[i * 2]? = some (.int .i64 o.1) ∧ X[i * 2 + 1]? = some (.slice (some ⟨ga + 1 + i, 0, none⟩) o.2.zs.length (o.2.zs.length + 2)) ∧ wz.heap[ga + 1 + i]? = some (.cells (L2 o.2.zs) 5 (0, 0))
  m0 : X[os.length * 2]? = some (.int .i64 (-71))
  m1 : X[os.length * 2 + 1]? = some (.slice none 0 0)
  m2 : X[(os.length + 1) * 2]? = some (.int .i64 (-72))
  m3 : X[(os.length + 1) * 2 + 1]? = some (.slice none 0 0)
theorem LentF.k {w wr : World} {ga : Nat} {os : List OP} {X : Array Value} (h : LentF w wr ga os X) : LentK wr ga os X :=
  ⟨h.i.box, h.i.size, fun i o ho => h.i.row i o (List.getElem?_eq_some_iff.1 ho).1 ho, h.m0, h.m1, h.m2, h.m3⟩
theorem LentK.keep {w w' : World} {ga : Nat} {os : List OP} {X : Array Value} (h : LentK w ga os X) (hk : ∀ k, ga ≤ k → k < ga + 1 + os.length → w'.heap[k]? = w.heap[k]?) : LentK w' ga os X :=
  ⟨(hk ga (Nat.le_refl _) (by omega)).trans h.box, h.size, fun i o ho => by
    obtain ⟨r1, r2, r3⟩ := h.row i o ho
    have hi := (List.getElem?_eq_some_iff.1 ho).1
    exact ⟨r1, r2, (hk (ga + 1 + i) (by omega) (by omega)).trans r3⟩, h.m0, h.m1, h.m2, h.m3⟩
theorem LentK.lt {w : World} {ga : Nat} {os : List OP} {X : Array Value} (h : LentK w ga os X) : ∀ k, ga ≤ k → k < ga + 1 + os.length → k < w.heap.size := fun k h1 h2 => by
  rcases Nat.lt_or_ge ga k with h3 | h3
  · obtain ⟨i, rfl⟩ : ∃ i, k = ga + 1 + i := ⟨k - (ga + 1), by omega⟩
    have hi : i < os.length := by omega
    exact heap_lt (h.row i _ (List.getElem?_eq_getElem hi)).2.2
  · have : k = ga := by omega
    subst this
    exact heap_lt h.box
theorem LentK.below {w w' : World} {ga : Nat} {os : List OP} {X : Array Value} (h : LentK w ga os X) (hb : Below w.heap.size w w') : LentK w' ga os X := h.keep fun k h1 h2 => hb.block k (h.lt k h1 h2)
/-- what the program is handed. -/
def lentOs (ga : Nat) (os : List OP) : List OP := os.mapIdx fun i o => (o.1, ⟨some ⟨ga + 1 + i, 0, none⟩, o.2.zs.length + 2, o.2.zs⟩)
theorem lentOs_len (ga : Nat) (os : List OP) : (lentOs ga os).length = os.length := by simp [lentOs]
theorem lentOs_abs (ga : Nat) (os : List OP) : absO (lentOs ga os) = absO os := by
  apply List.ext_getElem?
  intro i
  simp only [absO, lentOs, List.getElem?_map, List.getElem?_mapIdx]
  cases os[i]? <;> rfl
theorem LentK.view {w w0 : World} {a : Option Addr} {ga : Nat} {os : List OP} {X : Array Value} (h : LentK w ga os X) (hv : OV w0 a os) : OV w (some ⟨ga, 0, none⟩) (lentOs ga os) := by
  have each : ∀ (i : Nat) q, (lentOs ga os)[i]? = some q → ∃ o, os[i]? = some o ∧ q = (o.1, ⟨some ⟨ga + 1 + i, 0, none⟩, o.2.zs.length + 2, o.2.zs⟩) := fun i q hq => by
    simp only [lentOs, List.getElem?_mapIdx] at hq
    cases ho : os[i]? with
    | none => rw [ho] at hq; simp at hq
    | some o => rw [ho] at hq; simp only [Option.map_some, Option.some.injEq] at hq; exact ⟨o, rfl, hq.symm⟩
  refine ⟨fun i q hq => ?_, fun q hq => ?_, by rw [lentOs_len]; exact hv.few, fun q hq => ?_⟩
  · obtain ⟨o, ho, rfl⟩ := each i q hq
    obtain ⟨r1, r2, r3⟩ := h.row i o ho
    exact ⟨ga, 0, rfl, by rw [Nat.zero_add, cell_of_heap h.box]; exact r1, by rw [Nat.zero_add, cell_of_heap h.box]; exact r2⟩
  · obtain ⟨i, hi⟩ := List.getElem?_of_mem hq
    obtain ⟨o, ho, rfl⟩ := each i q hi
    obtain ⟨r1, r2, r3⟩ := h.row i o ho
    have hok := hv.oks o (List.mem_of_getElem? ho)
    exact ⟨Part.of_heap r3 0 (by omega) (fun j hj => by rw [Nat.zero_add]; exact L2_lo _ _ hj) hok.1.1, hok.2⟩
  · obtain ⟨i, hi⟩ := List.getElem?_of_mem hq
    obtain ⟨o, ho, rfl⟩ := each i q hi
    exact hv.nums o (List.mem_of_getElem? ho)
/-- behind k rounds of the first loop. -/
structure AsI (wz wr : World) (ga : Nat) (os : List OP) (k : Nat) (X : Array Value) : Prop where
  box : wr.heap[ga]? = some (.cells X 67 (0, 0))
  rest : ∀ (i : Nat) o, k ≤ i → os[i]? = some o → wr.heap[ga + 1 + i]? = some (.cells (L2 o.2.zs) 5 (0, 0))
  btw : Btw ga (ga + 1 + os.length) wz wr
theorem AsI.step {w wr w2 : World} {ga k : Nat} {os : List OP} {X : Array Value} (h : AsI w wr ga os k X) (hk : k < os.length) (hb : But (ga + 1 + k) wr w2) (nq : Nat) : AsI w (w2.drewN nq) ga os (k + 1) X := by
  refine ⟨(hb.block ga (by omega) (heap_lt h.box)).trans h.box, fun i o hi ho => ?_, (h.btw.trans (Btw.of_but hb (by omega) (by omega))).trans (Btw.of_but (But.drewN ga w2 nq) (Nat.le_refl _) (by omega))⟩
  have h1 := h.rest i o (by omega) ho
  exact (hb.block (ga + 1 + i) (by omega) (heap_lt h1)).trans h1
set_option maxRecDepth 20000 in
set_option maxHeartbeats 4000000 in
theorem asLentO_any (ga B : Nat) (X : Array Value) (a : Option Addr) (c : Nat) (os : List OP) (w : World) (hk : LentK w ga os X) (hl : Low B w a os) (hB : B ≤ ga) :
    Calls Try.prog 15 #[.slice (some ⟨ga, 0, none⟩) os.length (os.length + 2), .slice a os.length c] w fun e w' => e = .returned (.bool true) ∧ Hid (Btw ga (ga + 1 + os.length) w w') := by
  have HI0 : Hid (AsI w w ga os 0 X) := ⟨hk.box, fun i o _ ho => (hk.row i o ho).2.2, Btw.refl _ _ _⟩
  have HK := hid hk
  have HL := hid hl
  have HSB : Hid (B ≤ w.heap.size) := hid (by have := heap_lt hk.box; omega)
  have k0 : w.cell? ⟨ga, os.length * 2, none⟩ = some (.int .i64 (-71)) := by rw [cell_of_heap hk.box]; exact hk.m0
  have k1 : w.cell? ⟨ga, os.length * 2 + 1, none⟩ = some (.slice none 0 0) := by rw [cell_of_heap hk.box]; exact hk.m1
  have k2 : w.cell? ⟨ga, (os.length + 1) * 2, none⟩ = some (.int .i64 (-72)) := by rw [cell_of_heap hk.box]; exact hk.m2
  have k3 : w.cell? ⟨ga, (os.length + 1) * 2 + 1, none⟩ = some (.slice none 0 0) := by rw [cell_of_heap hk.box]; exact hk.m3
  obtain ⟨n, hn⟩ : ∃ n, n = os.length := ⟨_, rfl⟩
  have HN := hid hn
  have hf := hl.v.few
  rw [← hn] at hf k0 k1 k2 k3 ⊢
  clear hk hl hn
  have hn1 : (n : Int) < (n : Int) + 2 := by omega
  have hn2 : (n : Int) + 1 < (n : Int) + 2 := by omega
  have hn4 : (n : Int) + 2 ≤ ((n + 2 : Nat) : Int) := by omega
  go_enter Try.func15, Try.ntmps15
  go_wp2
  clear k0 k1 k2 k3
  go_loopw [7, 8] (fun g i wr => ∃ k : Nat, k ≤ n ∧ g = .bool true ∧ i = .int .i64 k ∧ Hid (AsI w wr ga os k X)) (fun _ i _ => n - (intOf i).toNat)
  case atStart => exact ⟨0, Nat.zero_le _, rfl, rfl, HI0⟩
  case round =>
    obtain ⟨k, hk, rfl, rfl, HI⟩ := hrel
    clear HI0
    by_cases hlt : k < n
    · have hlt' : (k : Int) < n := by omega
      obtain ⟨⟨cd, ad, cp, zs⟩, ho⟩ : ∃ o, os[k]? = some o := ⟨os[k]'(by rw [← HN.out]; exact hlt), List.getElem?_eq_getElem _⟩
      have hB' : Below B w wr := HI.out.btw.below hB HSB.out
      obtain ⟨b, off, ea, c0, c1⟩ := (HL.out.below hB').v.cell k _ ho
      have hok := (HL.out.below hB').v.oks _ (List.mem_of_getElem? ho)
      obtain ⟨r1, r2, r3⟩ := HK.out.row k _ ho
      have hg := HI.out.rest k _ (Nat.le_refl _) ho
      simp only [Part.val] at c0 c1 r1 r2 hg
      have hlb : b < B := HL.out.row b off ea (fun e => by rw [e] at ho; simp at ho)
      subst ea
      have d0 : wr.cell? ⟨ga, k * 2, none⟩ = some (.int .i64 cd) := by rw [cell_of_heap HI.out.box]; exact r1
      have d1 : wr.cell? ⟨ga, k * 2 + 1, none⟩ = some (.slice (some ⟨ga + 1 + k, 0, none⟩) zs.length (zs.length + 2)) := by rw [cell_of_heap HI.out.box]; exact r2
      have CL : ∀ wx : World, wx.heap = wr.heap → Below wr.heap.size wr wx → Calls Try.prog 20 #[.slice (some ⟨ga + 1 + k, 0, none⟩) zs.length (zs.length + 2), .slice ad zs.length cp] wx fun e w' => e = .returned (.bool true) ∧ w'.cell? ⟨ga, k * 2, none⟩ = some (.int .i64 cd) ∧ w'.cell? ⟨b, off + k * 2, none⟩ = some (.int .i64 cd) ∧ Hid (But (ga + 1 + k) wr w') := fun wx he hb => by
        refine (asLent_any (ga + 1 + k) ⟨ad, cp, zs⟩ wx (Part.ok_below hok.1 hb) hok.2 (by rw [he]; exact hg)).mono ?_
        rintro e w' ⟨h1, h2⟩
        have hbb : But (ga + 1 + k) wr w' := (But.of_below hb).trans h2
        exact ⟨h1, by rw [hbb.cell (p := ⟨ga, k * 2, none⟩) (by simp only; omega) (heap_lt HI.out.box)]; exact d0, by rw [hbb.cell (p := ⟨b, off + k * 2, none⟩) (by simp only; omega) (World.block_lt_of_cell? wr _ c0)]; exact c0, hbb⟩
      have CD := CL wr.drew rfl (Below.refl _ _).drew
      have HO := hid ho
      clear CL ho hok r1 r2 r3 hg
      have hcc : (cd == cd) = true := by simp
      go_wp2
      go_region_with (first
        | (go_at_call 20; refine CD.mono ?_; rintro e w2 ⟨rfl, e0, e1, HW⟩))
      all_goals (try go_wp2)
      all_goals (go_quiet (fail))
      all_goals (try go_wp2)
      all_goals
        refine ⟨⟨k + 1, by omega, rfl, by go_num, HI.out.step (by rw [← HN.out]; exact hlt) HW.out _⟩, ?_⟩
        simp [intOf]
        omega
    · have hge : ¬ (k : Int) < n := by omega
      have HI2 : Hid (Btw ga (ga + 1 + n) w wr ∧ ∃ Y : Array Value, wr.heap[ga]? = some (.cells Y 67 (0, 0)) ∧ Y.size = (n + 2) * 2) := by
        have h1 := HI.out.btw
        have h2 := HK.out.size
        rw [← HN.out] at h1 h2
        exact ⟨h1, X, HI.out.box, h2⟩
      clear HI HK HL HN
      go_wp2
      go_loopw [10] (fun i wr => ∃ k : Nat, k ≤ n + 2 ∧ i = .int .i64 k ∧ Hid (Btw ga (ga + 1 + n) w wr ∧ ∃ Y : Array Value, wr.heap[ga]? = some (.cells Y 67 (0, 0)) ∧ Y.size = (n + 2) * 2)) (fun i _ => n + 2 - (intOf i).toNat)
      case atStart => exact ⟨0, Nat.zero_le _, rfl, HI2⟩
      case round =>
        clear HI2
        obtain ⟨q, hq, rfl, HQ⟩ := hrel
        obtain ⟨hb, Y, hY, hYs⟩ := HQ.out
        by_cases hqn : q < n + 2
        · have hqn' : (q : Int) < (n : Int) + 2 := by omega
          have x0 : wr.cell? ⟨ga, q * 2, none⟩ = some (Y[q * 2]'(by omega)) := by rw [cell_of_heap hY, Array.getElem?_eq_getElem]
          have x1 : wr.cell? ⟨ga, q * 2 + 1, none⟩ = some (Y[q * 2 + 1]'(by omega)) := by rw [cell_of_heap hY, Array.getElem?_eq_getElem]
          have f0 : wr.frozen? ⟨ga, q * 2, none⟩ = false := frozen_of_heap hY _
          have f1 : wr.frozen? ⟨ga, q * 2 + 1, none⟩ = false := frozen_of_heap hY _
          have HN2 : Hid (Btw ga (ga + 1 + n) w ((wr.setCell ⟨ga, q * 2, none⟩ (.int .i64 (-9))).setCell ⟨ga, q * 2 + 1, none⟩ (.slice none 0 0)) ∧ ∃ Y : Array Value, ((wr.setCell ⟨ga, q * 2, none⟩ (.int .i64 (-9))).setCell ⟨ga, q * 2 + 1, none⟩ (.slice none 0 0)).heap[ga]? = some (.cells Y 67 (0, 0)) ∧ Y.size = (n + 2) * 2) :=
            ⟨(hb.trans (Btw.of_but (But.setCell ga _ _ _) (Nat.le_refl _) (by omega))).trans (Btw.of_but (But.setCell ga _ _ _) (Nat.le_refl _) (by omega)), _, heap_setCell (heap_setCell hY), by simpa using hYs⟩
          clear hb hY
          generalize Y[q * 2]'(by omega) = y0 at *
          generalize Y[q * 2 + 1]'(by omega) = y1 at *
          clear hYs
          go_wp2
          go_roundw
          case rel => exact ⟨q + 1, by omega, by go_num, HN2.out⟩
          case measure => simp [intOf]; omega
        · have hqn' : ¬ (q : Int) < (n : Int) + 2 := by omega
          have HB := hid hb
          clear hb hY hYs
          go_wp2
          go_ret
          exact ⟨rfl, HB.out⟩
end Go.Proofs.Ytoifblndpcelkaa
