/-
  The walk of BootpDecodes. Written by mkbods.py.
-/
import Derived.Test.YtoifblndpcelkaaBoRfD
import Derived.Test.YtoifblndpcelkaaBoRfL
import Derived.Test.YtoifblndpcelkaaBoOwJ
import Derived.Test.YtoifblndpcelkaaBoLiv
import Derived.Test.YtoifblndpcelkaaBLent
namespace Go.Proofs.Ytoifblndpcelkaa
open Go.RowKit
set_option linter.all false

theorem yields_bx {ops : Array Oper} {S : World → Prop} {o : Oper} {a : Act} (hw : Region.wanted o (yielded ops a.tmps) = true) (x : Operand) (ho : o.op = .load 28 x) (g : Nat) (hx : a.eval x = .pointer (some ⟨g, 0, none⟩)) (C : Array Value) (hC : C.size = 18) (hg : ∀ w, S w → w.heap[g]? = some (.cells C 28 (0, 0))) : YieldsIf Try.prog ops S o (.agg C) a :=
  Or.inl ⟨hw, fun w hS => by
    unfold execOp
    simp only [ho, hx, Instr.loadAt, Instr.sureAddr, Sem.run_bind, Sem.run_pure, Result.andThen_ok, load_bp w g C (hg w hS) hC]⟩
theorem OwT.both {B B1 B2 : Nat} {W : World} {va vb : Value} {Ea Eb : List (Opt × Value)} (oa : OwnO B1 W va Ea) (ob : OwnO B2 W vb Eb) (h1 : B ≤ B1) (h2 : B ≤ B2) (hs : ∀ b, InO va Ea b → b < B2) (hla : ∀ p ∈ Ea, p.1.2.length ≤ 140737488351232) (hlb : ∀ p ∈ Eb, p.1.2.length ≤ 140737488351232) (hf : Ea.length + Eb.length ≤ 4000000000000) (hB : B ≤ W.heap.size) : OwT B W va vb Ea Eb := by
  refine ⟨oa.row, ob.row, fun k hk e => ?_, fun k hk => ?_, ⟨fun p hp => ?_, fun p hp b hb => ?_, fun i j p q b hij hp hq hb e => ?_, fun p hp => ?_, fun p hp => ?_, by rw [List.length_append]; exact hf⟩, hB⟩
  · have := hs k (Or.inl hk)
    have := ob.low k e
    omega
  · rcases hk with hk | hk
    · exact Nat.le_trans h1 (oa.low k hk)
    · exact Nat.le_trans h2 (ob.low k hk)
  · rcases List.mem_append.1 hp with hp | hp
    · exact oa.data p hp
    · exact ob.data p hp
  · rcases List.mem_append.1 hp with hp | hp
    · exact Nat.le_trans h1 (oa.dlow p hp b hb)
    · exact Nat.le_trans h2 (ob.dlow p hp b hb)
  · rw [List.getElem?_append] at hp hq
    split at hp <;> split at hq
    · exact oa.apart i j p q b hij hp hq hb e
    · have := hs b (Or.inr ⟨p, List.mem_of_getElem? hp, hb⟩)
      have := ob.dlow q (List.mem_of_getElem? hq) b e
      omega
    · have := hs b (Or.inr ⟨q, List.mem_of_getElem? hq, e⟩)
      have := ob.dlow p (List.mem_of_getElem? hp) b hb
      omega
    · exact ob.apart _ _ p q b (by omega) hp hq hb e
  · rcases List.mem_append.1 hp with hp | hp
    · exact oa.oks p hp
    · exact ob.oks p hp
  · rcases List.mem_append.1 hp with hp | hp
    · exact hla p hp
    · exact hlb p hp
theorem decL_bd {zs : List Int} (hz : ∀ z ∈ zs, 0 ≤ z ∧ z ≤ 255) : (decL (decR zs)).length ≤ 64 ∧ ∀ o ∈ decL (decR zs), o.2.length ≤ zs.length := by
  have he : ∀ e, (decL (.error e)).length ≤ 64 ∧ ∀ o ∈ decL (.error e), o.2.length ≤ zs.length := fun e => ⟨by simp [decL], by simp [decL]⟩
  have h2 : ∀ h R, (∀ g, R = .ok g → g.length ≤ 64 ∧ ∀ o ∈ g, o.2.length ≤ zs.length) → (decL (dec2 zs h R)).length ≤ 64 ∧ ∀ o ∈ decL (dec2 zs h R), o.2.length ≤ zs.length := fun h R hR => by
    cases R with
    | error e => exact he e
    | ok g =>
      obtain ⟨p1, p2⟩ := hR g rfl
      exact ⟨Nat.le_trans (List.length_filter_le _ _) p1, fun o ho => p2 o (List.mem_filter.1 ho).1⟩
  unfold decR
  split
  · exact he _
  · next hu =>
    have h240 : 240 ≤ zs.length := by
      simp only [ne_eq, Decidable.not_not] at hu
      unfold unR at hu
      split at hu
      · omega
      · omega
    have k1 : ∀ g, parseG [] [zs.drop 240] = .ok g → g.length ≤ 64 ∧ ∀ o ∈ g, o.2.length ≤ zs.length := fun g hg => by
      have := okL_took (ps := [zs.drop 240]) (fun p hp z hzp => by simp at hp; subst hp; exact hz z (List.mem_of_mem_drop hzp))
      rw [hg] at this
      exact ⟨this.1.few, fun o ho => Nat.le_trans (sumO_mem ho) (Nat.le_trans this.2 (by simp [sumB]))⟩
    have k2 : ∀ h g, parseG [] (roomsZ zs h) = .ok g → g.length ≤ 64 ∧ ∀ o ∈ g, o.2.length ≤ zs.length := fun h g hg => by
      have := okL_took (rooms_bd hz h)
      rw [hg] at this
      exact ⟨this.1.few, fun o ho => Nat.le_trans (sumO_mem ho) (Nat.le_trans this.2 (rooms_sum zs h h240))⟩
    cases hp : parseG [] [zs.drop 240] with
    | error e => exact he e
    | ok g =>
      simp only [dec1]
      split
      · exact he _
      · refine h2 _ _ (fun g' hg' => ?_)
        split at hg'
        · simp only [Except.ok.injEq] at hg'
          subst hg'
          exact k1 _ hp
        · exact k2 _ _ hg'
theorem lent_ok {pt : Part} {w w' : World} {g : Nat} (hok : pt.ok w) (hl : pt.zs.length ≤ 140737488353280) (hg : w'.heap[g]? = some (.cells (L2 pt.zs) 5 (0, 0))) : Part.ok w' ⟨some ⟨g, 0, none⟩, pt.zs.length + 2, pt.zs⟩ :=
  ⟨hok.1, by simp only; omega, Or.inr ⟨g, 0, rfl, fun j hj => by
    show w'.cell? ⟨g, 0 + j, none⟩ = _
    rw [cell_of_heap hg, Nat.zero_add, L2_lo _ _ hj]⟩⟩
/-- the boxes at the end: the document's message, and two of the program's. -/
structure Mk3 (w : World) (g4 g7 g9 : Nat) (X4 X7 X9 : Array Value) (W : World) : Prop where
  h4 : W.heap[g4]? = some (.cells X4 28 (0, 0))
  h7 : W.heap[g7]? = some (.cells X7 28 (0, 0))
  h9 : W.heap[g9]? = some (.cells X9 28 (0, 0))
  below : Below w.heap.size w W
theorem Mk3.keep {w W W' : World} {g4 g7 g9 : Nat} {X4 X7 X9 : Array Value} (h : Mk3 w g4 g7 g9 X4 X7 X9 W) (hb : Below W.heap.size W W') : Mk3 w g4 g7 g9 X4 X7 X9 W' := ⟨kept h.h4 hb, kept h.h7 hb, kept h.h9 hb, bstep h.below hb⟩
set_option maxRecDepth 20000 in
set_option maxHeartbeats 4000000 in
theorem bootpDecodes_walk (pt : Part) (w : World) (hok : pt.ok w) (hl : pt.zs.length ≤ 140737488351232) :
    Calls Try.prog 5 #[pt.val] w fun e w' => e = .returned (.bool true) ∧ Below w.heap.size w w' := by
  obtain ⟨m, hm⟩ : ∃ m, m = decA (decR pt.zs) := ⟨_, rfl⟩
  obtain ⟨g, hg⟩ : ∃ g, g = decL (decR pt.zs) := ⟨_, rfl⟩
  obtain ⟨E, hE⟩ : ∃ E, E = decX (decR pt.zs) := ⟨_, rfl⟩
  have hmr := decR_ok hok.1 (Nat.le_trans hl (by omega))
  have hgb := decL_bd hok.1
  rw [← hm, ← hg] at hmr
  rw [← hg] at hgb
  have HMR := hid hmr
  have HGB := hid hgb
  have HRD : Hid (∀ W, Below w.heap.size w W → Calls Try.prog 18 #[pt.val] W fun e w' => ∃ a n c, e = .returned (.tuple #[.agg (m.cells (.slice a n c)), .int .i64 E]) ∧ Hid (OptI W w' (.slice a n c) g ∧ Below W.heap.size W w')) := fun W hW => by
    refine (refDecode_any pt W (Part.ok_below hok hW) hl).mono ?_
    rintro e w' ⟨a, n, c, rfl, h1, h2⟩
    rw [← hm, ← hg, ← hE] at *
    exact ⟨a, n, c, rfl, h1, h2⟩
  have HDE : Hid (∀ W ga, W.heap[ga]? = some (.cells (L2 pt.zs) 5 (0, 0)) → Calls Try.prog 10 #[.slice (some ⟨ga, 0, none⟩) pt.zs.length (pt.zs.length + 2)] W fun e w' => ∃ a n c, e = .returned (.tuple #[.agg (m.cells (.slice a n c)), .int .i64 E]) ∧ Hid (OptI W w' (.slice a n c) g ∧ Below W.heap.size W w')) := fun W ga hga => by
    refine (decode_any ⟨some ⟨ga, 0, none⟩, pt.zs.length + 2, pt.zs⟩ W (lent_ok hok (by omega) hga) (by simp only; omega)).mono ?_
    rintro e w' ⟨a, n, c, rfl, h1, h2⟩
    simp only at h1
    rw [← hm, ← hg, ← hE] at *
    exact ⟨a, n, c, rfl, h1, h2⟩
  have HLE : Hid (∀ W, Below w.heap.size w W → Calls Try.prog 19 #[pt.val] W fun e w' => e = .returned (.slice (some ⟨W.heap.size, 0, none⟩) pt.zs.length (pt.zs.length + 2)) ∧ w' = W.alloc (.cells (L2 pt.zs) 5)) := fun W hW => lent_any pt W (Part.ok_below hok hW) (by omega)
  have HAL : Hid (∀ W ga, Below w.heap.size w W → W.heap[ga]? = some (.cells (L2 pt.zs) 5 (0, 0)) → Calls Try.prog 20 #[.slice (some ⟨ga, 0, none⟩) pt.zs.length (pt.zs.length + 2), pt.val] W fun e w' => e = .returned (.bool true) ∧ But ga W w') := fun W ga hW hga => asLent_any ga pt W (Part.ok_below hok hW) (by omega) hga
  have HZL : Hid (pt.zs.length ≤ 140737488351232) := hl
  clear hok hl hm hg hE hmr hgb
  obtain ⟨LC, hLC⟩ : ∃ LC, LC = L2 pt.zs := ⟨_, rfl⟩
  rw [← hLC] at HDE HLE HAL
  clear hLC
  generalize pt.zs.length = n at *
  generalize pt.val = v at *
  have HB0 : Hid (Below w.heap.size w w) := Below.refl _ _
  go_enter Try.func5, Try.ntmps5
  go_upto_region 2 with (first
    | (go_at_call 9; refine (live_any _).mono ?_; rintro e w1 ⟨rfl, HB1⟩)
    | fail)
  have HRD1 := hid (HRD.out _ HB1.out)
  go_upto_region 3 with (first
    | (go_at_call 18; refine HRD1.out.mono ?_; rintro e w2 ⟨a4, n4, c4, rfl, H2⟩
       have hone : Hid (((m.cells (.slice a4 n4 c4))).all (·.oneCell') = true) := by simp [Hid, Bp.cells, Value.oneCell']
       have hinf : Hid ((Try.prog.info? 28).map (·.size) = some (m.cells (.slice a4 n4 c4)).size) := sizeBp
       have hzs : Hid (zeroC.size = (m.cells (.slice a4 n4 c4)).size) := rfl
       have hsz4 : Hid ((m.cells (.slice a4 n4 c4)).size = 18) := rfl
       have h17_4 : Hid ((m.cells (.slice a4 n4 c4))[17]? = some (.slice a4 n4 c4)) := rfl
       have hbp4 : Hid (∀ W, OptI w1 W (.slice a4 n4 c4) g → BpV m g (m.cells (.slice a4 n4 c4)) W) := fun W ⟨E, o, e⟩ => OptI.bp (w := w1) m ⟨E, o, e⟩ HMR.out.1
       generalize m.cells (.slice a4 n4 c4) = X4 at *)
    | (refine wpList_alloc_to rfl 28 rfl zeroC (by kernel_rfl) ?_)
    | (refine wpList_store_row rfl 28 _ _ rfl w2.heap.size X4 rfl rfl 28 _ (heap_new w2 _) hinf.out hzs.out hone.out ?_)
    | fail)
  have hl2 := box_laid w2 X4
  have HO4 := hid (H2.out.1.below hl2.2)
  have HB2 := hid (bstep HB1.out (bstep H2.out.2 hl2.2))
  have H4 := hid hl2.1
  have HS2 : Hid (w1.heap.size ≤ ((w2.alloc (.cells zeroC 28)).setRow w2.heap.size X4).heap.size) := Nat.le_trans H2.out.2.size hl2.2.size
  clear hl2 H2 HRD1 hone hinf hzs
  generalize (w2.alloc (.cells zeroC 28)).setRow w2.heap.size X4 = W2 at *
  generalize w2.heap.size = g4 at *
  have HLE2 := hid (HLE.out _ HB2.out)
  obtain ⟨ga, hga⟩ : ∃ ga, ga = W2.heap.size := ⟨_, rfl⟩
  rw [← hga] at HLE2
  have HGA := hid hga
  have HG4 : Hid (g4 < ga) := hid (by rw [hga]; exact heap_lt H4.out)
  have HO4L : Hid (∀ E, OwnO w1.heap.size W2 (.slice a4 n4 c4) E → ∀ b, InO (.slice a4 n4 c4) E b → b < ga) := fun E o b hb => by rw [hga]; exact (o.lt hb).2
  clear hga
  go_upto_region 4 with (first
    | (go_at_call 19; refine HLE2.out.mono ?_; rintro e w3 ⟨rfl, hw3⟩; have HW3e := hid hw3; clear hw3)
    | fail)
  have HL3 : Hid (w3.heap[ga]? = some (.cells LC 5 (0, 0))) := hid (by rw [HW3e.out, HGA.out]; exact heap_new _ _)
  have HW3 : Hid (Below W2.heap.size W2 w3) := hid (by rw [HW3e.out]; exact bpush (Below.refl _ _) _)
  have HS3 : Hid (w3.heap.size = ga + 1) := hid (by rw [HW3e.out, HGA.out]; simp)
  clear HW3e HLE2
  have H4b := hid (kept H4.out HW3.out)
  have HO4b : Hid (∃ E, OwnO w1.heap.size w3 (.slice a4 n4 c4) E ∧ codes E = g ∧ ∀ b, InO (.slice a4 n4 c4) E b → b < ga) := hid (by
    obtain ⟨E, o, e⟩ := HO4.out
    exact ⟨E, o.below HW3.out, e, HO4L.out E o⟩)
  have HB3 := hid (bstep HB2.out HW3.out)
  clear HO4 HO4L H4 HB2
  have HDE7 := hid (HDE.out w3 ga HL3.out)
  go_upto_region 5 with (first
    | (go_at_call 10; refine HDE7.out.mono ?_; rintro e w4 ⟨a7, n7, c7, rfl, H7c⟩
       have hone : Hid (((m.cells (.slice a7 n7 c7))).all (·.oneCell') = true) := by simp [Hid, Bp.cells, Value.oneCell']
       have hinf : Hid ((Try.prog.info? 28).map (·.size) = some (m.cells (.slice a7 n7 c7)).size) := sizeBp
       have hzs : Hid (zeroC.size = (m.cells (.slice a7 n7 c7)).size) := rfl
       have hsz7 : Hid ((m.cells (.slice a7 n7 c7)).size = 18) := rfl
       have h17_7 : Hid ((m.cells (.slice a7 n7 c7))[17]? = some (.slice a7 n7 c7)) := rfl
       have hbp7 : Hid (∀ W, OptI w3 W (.slice a7 n7 c7) g → BpV m g (m.cells (.slice a7 n7 c7)) W) := fun W ⟨E, o, e⟩ => OptI.bp (w := w3) m ⟨E, o, e⟩ HMR.out.1
       generalize m.cells (.slice a7 n7 c7) = X7 at *)
    | (refine wpList_alloc_to rfl 28 rfl zeroC (by kernel_rfl) ?_)
    | (refine wpList_store_row rfl 28 _ _ rfl w4.heap.size X7 rfl rfl 28 _ (heap_new w4 _) hinf.out hzs.out hone.out ?_)
    | fail)
  have hl7 := box_laid w4 X7
  have hb7 := bstep H7c.out.2 hl7.2
  have HO7 : Hid (∃ E, OwnO w3.heap.size ((w4.alloc (.cells zeroC 28)).setRow w4.heap.size X7) (.slice a7 n7 c7) E ∧ codes E = g ∧ ∀ b, InO (.slice a7 n7 c7) E b → b < ((w4.alloc (.cells zeroC 28)).setRow w4.heap.size X7).heap.size) := hid (by
    obtain ⟨E, o, e⟩ := H7c.out.1.below hl7.2
    exact ⟨E, o, e, fun b hb => (o.lt hb).2⟩)
  have H7 := hid hl7.1
  have HS7 : Hid (w3.heap.size ≤ w4.heap.size) := H7c.out.2.size
  have HZ7 : Hid (w3.heap.size ≤ ((w4.alloc (.cells zeroC 28)).setRow w4.heap.size X7).heap.size) := hb7.size
  have H4c := hid (kept H4b.out hb7)
  have HL4 := hid (kept HL3.out hb7)
  have HB4 := hid (bstep HB3.out hb7)
  have HO4c : Hid (∃ E, OwnO w1.heap.size ((w4.alloc (.cells zeroC 28)).setRow w4.heap.size X7) (.slice a4 n4 c4) E ∧ codes E = g ∧ ∀ b, InO (.slice a4 n4 c4) E b → b < ga) := hid (by
    obtain ⟨E, o, e, l⟩ := HO4b.out
    exact ⟨E, o.below hb7, e, l⟩)
  clear H4b HL3 HB3 HO4b
  clear hl7 hb7 H7c HDE7 hone hinf hzs
  generalize (w4.alloc (.cells zeroC 28)).setRow w4.heap.size X7 = W4 at *
  generalize w4.heap.size = g7 at *
  have HDE9 := hid (HDE.out W4 ga HL4.out)
  go_upto_region 6 with (first
    | (go_at_call 10; refine HDE9.out.mono ?_; rintro e w5 ⟨a9, n9, c9, rfl, H9c⟩
       have hone : Hid (((m.cells (.slice a9 n9 c9))).all (·.oneCell') = true) := by simp [Hid, Bp.cells, Value.oneCell']
       have hinf : Hid ((Try.prog.info? 28).map (·.size) = some (m.cells (.slice a9 n9 c9)).size) := sizeBp
       have hzs : Hid (zeroC.size = (m.cells (.slice a9 n9 c9)).size) := rfl
       have hsz9 : Hid ((m.cells (.slice a9 n9 c9)).size = 18) := rfl
       have h17_9 : Hid ((m.cells (.slice a9 n9 c9))[17]? = some (.slice a9 n9 c9)) := rfl
       have hbp9 : Hid (∀ W, OptI W4 W (.slice a9 n9 c9) g → BpV m g (m.cells (.slice a9 n9 c9)) W) := fun W ⟨E, o, e⟩ => OptI.bp (w := W4) m ⟨E, o, e⟩ HMR.out.1
       generalize m.cells (.slice a9 n9 c9) = X9 at *)
    | (refine wpList_alloc_to rfl 28 rfl zeroC (by kernel_rfl) ?_)
    | (refine wpList_store_row rfl 28 _ _ rfl w5.heap.size X9 rfl rfl 28 _ (heap_new w5 _) hinf.out hzs.out hone.out ?_)
    | fail)
  have hl9 := box_laid w5 X9
  have hb9 := bstep H9c.out.2 hl9.2
  have HO9 : Hid (∃ E, OwnO W4.heap.size ((w5.alloc (.cells zeroC 28)).setRow w5.heap.size X9) (.slice a9 n9 c9) E ∧ codes E = g ∧ ∀ b, InO (.slice a9 n9 c9) E b → b < ((w5.alloc (.cells zeroC 28)).setRow w5.heap.size X9).heap.size) := hid (by
    obtain ⟨E, o, e⟩ := H9c.out.1.below hl9.2
    exact ⟨E, o, e, fun b hb => (o.lt hb).2⟩)
  have H9 := hid hl9.1
  have HS9 : Hid (W4.heap.size ≤ w5.heap.size) := H9c.out.2.size
  have HZ9 : Hid (W4.heap.size ≤ ((w5.alloc (.cells zeroC 28)).setRow w5.heap.size X9).heap.size) := hb9.size
  have H4d := hid (kept H4c.out hb9)
  have H7b := hid (kept H7.out hb9)
  have HL5 := hid (kept HL4.out hb9)
  have HB5 := hid (bstep HB4.out hb9)
  have HO4d : Hid (∃ E, OwnO w1.heap.size ((w5.alloc (.cells zeroC 28)).setRow w5.heap.size X9) (.slice a4 n4 c4) E ∧ codes E = g ∧ ∀ b, InO (.slice a4 n4 c4) E b → b < ga) := hid (by
    obtain ⟨E, o, e, l⟩ := HO4c.out
    exact ⟨E, o.below hb9, e, l⟩)
  have HO7b : Hid (∃ E, OwnO w3.heap.size ((w5.alloc (.cells zeroC 28)).setRow w5.heap.size X9) (.slice a7 n7 c7) E ∧ codes E = g ∧ ∀ b, InO (.slice a7 n7 c7) E b → b < W4.heap.size) := hid (by
    obtain ⟨E, o, e, l⟩ := HO7.out
    exact ⟨E, o.below hb9, e, l⟩)
  clear H4c HL4 HB4 HO4c H7 HO7
  clear hl9 hb9 H9c HDE9 hone hinf hzs
  generalize (w5.alloc (.cells zeroC 28)).setRow w5.heap.size X9 = W5 at *
  generalize w5.heap.size = g9 at *
  have HAL5 := hid (HAL.out _ _ HB5.out HL5.out)
  go_upto_region 7 with (first
    | (go_at_call 20; refine HAL5.out.mono ?_; rintro e w6 ⟨rfl, hb6⟩; have HB6 := hid hb6; clear hb6)
    | fail)
  clear HAL5
  have HBW6 : Hid (Below w.heap.size w w6) := hid (bbut HB5.out HB6.out (by have := HGA.out; have := HB1.out.size; have := HS2.out; omega))
  have HQ6 : Hid (Mk3 w g4 g7 g9 X4 X7 X9 w6) := ⟨keptBut H4d.out HB6.out (by have := HG4.out; omega), keptBut H7b.out HB6.out (by have := HS3.out; have := HS7.out; omega), keptBut H9.out HB6.out (by have := HS3.out; have := HZ7.out; have := HS9.out; omega), HBW6.out⟩
  have HV4 : Hid (BpV m g X4 w6) := hid (by
    obtain ⟨E, o, e, l⟩ := HO4d.out
    exact hbp4.out _ ⟨E, o.keep fun b hb => HB6.out.block b (by have := l b hb; omega) (o.lt hb).2, e⟩)
  have HO7c : Hid (∃ E, OwnO w3.heap.size w6 (.slice a7 n7 c7) E ∧ codes E = g ∧ ∀ b, InO (.slice a7 n7 c7) E b → b < W4.heap.size) := hid (by
    obtain ⟨E, o, e, l⟩ := HO7b.out
    exact ⟨E, o.keep fun b hb => HB6.out.block b (by have := (o.lt hb).1; have := HS3.out; omega) (o.lt hb).2, e, l⟩)
  have HO9c : Hid (∃ E, OwnO W4.heap.size w6 (.slice a9 n9 c9) E ∧ codes E = g) := hid (by
    obtain ⟨E, o, e, l⟩ := HO9.out
    exact ⟨E, o.keep fun b hb => HB6.out.block b (by have := (o.lt hb).1; have := HS3.out; have := HZ7.out; omega) (o.lt hb).2, e⟩)
  have HVS : Hid (∀ W, Below w6.heap.size w6 W → BpV m g X4 W ∧ BpV m g X7 W ∧ BpV m g X9 W) := fun W hW => by
    obtain ⟨E, o, e, l⟩ := HO7c.out
    obtain ⟨E', o', e'⟩ := HO9c.out
    exact ⟨HV4.out.below hW, hbp7.out _ ⟨E, o.below hW, e⟩, hbp9.out _ ⟨E', o'.below hW, e'⟩⟩
  have HINF : Hid (∀ X : Array Value, X.size = 18 → (Try.prog.info? 28).map (·.size) = some X.size) := fun X h => by rw [h]; exact sizeBp
  clear HO4d HO7b HO9 H4d H7b H9 HB5 HL5 HBW6
  have HR6 : Hid (Below w6.heap.size w6 w6) := Below.refl _ _
  go_upto_region 8 with (first
    | (refine wpList_load_row rfl 28 _ rfl g7 rfl 28 X7 (0, 0) _ HQ6.out.h7 Try.underlying28 rfl (HINF.out _ hsz7.out) ?_)
    | (refine wpList_load_row rfl 28 _ rfl g4 rfl 28 X4 (0, 0) _ HQ6.out.h4 Try.underlying28 rfl (HINF.out _ hsz4.out) ?_)
    | (go_at_call 21; refine (bp_same HMR.out.2 (HVS.out _ HR6.out).2.1 (HVS.out _ HR6.out).1).mono ?_; rintro e w7 ⟨rfl, HB7⟩)
    | fail)
  have HQ7 := hid (HQ6.out.keep HB7.out)
  clear HQ6
  go_upto_region 9 with (first
    | (refine wpList_load_row rfl 28 _ rfl g9 rfl 28 X9 (0, 0) _ HQ7.out.h9 Try.underlying28 rfl (HINF.out _ hsz9.out) ?_)
    | (refine wpList_load_row rfl 28 _ rfl g4 rfl 28 X4 (0, 0) _ HQ7.out.h4 Try.underlying28 rfl (HINF.out _ hsz4.out) ?_)
    | (go_at_call 21; refine (bp_same HMR.out.2 (HVS.out _ HB7.out).2.2 (HVS.out _ HB7.out).1).mono ?_; rintro e w8 ⟨rfl, HB8⟩)
    | fail)
  have HQ8 := hid (HQ7.out.keep HB8.out)
  have HBX8 := hid (bstep HB7.out HB8.out)
  clear HQ7
  obtain ⟨S, hSd⟩ : ∃ S : World → Prop, S = fun w' => Hid (w'.heap[g4]? = some (.cells X4 28 (0, 0)) ∧ w'.heap[g7]? = some (.cells X7 28 (0, 0))) := ⟨_, rfl⟩
  have HS4' : Hid (∀ W, S W → W.heap[g4]? = some (.cells X4 28 (0, 0))) := fun W h => by rw [hSd] at h; exact h.out.1
  have HS7' : Hid (∀ W, S W → W.heap[g7]? = some (.cells X7 28 (0, 0))) := fun W h => by rw [hSd] at h; exact h.out.2
  have HST : Hid (∀ W W', Below W.heap.size W W' → S W → S W') := fun W W' hb h => by rw [hSd] at h ⊢; exact ⟨kept h.out.1 hb, kept h.out.2 hb⟩
  have HSS : Hid (S w8) := by unfold Hid; rw [hSd]; exact ⟨HQ8.out.h4, HQ8.out.h7⟩
  have HTY1 : Hid (∀ W, Below w6.heap.size w6 W → Calls Try.prog 22 #[.agg X7] W fun e w' => e = .returned (.int .i64 (typG g)) ∧ Hid (Below W.heap.size W w')) := fun W hb => bp_type (HVS.out _ hb).2.1
  have HTY2 : Hid (∀ W, Below w6.heap.size w6 W → Calls Try.prog 23 #[.agg X4] W fun e w' => e = .returned (.int .i64 (typG g)) ∧ Hid (Below W.heap.size W w')) := fun W hb => bp_refType (HVS.out _ hb).1
  generalize typG g = T1 at *
  have HB8d : Hid (Below w8.heap.size w8 w8.drew) := (Below.refl _ _).drew
  have HX8d := hid (bstep HBX8.out HB8d.out)
  clear hSd
  refine wp_region_noPanic ?_
  refine wp_region_held_drew (S := S) (by kernel_rfl) (HST.out _ _ HB8d.out HSS.out) (fun hHeld => ?_)
  refine wpAnyH_take (i := 0) (oi := { dst := some 41, op := .move (.tmp 3), type := _, pos := _, after := _, guard := none }) (v := .bool true) rfl (by kernel_rfl) (by kernel_rfl) (by kernel_rfl) (fun _ _ _ h => h) (Or.inl ⟨by rfl, fun wq hSw => by go_simp⟩) (by assumption) ?_
  try simp only [Act.put, List.setIfInBounds_toArray, List.set_cons_zero, List.set_cons_succ]
  refine wpAnyH_take (i := 1) (oi := { dst := some 42, op := .unOp .not 4 (.tmp 41), type := _, pos := _, after := _, guard := none }) (v := .bool false) rfl (by kernel_rfl) (by kernel_rfl) (by kernel_rfl) (fun _ _ _ h => h) (Or.inl ⟨by rfl, fun wq hSw => by go_simp⟩) (by assumption) ?_
  try simp only [Act.put, List.setIfInBounds_toArray, List.set_cons_zero, List.set_cons_succ]
  refine wpAnyH_take (i := 2) (oi := { dst := some 43, op := .move (.tmp 42), type := _, pos := _, after := _, guard := none }) (v := .bool false) rfl (by kernel_rfl) (by kernel_rfl) (by kernel_rfl) (fun _ _ _ h => h) (Or.inl ⟨by rfl, fun wq hSw => by go_simp⟩) (by assumption) ?_
  try simp only [Act.put, List.setIfInBounds_toArray, List.set_cons_zero, List.set_cons_succ]
  refine wpAnyH_take (i := 3) (oi := { dst := some 44, op := .move (.tmp 11), type := _, pos := _, after := _, guard := some (2, false) }) (v := .bool true) rfl (by kernel_rfl) (by kernel_rfl) (by kernel_rfl) (fun _ _ _ h => h) (Or.inl ⟨by rfl, fun wq hSw => by go_simp⟩) (by assumption) ?_
  try simp only [Act.put, List.setIfInBounds_toArray, List.set_cons_zero, List.set_cons_succ]
  refine wpAnyH_take (i := 4) (oi := { dst := some 45, op := .unOp .not 4 (.tmp 44), type := _, pos := _, after := _, guard := some (2, false) }) (v := .bool false) rfl (by kernel_rfl) (by kernel_rfl) (by kernel_rfl) (fun _ _ _ h => h) (Or.inl ⟨by rfl, fun wq hSw => by go_simp⟩) (by assumption) ?_
  try simp only [Act.put, List.setIfInBounds_toArray, List.set_cons_zero, List.set_cons_succ]
  refine wpAnyH_take (i := 5) (oi := { dst := some 46, op := .pick (.tmp 43) (.const (.bool true)) (.tmp 45), type := _, pos := _, after := _, guard := none }) (v := .bool false) rfl (by kernel_rfl) (by kernel_rfl) (by kernel_rfl) (fun _ _ _ h => h) (Or.inl ⟨by rfl, fun wq hSw => by go_simp⟩) (by assumption) ?_
  try simp only [Act.put, List.setIfInBounds_toArray, List.set_cons_zero, List.set_cons_succ]
  refine wpAnyH_take (i := 6) (oi := { dst := some 47, op := .move (.tmp 46), type := _, pos := _, after := _, guard := none }) (v := .bool false) rfl (by kernel_rfl) (by kernel_rfl) (by kernel_rfl) (fun _ _ _ h => h) (Or.inl ⟨by rfl, fun wq hSw => by go_simp⟩) (by assumption) ?_
  try simp only [Act.put, List.setIfInBounds_toArray, List.set_cons_zero, List.set_cons_succ]
  refine wpAnyH_take (i := 7) (oi := { dst := some 48, op := .move (.tmp 8), type := _, pos := _, after := _, guard := some (6, false) }) (v := .int .i64 E) rfl (by kernel_rfl) (by kernel_rfl) (by kernel_rfl) (fun _ _ _ h => h) (Or.inl ⟨by rfl, fun wq hSw => by go_simp⟩) (by assumption) ?_
  try simp only [Act.put, List.setIfInBounds_toArray, List.set_cons_zero, List.set_cons_succ]
  refine wpAnyH_take (i := 8) (oi := { dst := some 49, op := .move (.tmp 5), type := _, pos := _, after := _, guard := some (6, false) }) (v := .int .i64 E) rfl (by kernel_rfl) (by kernel_rfl) (by kernel_rfl) (fun _ _ _ h => h) (Or.inl ⟨by rfl, fun wq hSw => by go_simp⟩) (by assumption) ?_
  try simp only [Act.put, List.setIfInBounds_toArray, List.set_cons_zero, List.set_cons_succ]
  refine wpAnyH_take (i := 9) (oi := { dst := some 50, op := .binOp .neq 29 (.tmp 48) (.tmp 49) 29, type := _, pos := _, after := _, guard := some (6, false) }) (v := .bool false) rfl (by kernel_rfl) (by kernel_rfl) (by kernel_rfl) (fun _ _ _ h => h) (Or.inl ⟨by rfl, fun wq hSw => by go_simp⟩) (by assumption) ?_
  try simp only [Act.put, List.setIfInBounds_toArray, List.set_cons_zero, List.set_cons_succ]
  refine wpAnyH_take (i := 10) (oi := { dst := some 51, op := .pick (.tmp 47) (.const (.bool true)) (.tmp 50), type := _, pos := _, after := _, guard := none }) (v := .bool false) rfl (by kernel_rfl) (by kernel_rfl) (by kernel_rfl) (fun _ _ _ h => h) (Or.inl ⟨by rfl, fun wq hSw => by go_simp⟩) (by assumption) ?_
  try simp only [Act.put, List.setIfInBounds_toArray, List.set_cons_zero, List.set_cons_succ]
  refine wpAnyH_take (i := 11) (oi := { dst := some 52, op := .move (.tmp 51), type := _, pos := _, after := _, guard := none }) (v := .bool false) rfl (by kernel_rfl) (by kernel_rfl) (by kernel_rfl) (fun _ _ _ h => h) (Or.inl ⟨by rfl, fun wq hSw => by go_simp⟩) (by assumption) ?_
  try simp only [Act.put, List.setIfInBounds_toArray, List.set_cons_zero, List.set_cons_succ]
  refine wpAnyH_take (i := 12) (oi := { dst := some 53, op := .move (.tmp 10), type := _, pos := _, after := _, guard := some (11, false) }) (v := .int .i64 E) rfl (by kernel_rfl) (by kernel_rfl) (by kernel_rfl) (fun _ _ _ h => h) (Or.inl ⟨by rfl, fun wq hSw => by go_simp⟩) (by assumption) ?_
  try simp only [Act.put, List.setIfInBounds_toArray, List.set_cons_zero, List.set_cons_succ]
  refine wpAnyH_take (i := 13) (oi := { dst := some 54, op := .move (.tmp 5), type := _, pos := _, after := _, guard := some (11, false) }) (v := .int .i64 E) rfl (by kernel_rfl) (by kernel_rfl) (by kernel_rfl) (fun _ _ _ h => h) (Or.inl ⟨by rfl, fun wq hSw => by go_simp⟩) (by assumption) ?_
  try simp only [Act.put, List.setIfInBounds_toArray, List.set_cons_zero, List.set_cons_succ]
  refine wpAnyH_take (i := 14) (oi := { dst := some 55, op := .binOp .neq 29 (.tmp 53) (.tmp 54) 29, type := _, pos := _, after := _, guard := some (11, false) }) (v := .bool false) rfl (by kernel_rfl) (by kernel_rfl) (by kernel_rfl) (fun _ _ _ h => h) (Or.inl ⟨by rfl, fun wq hSw => by go_simp⟩) (by assumption) ?_
  try simp only [Act.put, List.setIfInBounds_toArray, List.set_cons_zero, List.set_cons_succ]
  refine wpAnyH_take (i := 15) (oi := { dst := some 56, op := .pick (.tmp 52) (.const (.bool true)) (.tmp 55), type := _, pos := _, after := _, guard := none }) (v := .bool false) rfl (by kernel_rfl) (by kernel_rfl) (by kernel_rfl) (fun _ _ _ h => h) (Or.inl ⟨by rfl, fun wq hSw => by go_simp⟩) (by assumption) ?_
  try simp only [Act.put, List.setIfInBounds_toArray, List.set_cons_zero, List.set_cons_succ]
  refine wpAnyH_take (i := 16) (oi := { dst := some 57, op := .move (.tmp 56), type := _, pos := _, after := _, guard := none }) (v := .bool false) rfl (by kernel_rfl) (by kernel_rfl) (by kernel_rfl) (fun _ _ _ h => h) (Or.inl ⟨by rfl, fun wq hSw => by go_simp⟩) (by assumption) ?_
  try simp only [Act.put, List.setIfInBounds_toArray, List.set_cons_zero, List.set_cons_succ]
  refine wpAnyH_take (i := 17) (oi := { dst := some 58, op := .move (.tmp 12), type := _, pos := _, after := _, guard := some (16, false) }) (v := .bool true) rfl (by kernel_rfl) (by kernel_rfl) (by kernel_rfl) (fun _ _ _ h => h) (Or.inl ⟨by rfl, fun wq hSw => by go_simp⟩) (by assumption) ?_
  try simp only [Act.put, List.setIfInBounds_toArray, List.set_cons_zero, List.set_cons_succ]
  refine wpAnyH_take (i := 18) (oi := { dst := some 59, op := .unOp .not 4 (.tmp 58), type := _, pos := _, after := _, guard := some (16, false) }) (v := .bool false) rfl (by kernel_rfl) (by kernel_rfl) (by kernel_rfl) (fun _ _ _ h => h) (Or.inl ⟨by rfl, fun wq hSw => by go_simp⟩) (by assumption) ?_
  try simp only [Act.put, List.setIfInBounds_toArray, List.set_cons_zero, List.set_cons_succ]
  refine wpAnyH_take (i := 19) (oi := { dst := some 60, op := .pick (.tmp 57) (.const (.bool true)) (.tmp 59), type := _, pos := _, after := _, guard := none }) (v := .bool false) rfl (by kernel_rfl) (by kernel_rfl) (by kernel_rfl) (fun _ _ _ h => h) (Or.inl ⟨by rfl, fun wq hSw => by go_simp⟩) (by assumption) ?_
  try simp only [Act.put, List.setIfInBounds_toArray, List.set_cons_zero, List.set_cons_succ]
  refine wpAnyH_take (i := 20) (oi := { dst := some 61, op := .move (.tmp 60), type := _, pos := _, after := _, guard := none }) (v := .bool false) rfl (by kernel_rfl) (by kernel_rfl) (by kernel_rfl) (fun _ _ _ h => h) (Or.inl ⟨by rfl, fun wq hSw => by go_simp⟩) (by assumption) ?_
  try simp only [Act.put, List.setIfInBounds_toArray, List.set_cons_zero, List.set_cons_succ]
  refine wpAnyH_take (i := 21) (oi := { dst := some 62, op := .move (.tmp 13), type := _, pos := _, after := _, guard := some (20, false) }) (v := .bool true) rfl (by kernel_rfl) (by kernel_rfl) (by kernel_rfl) (fun _ _ _ h => h) (Or.inl ⟨by rfl, fun wq hSw => by go_simp⟩) (by assumption) ?_
  try simp only [Act.put, List.setIfInBounds_toArray, List.set_cons_zero, List.set_cons_succ]
  refine wpAnyH_take (i := 22) (oi := { dst := some 63, op := .unOp .not 4 (.tmp 62), type := _, pos := _, after := _, guard := some (20, false) }) (v := .bool false) rfl (by kernel_rfl) (by kernel_rfl) (by kernel_rfl) (fun _ _ _ h => h) (Or.inl ⟨by rfl, fun wq hSw => by go_simp⟩) (by assumption) ?_
  try simp only [Act.put, List.setIfInBounds_toArray, List.set_cons_zero, List.set_cons_succ]
  refine wpAnyH_take (i := 23) (oi := { dst := some 64, op := .pick (.tmp 61) (.const (.bool true)) (.tmp 63), type := _, pos := _, after := _, guard := none }) (v := .bool false) rfl (by kernel_rfl) (by kernel_rfl) (by kernel_rfl) (fun _ _ _ h => h) (Or.inl ⟨by rfl, fun wq hSw => by go_simp⟩) (by assumption) ?_
  try simp only [Act.put, List.setIfInBounds_toArray, List.set_cons_zero, List.set_cons_succ]
  refine wpAnyH_take (i := 24) (oi := { dst := some 65, op := .move (.tmp 64), type := _, pos := _, after := _, guard := none }) (v := .bool false) rfl (by kernel_rfl) (by kernel_rfl) (by kernel_rfl) (fun _ _ _ h => h) (Or.inl ⟨by rfl, fun wq hSw => by go_simp⟩) (by assumption) ?_
  try simp only [Act.put, List.setIfInBounds_toArray, List.set_cons_zero, List.set_cons_succ]
  refine wpAnyH_take (i := 25) (oi := { dst := some 66, op := .load 28 (.tmp 7), type := _, pos := _, after := _, guard := some (24, false) }) (v := .agg X7) rfl (by kernel_rfl) (by kernel_rfl) (by kernel_rfl) (fun _ _ _ h => h) (yields_bx (by rfl) (.tmp 7) rfl g7 rfl X7 hsz7.out HS7'.out) (by assumption) ?_
  try simp only [Act.put, List.setIfInBounds_toArray, List.set_cons_zero, List.set_cons_succ]
  refine wpAnyH_take (i := 27) (oi := { dst := some 68, op := .load 28 (.tmp 4), type := _, pos := _, after := _, guard := some (24, false) }) (v := .agg X4) rfl (by kernel_rfl) (by kernel_rfl) (by kernel_rfl) (fun _ _ _ h => h) (yields_bx (by rfl) (.tmp 4) rfl g4 rfl X4 hsz4.out HS4'.out) (by assumption) ?_
  try simp only [Act.put, List.setIfInBounds_toArray, List.set_cons_zero, List.set_cons_succ]
  refine wpAnyH_ready (rs := [26]) (by kernel_rfl) (by simp) ?_
  refine AllReadyH.cons (o := { dst := some 67, op := .call { callee := .value (.func 22), args := #[.tmp 66], argTypes := #[28] }, type := _, pos := _, after := _, guard := some (24, false) }) rfl (fun K hK => ?_) AllReadyH.nil
  go_simp
  refine (HTY1.out w8.drew HX8d.out).mono ?_
  rintro e w9 ⟨rfl, HB9⟩
  have HB9s := hid (HST.out _ _ HB9.out hHeld)
  refine hK.out _ _ HB9s.out (fun hHeld => ?_)
  clear hK
  try simp only [Act.put, List.setIfInBounds_toArray, List.set_cons_zero, List.set_cons_succ]
  have HX9 := hid (bstep HX8d.out HB9.out)
  refine wpAnyH_ready (rs := [28]) (by kernel_rfl) (by simp) ?_
  refine AllReadyH.cons (o := { dst := some 69, op := .call { callee := .value (.func 23), args := #[.tmp 68], argTypes := #[28] }, type := _, pos := _, after := _, guard := some (24, false) }) rfl (fun K hK => ?_) AllReadyH.nil
  go_simp
  refine (HTY2.out w9 HX9.out).mono ?_
  rintro e w10 ⟨rfl, HB10⟩
  have HB10s := hid (HST.out _ _ HB10.out hHeld)
  refine hK.out _ _ HB10s.out (fun hHeld => ?_)
  clear hK
  try simp only [Act.put, List.setIfInBounds_toArray, List.set_cons_zero, List.set_cons_succ]
  have HX10 := hid (bstep HX9.out HB10.out)
  refine wpAnyH_take (i := 29) (oi := { dst := some 70, op := .binOp .neq 3 (.tmp 67) (.tmp 69) 3, type := _, pos := _, after := _, guard := some (24, false) }) (v := .bool false) rfl (by kernel_rfl) (by kernel_rfl) (by kernel_rfl) (fun _ _ _ h => h) (Or.inl ⟨by rfl, fun wq hSw => by go_simp⟩) (by assumption) ?_
  try simp only [Act.put, List.setIfInBounds_toArray, List.set_cons_zero, List.set_cons_succ]
  refine wpAnyH_take (i := 30) (oi := { dst := some 71, op := .pick (.tmp 65) (.const (.bool true)) (.tmp 70), type := _, pos := _, after := _, guard := none }) (v := .bool false) rfl (by kernel_rfl) (by kernel_rfl) (by kernel_rfl) (fun _ _ _ h => h) (Or.inl ⟨by rfl, fun wq hSw => by go_simp⟩) (by assumption) ?_
  try simp only [Act.put, List.setIfInBounds_toArray, List.set_cons_zero, List.set_cons_succ]
  refine wpAnyH_done (by kernel_rfl) ?_ _
  refine NoPanic.normal ?_
  have HQ10 := hid (((HQ8.out.keep HB8d.out).keep HB9.out).keep HB10.out)
  have k7 : w10.cell? ⟨g7, 17, none⟩ = some (.slice a7 n7 c7) := (cell_of_heap HQ10.out.h7 17).trans h17_7.out
  have k9 : w10.cell? ⟨g9, 17, none⟩ = some (.slice a9 n9 c9) := (cell_of_heap HQ10.out.h9 17).trans h17_9.out
  have HOW : Hid (Calls Try.prog 24 #[.slice a7 n7 c7, .slice a9 n9 c9] w10 fun e w' => e = .returned (.bool true) ∧ Hid (Below w.heap.size w10 w')) := by
    obtain ⟨Ea, oa0, ea, hla0⟩ := HO7c.out
    obtain ⟨Eb, ob0, eb⟩ := HO9c.out
    have oa := oa0.below HX10.out
    have ob := ob0.below HX10.out
    have lens : ∀ Ex : List (Opt × Value), codes Ex = g → (∀ p ∈ Ex, p.1.2.length ≤ 140737488351232) ∧ Ex.length ≤ 64 := fun Ex ex => ⟨fun p hp => by
      have : p.1 ∈ g := by rw [← ex]; exact List.mem_map.2 ⟨p, hp, rfl⟩
      exact Nat.le_trans (HGB.out.2 _ this) HZL.out, by
      have := HGB.out.1
      rw [← ex] at this
      simpa [codes] using this⟩
    have l1 : w.heap.size ≤ w3.heap.size := by have := HB1.out.size; have := HS2.out; have := HGA.out; have := HS3.out; omega
    have l2 : w.heap.size ≤ W4.heap.size := by have := HZ7.out; omega
    obtain ⟨_, _, e1, _⟩ := oa.form
    obtain ⟨_, _, e2, _⟩ := ob.form
    simp only [Value.slice.injEq] at e1 e2
    exact owned16_any w.heap.size a7 a9 n7 n9 c7 c9 Ea Eb w10 e1.2.1 e2.2.1 (OwT.both oa ob l1 l2 hla0 (lens _ ea).1 (lens _ eb).1 (by have := (lens _ ea).2; have := (lens _ eb).2; omega) HQ10.out.below.size)
  have HBQ := hid HQ10.out.below
  go_wp2_with (first
    | (go_at_call 24; refine HOW.out.mono ?_; rintro e w15 ⟨rfl, HB15⟩)
    | fail)
  go_ret
  exact ⟨rfl, HBQ.out.trans HB15.out⟩
end Go.Proofs.Ytoifblndpcelkaa
