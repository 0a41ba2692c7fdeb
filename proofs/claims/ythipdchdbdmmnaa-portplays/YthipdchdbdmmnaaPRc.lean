/-
  Port: the document's table: Close.
-/
import Derived.Test.YthipdchdbdmmnaaPRb
namespace Go.Proofs.Ythipdchdbdmmnaa
open Go.RowKit
set_option linter.all false

theorem del_mid {L1 L2 : List Ab} {x : Ab} (h : Rise (L1 ++ x :: L2)) : del (L1 ++ x :: L2) x.ip = L1 ++ L2 := by
  have h' := List.pairwise_append.1 h
  have h2 := List.pairwise_cons.1 h'.2.1
  unfold del
  rw [List.filter_append, List.filter_cons_of_neg (by simp), filter_all (fun y hy => ?_), filter_all (fun y hy => ?_)]
  · have := h2.1 y hy; simp; omega
  · have := h'.2.2 y hy x (by simp); simp; omega
theorem del_at {L : List Ab} (h : Rise L) {I : Nat} {y : Ab} (hy : L[I]? = some y) : del L y.ip = L.take I ++ L.drop (I + 1) := by
  have hI : I < L.length := (List.getElem?_eq_some_iff.1 hy).1
  have e : L = L.take I ++ y :: L.drop (I + 1) := by
    rw [List.getElem?_eq_getElem hI] at hy
    simp at hy
    rw [← hy, ← List.drop_eq_getElem_cons hI, List.take_append_drop]
  have := del_mid (L1 := L.take I) (x := y) (L2 := L.drop (I + 1)) (by rw [← e]; exact h)
  rw [← e] at this
  exact this
/-- the list behind k rounds. -/
def clL (L : List Ab) (I k : Nat) : List Value := if k ≤ I then ptrs (L.take k) else ptrs (L.take I) ++ ptrs ((L.drop (I + 1)).take (k - I - 1))
theorem clL_next {L : List Ab} {I k : Nat} {y : Ab} (hy : L[k]? = some y) (hk : k ≠ I) : clL L I (k + 1) = clL L I k ++ [.pointer (some ⟨y.b, 0, none⟩)] := by
  unfold clL
  by_cases h : k < I
  · rw [if_pos (by omega), if_pos (by omega), ptrs_take hy]
  · rw [if_neg (by omega), if_neg (by omega), show k + 1 - I - 1 = (k - I - 1) + 1 by omega, ptrs_take (L := L.drop (I + 1)) (k := k - I - 1) (y := y) (by rw [List.getElem?_drop, show I + 1 + (k - I - 1) = k by omega]; exact hy), List.append_assoc]
theorem clL_skip (L : List Ab) (I : Nat) : clL L I (I + 1) = clL L I I := by
  unfold clL
  rw [if_neg (by omega), if_pos (Nat.le_refl _), show I + 1 - I - 1 = 0 by omega]
  simp [ptrs]
theorem clL_end {L : List Ab} (h : Rise L) {I : Nat} {y : Ab} (hy : L[I]? = some y) : clL L I L.length = ptrs (del L y.ip) := by
  have hI : I < L.length := (List.getElem?_eq_some_iff.1 hy).1
  unfold clL
  rw [if_neg (by omega), del_at h hy, ptrs_app, List.take_of_length_le (i := L.length - I - 1) (by simp; omega)]
theorem clL_len (L : List Ab) (I k : Nat) : (clL L I k).length ≤ L.length + L.length := by
  unfold clL
  split <;> simp [ptrs] <;> omega
/-- a table with one less. -/
theorem RPoW.dropped {w wr : World} {c : Nat} {v v' : Value} {M D : Int} {L : List Ab} {n : Int} (x : RPoW w c v M D L) (hA : AdI w n v' (ptrs (del L n)) none wr) : RPz w (wr.setCell ⟨c, 0, none⟩ v') c v M D L (adel (abs L) n) := by
  have bu : But c wr (wr.setCell ⟨c, 0, none⟩ v') := But.setCell _ _ _ _
  have hc : c < w.heap.size := heap_lt x.box
  have hs := del_sub L n
  have hkeep : ∀ k, k ≠ c → k < w.heap.size → (wr.setCell ⟨c, 0, none⟩ v').heap[k]? = w.heap[k]? := fun k hk hl => (bu.block k hk (Nat.lt_of_lt_of_le hl hA.bel.size)).trans (hA.bel.block k hl)
  refine ⟨v', del L n, ?_, abs_del _ _, ?_⟩
  · refine { box := ?_, row := hA.row.but bu (fun k hk => by have := hA.from' k hk; omega), rise := x.rise.del n, ents := fun y hy => ?_, nb := x.nb.sublist (hs.map _), nq := x.nq.sublist (hs.filterMap _), most := x.most, depth := x.depth, len := by have := hs.length_le; have := x.len; omega, deep := fun y hy => x.deep y (mem_del.1 hy).1, nums := fun y hy => x.nums y (mem_del.1 hy).1 }
    · have := heap_setCell (j := 0) (v := v') (kept x.box hA.bel)
      simpa using this
    · have hyL := (mem_del.1 hy).1
      refine (x.ents y hyL).keep fun k hk => hkeep k ?_ (x.lt k (Or.inr (Or.inr ⟨y, hyL, hk⟩)))
      rintro rfl
      rcases hk with e | e | ⟨d, hd, e⟩
      · have h1 := (x.ents y hyL).box
        rw [← e, x.box] at h1
        simp at h1
      · obtain ⟨cur, h1⟩ := (x.ents y hyL).row.obj e
        rw [x.box] at h1
        simp at h1
      · obtain ⟨cur, f, h1⟩ := ((x.ents y hyL).data d hd).obj e
        rw [x.box] at h1
        simp at h1
  · refine ⟨⟨bu.os.trans hA.bel.os, bu.tape.trans hA.bel.tape, bu.output.trans hA.bel.output, Nat.le_trans hA.bel.size bu.size, fun k hk hl => hkeep k (fun e => hk (Or.inl e)) hl⟩, ?_⟩
    rintro k (rfl | hv | ⟨y, hy, hk⟩)
    · exact Or.inl (Or.inl rfl)
    · exact Or.inr (hA.from' k hv)
    · exact Or.inl (Or.inr (Or.inr ⟨y, (mem_del.1 hy).1, hk⟩))

set_option maxRecDepth 20000 in
set_option maxHeartbeats 2000000 in
theorem rclose_any (c : Nat) (v : Value) (M D : Int) (L : List Ab) (n : Int) (w : World) (x : RPoW w c v M D L) :
    Calls Try.prog 33 #[.pointer (some ⟨c, 0, none⟩), .int .i64 n] w fun e w' => e = .returned (.bool (alook (abs L) n).isSome) ∧ Hid (RPz w w' c v M D L (adel (abs L) n)) := by
  have HAT := hid (rat_any c v M D L n w x)
  rw [isSome_look]
  cases hl : look L n with
  | none =>
    have h4 : atI L n < 0 := (at_look L n).2 hl
    have e : adel (abs L) n = abs L := by rw [← abs_del, del_none (look_none hl)]
    rw [e]
    have HSM := hid (RPz.same x (Below.refl _ _))
    generalize atI L n = A at *
    clear x e
    go_enter Try.func33, Try.ntmps33
    go_wp2_with fail
    refine HAT.out.mono ?_
    rintro e w1 ⟨rfl, hw⟩
    subst w1
    go_wp2
    go_ret
    exact ⟨rfl, HSM.out⟩
  | some y =>
    obtain ⟨I, hI, hyI⟩ := at_some hl
    have hyn : y.ip = n := by
      unfold look at hl
      have := List.find?_some hl
      simpa using this
    rw [hI] at HAT
    obtain ⟨a, cp, rfl, c0, c1, c2⟩ := x.cells
    have hlen := x.len
    have hm := x.most
    have HX := hid x
    have HBX := hid x.box
    have HEND := hid (clL_end x.rise hyI)
    rw [hyn] at HEND
    have HDR : Hid (∀ v' wr, AdI w n v' (ptrs (del L n)) none wr → RPz w (wr.setCell ⟨c, 0, none⟩ v') c (.slice a L.length cp) M D L (adel (abs L) n)) := fun v' wr h => x.dropped h
    have hIL : I < L.length := (List.getElem?_eq_some_iff.1 hyI).1
    clear x hl hI hyI hyn c1 c2
    obtain ⟨N, HN⟩ : ∃ N, Hid (L.length = N) := ⟨_, rfl⟩
    rw [HN.out] at hlen HX HBX HEND HDR c0 hIL ⊢
    have hN : N ≤ 16 := by omega
    simp only [Option.isSome_some]
    go_enter Try.func33, Try.ntmps33
    go_wp2_with fail
    refine HAT.out.mono ?_
    rintro e w1 ⟨rfl, hw⟩
    subst w1
    have hI0 : ¬ (I : Int) < 0 := by omega
    go_wp2
    go_loopw [6, 7] (fun v i wr => ∃ (k : Nat) (o : Option Addr) (ol oc : Nat), k ≤ N ∧ i = .int .i64 k ∧ v = .slice o ol oc ∧ Hid (AdI w n v (clL L I k) none wr)) (fun _ i _ => N - (intOf i).toNat)
    case atStart => exact ⟨0, none, 0, 0, Nat.zero_le _, rfl, rfl, hid (by have := AdI.start w n; simpa [clL, ptrs] using this)⟩
    case round =>
      obtain ⟨k, o, ol, oc, hk, rfl, rfl, HI⟩ := hrel
      have hc0 : wr.cell? ⟨c, 0, none⟩ = some (.slice a N cp) := cell_of_heap (kept HBX.out HI.out.bel) 0
      by_cases hlt : k < N
      · have hkl : k < L.length := by rw [HN.out]; exact hlt
        obtain ⟨y, hy⟩ : ∃ y, L[k]? = some y := ⟨_, List.getElem?_eq_getElem hkl⟩
        by_cases hkI : k = I
        · subst hkI
          have H1 : Hid (AdI w n (.slice o ol oc) (clL L k (k + 1)) none wr) := by rw [clL_skip]; exact HI.out
          have e1 : ((k : Int) != (k : Int)) = false := by simp
          clear HI
          go_wp2
          go_roundw
          case rel => exact ⟨k + 1, o, ol, oc, by omega, by go_num, rfl, H1.out⟩
          case measure => simp [intOf]; omega
        · obtain ⟨g, hga, hcp⟩ := HX.out.ptr hy
          subst hga
          have hcw : wr.cell? ⟨g, k, none⟩ = some (.pointer (some ⟨y.b, 0, none⟩)) := by
            rw [HI.out.bel.cell (p := ⟨g, k, none⟩) (World.block_lt_of_cell? w _ hcp)]; exact hcp
          obtain ⟨gg, nn, cc, w', hrun, h1⟩ := HI.out.one y.b (by have := clL_len L I k; have := HN.out; omega)
          rw [← clL_next hy hkI] at h1
          have HRUN := hid hrun
          have H1 := hid h1
          have e1 : ((k : Int) != (I : Int)) = true := by simp; omega
          clear hrun h1 HI hcp hy
          generalize y.b = yb at *
          go_wp2_with (first | (at_builtin; refine wpList_append_run _ rfl _ _ 87 87 rfl _ _ rfl rfl HRUN.out ?_; clear HRUN) | fail)
          go_roundw
          case rel => exact ⟨k + 1, _, nn, cc, by omega, by go_num, rfl, H1.out⟩
          case measure => simp [intOf]; omega
      · have hkN : k = N := by omega
        have HE : Hid (AdI w n (.slice o ol oc) (ptrs (del L n)) none wr) := by rw [← HEND.out, ← hkN]; exact HI.out
        have hf0 : wr.frozen? ⟨c, 0, none⟩ = false := frozen_of_heap (kept HBX.out HI.out.bel) 0
        clear HI HEND hkN
        go_wp2
        go_ret
        exact ⟨rfl, HDR.out _ _ HE.out⟩
end Go.Proofs.Ythipdchdbdmmnaa
