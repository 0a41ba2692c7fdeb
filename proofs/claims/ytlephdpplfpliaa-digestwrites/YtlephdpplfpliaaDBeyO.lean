/-
  The statements' beyond, of a script; the document's Len.
-/
import Derived.Test.YtlephdpplfpliaaDBey
import Derived.Test.YtlephdpplfpliaaDLent
import Derived.Test.YtlephdpplfpliaaDOpenO
import Derived.Test.YtlephdpplfpliaaDRef9
namespace Go.Proofs.Ytlephdpplfpliaa
open Go.RowKit
set_option linter.all false

def opParts (xs : List OpR) : List Part := xs.map (·.pt)
theorem opParts_getD (xs : List OpR) (i : Nat) : (opParts xs).getD i Part.nil = (xs.getD i OpR.nil).pt := by
  unfold opParts
  simp only [List.getD_eq_getElem?_getD, List.getElem?_map]
  cases xs[i]? <;> rfl
structure BeyI (w wr : World) (v : Value) (xs : List OpR) (k : Nat) : Prop where
  row : Bk.Row wr 37 v ((xs.take k).map fun x => x.pt.val)
  vown : ∀ b, v.ownBlock = some b → w.heap.size ≤ b
  bel : Below w.heap.size w wr
theorem BeyI.next {w wr : World} {v : Value} {xs : List OpR} {k : Nat} (h : BeyI w wr v xs k) (hk : k < xs.length) (hl : xs.length ≤ 3518437208780) :
    ∃ gv cv w3, (Builtin.append_ #[22, 22] 22 #[v, .slice (some ⟨wr.heap.size, 0, none⟩) 1 1]).run Try.prog (wr.alloc (.cells #[(xs.getD k OpR.nil).pt.val] 37)) = .ok (.slice (some ⟨gv, 0, none⟩) (k + 1) cv) w3 ∧ BeyI w w3 (.slice (some ⟨gv, 0, none⟩) (k + 1) cv) xs (k + 1) := by
  have hs := h.bel.size
  have hlen : ((xs.take k).map fun x => x.pt.val).length = k := by simp; omega
  have bw : Below wr.heap.size wr (wr.alloc (.cells #[(xs.getD k OpR.nil).pt.val] 37)) := (Below.refl _ _).alloc (Nat.le_refl _) _
  obtain ⟨v3, w3, r3, row3, gr3, form3⟩ := Bk.append_one 22 22 37 _ 24 Try.underlying22 infoSlD rfl (h.row.below bw) (xs.getD k OpR.nil).pt.val rfl wr.heap.size _ (Bk.heap_new wr _) (by rw [hlen]; unfold maxLen; omega) (by rw [hlen]; omega)
  rw [hlen] at form3
  have hv3 : ∃ gv cv, v3 = .slice (some ⟨gv, 0, none⟩) (k + 1) cv ∧ (v.ownBlock = some gv ∨ wr.heap.size + 1 ≤ gv) := by
    rcases form3 with ⟨g1, cap, e4, e5⟩ | ⟨g1, cap, e5, e6, _⟩
    · exact ⟨g1, cap, e5, Or.inl (by rw [e4]; rfl)⟩
    · exact ⟨g1, cap, e5, Or.inr (by simpa using e6)⟩
  obtain ⟨gv, cv, rfl, hgv⟩ := hv3
  refine ⟨gv, cv, w3, r3, ?_, fun b hb => ?_, ?_⟩
  · rw [List.take_succ_eq_append_getElem hk, List.map_append]
    rw [List.getD_eq_getElem?_getD, List.getElem?_eq_getElem hk] at row3
    exact row3
  · have e' : gv = b := by simpa [Value.ownBlock] using hb
    subst e'
    rcases hgv with h1 | h1
    · exact h.vown _ h1
    · omega
  · exact h.bel.trans ((bw.mono hs).trans ⟨gr3.os, gr3.tape, gr3.output, gr3.size, fun q hq => gr3.block q (by simp; omega) (fun e => by have := h.vown q e.symm; omega)⟩)
theorem BeyI.done {w wr : World} {va : Option Addr} {vc : Nat} {xs : List OpR} (h : BeyI w wr (.slice va xs.length vc) xs xs.length) : ∀ i, i < (opParts xs).length → ∃ b o, va = some ⟨b, o, none⟩ ∧ wr.cell? ⟨b, o + i, none⟩ = some ((opParts xs).getD i Part.nil).val := fun i hi => by
  have hi' : i < xs.length := by simpa [opParts] using hi
  obtain ⟨gv, cv, ev, hcv⟩ := h.row.cell i (by simpa using hi')
  have hva : va = some ⟨gv, 0, none⟩ := by simp [Value.slice.injEq] at ev; exact ev.1
  refine ⟨gv, 0, hva, ?_⟩
  rw [Nat.zero_add, hcv, opParts_getD]
  simp [List.getD_eq_getElem?_getD, List.getElem?_eq_getElem hi']
set_option maxRecDepth 20000 in
set_option maxHeartbeats 2000000 in
theorem beyond_any (a : Option Addr) (cap : Nat) (xs : List OpR) (w : World) (hops : OpsAt w a xs) (hl : ∀ i, i < xs.length → (xs.getD i OpR.nil).pt.zs.length ≤ 140737488355328) (hn : xs.length ≤ 3518437208780) :
    Calls Try.prog 11 #[.slice a xs.length cap] w fun e w' => e = .returned (.bool (decide (2147483647 < bulk (opParts xs)))) ∧ Below w.heap.size w w' := by
  have HP := Bk.hid hops
  have HL := Bk.hid hl
  obtain ⟨N, hN⟩ : ∃ N, N = xs.length := ⟨_, rfl⟩
  have HN := Bk.hid hN
  have HXL := Bk.hid hn
  have HST : Hid (BeyI w w (.slice none 0 0) xs 0) := ⟨by simpa using Bk.Row.nil _ _, by simp [Value.ownBlock], Below.refl _ _⟩
  rw [← hN] at hn ⊢
  clear hN hops hl
  go_enter Try.func11, Try.ntmps11
  go_wp2
  go_loopw [3, 4] (fun v i wr => ∃ (k : Nat) (va : Option Addr) (vc : Nat), k ≤ N ∧ i = .int .i64 k ∧ v = .slice va k vc ∧ Hid (BeyI w wr (.slice va k vc) xs k)) (fun _ i _ => N - (intOf i).toNat)
  case atStart => exact ⟨0, none, 0, Nat.zero_le _, rfl, rfl, HST⟩
  case round =>
    clear HST
    obtain ⟨k, va, vc, hk, rfl, rfl, HI⟩ := hrel
    by_cases hlt : k < N
    · have hlt2 : (k : Int) < N := by omega
      have hkp : k < xs.length := by rw [← HN.out]; exact hlt
      obtain ⟨b, o, ha, e1, e2, e3, ok⟩ := HP.out k hkp
      obtain ⟨gv, cv, w3, r3, hnx⟩ := HI.out.next hkp HXL.out
      have hc3 : wr.cell? ⟨b, o + k * 3 + 2, none⟩ = some (xs.getD k OpR.nil).pt.val := by
        rw [HI.out.bel.cell (p := ⟨b, o + k * 3 + 2, none⟩) (World.block_lt_of_cell? w _ e3)]; exact e3
      have hc1 : wr.cell? ⟨b, o + k * 3, none⟩ = some (.int .i64 (xs.getD k OpR.nil).k) := by
        rw [HI.out.bel.cell (p := ⟨b, o + k * 3, none⟩) (World.block_lt_of_cell? w _ e1)]; exact e1
      have hc2 : wr.cell? ⟨b, o + k * 3 + 1, none⟩ = some (.int .i64 (xs.getD k OpR.nil).i) := by
        rw [HI.out.bel.cell (p := ⟨b, o + k * 3 + 1, none⟩) (World.block_lt_of_cell? w _ e2)]; exact e2
      subst ha
      have HNX := Bk.hid hnx
      have R3 := Bk.hid r3
      clear hnx r3 e1 e2 e3 ok
      generalize (xs.getD k OpR.nil) = q at R3 hc1 hc2 hc3
      obtain ⟨qk, qi, pa, pc, zs⟩ := q
      simp only [Part.val] at R3 hc1 hc2 hc3
      generalize zs.length = l at R3 hc3
      go_wp2_with (first
        | (at_builtin; refine Bk.wpList_append_run _ rfl _ _ 22 22 rfl _ _ rfl rfl R3.out ?_))
      go_roundw
      case rel => exact ⟨k + 1, _, cv, by omega, by go_num, rfl, HNX⟩
      case measure => simp [intOf]; omega
    · have hge : ¬ (k : Int) < N := by omega
      have hkn : k = N := by omega
      subst hkn
      have HBY : Hid (Calls Try.prog 6 #[.slice va k vc] wr fun e w' => e = .returned (.bool (decide (2147483647 < bulk (opParts xs)))) ∧ w' = wr) := by
        have hI := HI.out
        rw [HN.out] at hI
        have := refBeyond_any va vc (opParts xs) wr hI.done (fun p hp => by
          obtain ⟨x, hx, rfl⟩ := List.mem_map.1 hp
          obtain ⟨i, hi, rfl⟩ := List.getElem_of_mem hx
          have h2 := HL.out i hi
          rw [List.getD_eq_getElem?_getD, List.getElem?_eq_getElem hi] at h2
          exact h2) (by have := HXL.out; simp only [opParts, List.length_map]; omega)
        rw [show (opParts xs).length = k by simp [opParts, ← HN.out]] at this
        exact this
      have HB := Bk.hid HI.out.bel
      clear HI
      go_wp2_with fail
      refine HBY.out.mono ?_
      rintro e w' ⟨rfl, h1⟩
      subst w'
      go_wp2_with fail
      go_ret
      exact ⟨rfl, HB.out⟩
theorem refLen_any (p : Nat) (x : HS) (m : Nat) (g c : Nat) (rv : Value) (w : World) (hR : RH p x m w g c rv) :
    Calls Try.prog 19 #[.pointer (some ⟨p, 0, none⟩)] w fun e w' => e = .returned (.int .i64 m) ∧ w' = w := by
  have h2 : w.cell? ⟨p, 2, none⟩ = some (.int .i64 m) := by rw [Bk.cell_of_heap hR.at_]; rfl
  clear hR
  go_enter Try.func19, Try.ntmps19
  go_wp2
  go_ret
  exact ⟨rfl, rfl⟩
end Go.Proofs.Ytlephdpplfpliaa
