/-
  One call of a script on two hashes of the program's and two of the document's: what is known between the calls.
-/
import Derived.Test.YtlephdpplfpliaaDWr1
import Derived.Test.YtlephdpplfpliaaDLive
namespace Go.Proofs.Ytlephdpplfpliaa
open Go.RowKit
set_option linter.all false

theorem and_one (v : Int) : ∃ k : Nat, k < 2 ∧ bits .and .i64 v 1 = k := by
  refine ⟨(BitVec.ofInt 64 v).toNat % 2, Nat.mod_lt _ (by decide), ?_⟩
  have e : (BitVec.ofInt 64 v &&& BitVec.ofInt 64 1).toNat = (BitVec.ofInt 64 v).toNat % 2 := by
    rw [BitVec.toNat_and, show (BitVec.ofInt 64 1).toNat = 2 ^ 1 - 1 from by decide, Nat.and_two_pow_sub_one_eq_mod]
  show IntKind.wrap .i64 ((BitVec.ofInt 64 v &&& BitVec.ofInt 64 1).toNat : Int) = _
  rw [e]
  have h : (BitVec.ofInt 64 v).toNat % 2 = 0 ∨ (BitVec.ofInt 64 v).toNat % 2 = 1 := by omega
  rcases h with h | h <;> rw [h] <;> rfl
theorem lent1 (wa : World) (b : Nat) (pt : Part) (hb : wa.heap[b]? = some (.cells #[pt.val] 37 (0, 0))) (hok : pt.ok wa) (hl : pt.zs.length ≤ 2147483647) :
    Calls Try.prog 7 #[.slice (some ⟨b, 0, none⟩) 1 1] wa fun e w2 => ∃ gv vc g0 c0, e = .returned (.slice (some ⟨gv, 0, none⟩) 1 vc) ∧ LentI wa w2 (.slice (some ⟨gv, 0, none⟩) 1 vc) [(g0, c0)] [pt] 1 := by
  refine (lentD_any (some ⟨b, 0, none⟩) 1 [pt] wa ⟨fun i hi => ⟨b, 0, rfl, ?_⟩, fun p hp => ?_⟩ (by simp) (fun i hi => ?_)).mono ?_
  · have : i = 0 := by simpa using hi
    subst this
    rw [Bk.cell_of_heap hb]; rfl
  · have : p = pt := by simpa using hp
    rw [this]; exact hok
  · have : i = 0 := by simpa using hi
    subst this
    exact hl
  · rintro e w2 ⟨va, vc, rfl, ls, HL⟩
    have hL := HL.out
    simp only [List.length_cons, List.length_nil, Nat.zero_add] at hL ⊢
    obtain ⟨gv, cv, ev, hcv⟩ := hL.row.cell 0 (by simp [lvals])
    have hva : va = some ⟨gv, 0, none⟩ := by simp [Value.slice.injEq] at ev; exact ev.1
    subst hva
    match ls, hL.len, hL with
    | [(g0, c0)], _, hL => exact ⟨gv, vc, g0, c0, rfl, hL⟩
theorem lent1_cell {wa w2 : World} {gv vc g0 c0 : Nat} {pt : Part} (hL : LentI wa w2 (.slice (some ⟨gv, 0, none⟩) 1 vc) [(g0, c0)] [pt] 1) : w2.cell? ⟨gv, 0, none⟩ = some (.slice (some ⟨g0, 0, none⟩) pt.zs.length c0) := by
  obtain ⟨gv', cv, ev, hcv⟩ := hL.row.cell 0 (by simp [lvals])
  simp only [Value.slice.injEq, Option.some.injEq, Addr.mk.injEq, and_true] at ev
  obtain ⟨rfl, _⟩ := ev
  rw [hcv]; rfl
theorem writeL {wa w2 : World} {gv vc g0 c0 p : Nat} {pt : Part} {X : HS} (hL : LentI wa w2 (.slice (some ⟨gv, 0, none⟩) 1 vc) [(g0, c0)] [pt] 1) (hz : pt.ok wa) (hp : wa.heap[p]? = some (.cells X.cells.toArray 51 (0, 0))) (hX : X.ok) (hn : X.n + pt.zs.length ≤ 4611686018427387904) (l : Nat) (hl : l = pt.zs.length) :
    Calls Try.prog 14 #[.pointer (some ⟨p, 0, none⟩), .slice (some ⟨g0, 0, none⟩) l c0] w2 fun e w3 => e = .returned (.tuple #[]) ∧ w3.heap[p]? = some (.cells (absorb X pt.zs).cells.toArray 51 (0, 0)) ∧ But p w2 w3 := by
  subst hl
  obtain ⟨_, _, _, _, _, _, _, _, ok⟩ := lent_reads (hL.all 0 (by omega)) hz.1
  exact write_any p X ⟨some ⟨g0, 0, none⟩, c0, pt.zs⟩ w2 hX ((hL.bel.block p (heap_lt' hp)).trans hp) ok (Or.inr fun b o e => by
    simp only [Option.some.injEq, Addr.mk.injEq] at e
    have h1 := (hL.own 0 (by omega)).1
    have h2 := heap_lt' hp
    have h3 : wa.heap.size ≤ g0 := h1
    omega) hn
theorem kept1 {w wa w2 w3 : World} {gv vc g0 c0 p : Nat} {pt : Part} {cs : Array Value} (hL : LentI wa w2 (.slice (some ⟨gv, 0, none⟩) 1 vc) [(g0, c0)] [pt] 1) (hpt : pt.ok w) (hb : Below w.heap.size w wa) (hwp : w.heap.size ≤ p) (hp : wa.heap[p]? = some (.cells cs 51 (0, 0))) (hB : But p w2 w3) (hl : pt.zs.length ≤ 2147483647) (a pa : Option Addr) (l pc : Nat) (hv : pt.val = .slice pa l pc) :
    Calls Try.prog 9 #[.slice (some ⟨gv, 0, none⟩) 1 vc, .slice (some ⟨w3.heap.size, 0, none⟩) 1 1] (w3.alloc (.cells #[.slice pa l pc] 37)) fun e w5 => e = .returned (.bool true) ∧ But p wa w5 ∧ w5.heap[p]? = w3.heap[p]? := by
  rw [← hv]
  have hp2 := (hL.bel.block p (heap_lt' hp)).trans hp
  have hg : wa.heap.size ≤ g0 := (hL.own 0 (by omega)).1
  have hne : (Value.slice (some ⟨gv, 0, none⟩) 1 vc).ownBlock ≠ some g0 := (hL.own 0 (by omega)).2.1
  have hs1 := hb.size
  have hs2 := hL.bel.size
  have hs3 := hB.size
  have hpl := heap_lt' hp
  have h23 : ∀ {e v vs}, Bk.Row w2 e v vs → e ≠ 51 → Bk.Row w3 e v vs := fun {e v vs} h hd => h.keep fun b hb' => hB.block b (fun ee => row_not_at h hp2 hd (ee ▸ hb')) (h.lt hb')
  have b34 : Below w3.heap.size w3 (w3.alloc (.cells #[pt.val] 37)) := (Below.refl _ _).alloc (Nat.le_refl _) _
  have row1 := hL.all 0 (by omega)
  have hg2 : g0 < w2.heap.size := row1.lt rfl
  refine (keptE_any (some ⟨w3.heap.size, 0, none⟩) 1 [pt] (some ⟨gv, 0, none⟩) vc [(g0, c0)] (w3.alloc (.cells #[pt.val] 37)) (by simp) (fun i hi => ?_) ⟨⟨fun i hi => ⟨w3.heap.size, 0, rfl, ?_⟩, fun q hq => ?_⟩, fun i hi => ⟨fun b o e => ?_, fun q hq => ?_⟩, ?_, fun i _ hi => ?_, fun i hi => ⟨?_, fun j hj hij => ?_⟩, ⟨rfl, rfl, rfl, Nat.le_refl _, fun _ _ _ => rfl⟩⟩).mono ?_
  · have : i = 0 := by simpa using hi
    subst this
    exact hl
  · have : i = 0 := by simpa using hi
    subst this
    rw [Bk.cell_of_heap (Bk.heap_new w3 _)]; rfl
  · have : q = pt := by simpa using hq
    rw [this]
    exact Part.ok_below (Part.ok_but (Part.ok_below (Part.ok_below hpt hb) hL.bel) (Part.off_of_ok hpt hwp) hB) b34
  · have : i = 0 := by simpa using hi
    subst this
    simp only [Option.some.injEq, Addr.mk.injEq] at e
    show b ≠ g0
    omega
  · have : i = 0 := by simpa using hi
    subst this
    have : q = pt := by simpa using hq
    rw [this]
    exact Part.off_of_ok hpt (show w.heap.size ≤ g0 by omega)
  · exact (h23 hL.row (by decide)).below b34
  · have : i = 0 := by simpa using hi
    subst this
    exact (h23 row1 (by decide)).below b34
  · have : i = 0 := by simpa using hi
    subst this
    exact hne
  · have h1 : i = 0 := by simpa using hi
    have h2 : j = 0 := by simpa using hj
    omega
  · rintro e w5 ⟨rfl, hO⟩
    have nS : ∀ b, b < w3.heap.size → b ≠ g0 → w5.heap[b]? = w3.heap[b]? := fun b hb1 hb2 => (hO.block b (fun ⟨i, hi, e⟩ => by
      have : i = 0 := by simpa using hi
      subst this
      exact hb2 e.symm) (by simp; omega)).trans (Bk.heap_old _ _ hb1)
    refine ⟨rfl, ⟨hO.os.trans (hB.os.trans hL.bel.os), hO.tape.trans (hB.tape.trans hL.bel.tape), hO.output.trans (hB.output.trans hL.bel.output), by have := hO.size; simp at this; omega, fun b h1 h2 => ?_⟩, nS p (by omega) (by omega)⟩
    rw [nS b (by omega) (by omega), hB.block b h1 (by omega), hL.bel.block b h2]
structure WI (w wr : World) (gh gx : Nat) (xs : List OpR) (k : Nat) : Prop where
  ex : ∃ s, DW w wr gh gx s ∧ ∀ j, j < 2 → (s j).X = (s j).Y ∧ (s j).X.n ≤ (flat ((opParts xs).take k)).length
theorem flat_more (xs : List OpR) (k : Nat) (h : k < xs.length) : (flat ((opParts xs).take (k + 1))).length = (flat ((opParts xs).take k)).length + (xs.getD k OpR.nil).pt.zs.length := by
  rw [flat_take _ _ (by simpa [opParts] using h), opParts_getD, List.length_append]
theorem WI.same {w wr w' : World} {gh gx : Nat} {xs : List OpR} {k : Nat} (h : WI w wr gh gx xs k) (hk : k < xs.length) (hb : Below wr.heap.size wr w') : WI w w' gh gx xs (k + 1) := by
  obtain ⟨s, hD, hE⟩ := h.ex
  exact ⟨s, hD.below hb, fun j hj => ⟨(hE j hj).1, by rw [flat_more xs k hk]; have := (hE j hj).2; omega⟩⟩
theorem WI.write {w w5 : World} {gh gx : Nat} {xs : List OpR} {k j : Nat} {s : Nat → Sl} (hk : k < xs.length) (hj : j < 2) (hE : ∀ j, j < 2 → (s j).X = (s j).Y ∧ (s j).X.n ≤ (flat ((opParts xs).take k)).length) (hD : DW w w5 gh gx (setX s j (absorb (s j).X (xs.getD k OpR.nil).pt.zs))) (hpt : (xs.getD k OpR.nil).pt.ok w) (hn : (s j).X.n + (xs.getD k OpR.nil).pt.zs.length ≤ 4611686018427387904) (pa : Option Addr) (l pc : Nat) (hv : (xs.getD k OpR.nil).pt.val = .slice pa l pc) :
    Calls Try.prog 15 #[.pointer (some ⟨(s j).q, 0, none⟩), .slice pa l pc] w5 fun e w' => e = .returned (.tuple #[]) ∧ Hid (WI w w' gh gx xs (k + 1)) := by
  rw [← hv]
  have hlo := hD.lo.2.2 j hj
  have hY := (hE j hj).1
  refine (refWrite_any (s j).q (s j).Y (s j).Y.n (s j).g (s j).c (s j).rv (xs.getD k OpR.nil).pt w5 (hD.hq j hj) (Part.ok_below hpt hD.bel) (Part.off_of_ok hpt hlo.2.1) (fun b hb => Part.off_of_ok hpt (hlo.2.2 b hb)) (by rw [← hY]; exact hn)).mono ?_
  rintro e w' ⟨rfl, g', c', rv', hR', hF, hO⟩
  refine ⟨rfl, ⟨_, hD.putY hj (Z := absorb (s j).Y (xs.getD k OpR.nil).pt.zs) (by rw [absorb_n]; exact hR') hF hO, fun i hi => ?_⟩⟩
  rw [flat_more xs k hk]
  by_cases e : i = j
  · subst e
    simp only [setY, setX, if_true]
    refine ⟨by rw [hY], ?_⟩
    rw [absorb_n]
    have := (hE i hi).2
    omega
  · simp only [setY, setX, if_neg e]
    exact ⟨(hE i hi).1, by have := (hE i hi).2; omega⟩
theorem WI.fresh {w wr : World} {gh gx : Nat} {xs : List OpR} {k j : Nat} (h : WI w wr gh gx xs k) (hk : k < xs.length) (hj : j < 2) : WI w (((((wr.alloc (.cells hsI.cells.toArray 51)).setCell ⟨gh, j, none⟩ (.pointer (some ⟨wr.heap.size, 0, none⟩))).alloc (.cells (u32s iv.l).toArray 47)).alloc (.cells #[.slice (some ⟨wr.heap.size + 1, 0, none⟩) 8 8, .slice none 0 0, .int .i64 0] 45)).setCell ⟨gx, j, none⟩ (.pointer (some ⟨wr.heap.size + 1 + 1, 0, none⟩))) gh gx xs (k + 1) := by
  obtain ⟨s, hD, hE⟩ := h.ex
  have h2 := (hD.newX hj).newY hj
  have e : ((wr.alloc (.cells hsI.cells.toArray 51)).setCell ⟨gh, j, none⟩ (.pointer (some ⟨wr.heap.size, 0, none⟩))).heap.size = wr.heap.size + 1 := by simp [World.setCell]
  rw [e] at h2
  refine ⟨_, h2, fun i hi => ?_⟩
  rw [flat_more xs k hk]
  by_cases e : i = j
  · simp only [setQ, setP, if_pos e]
    exact ⟨trivial, Nat.zero_le _⟩
  · simp only [setQ, setP, if_neg e]
    exact ⟨(hE i hi).1, by have := (hE i hi).2; omega⟩
end Go.Proofs.Ytlephdpplfpliaa
