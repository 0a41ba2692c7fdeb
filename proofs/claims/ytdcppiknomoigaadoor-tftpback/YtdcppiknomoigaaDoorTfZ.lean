/-
  Tftp: the document's SameChoices of lists of other lengths, Same.
-/
import Derived.Test.YtdcppiknomoigaaDoorTfAc
import Derived.Test.YtdcppiknomoigaaDoorTgF
import Derived.Test.YtdcppiknomoigaaDoorTgX
import Derived.Test.YtdcppiknomoigaaDoorTgO
namespace Go.Proofs.YtdcppiknomoigaaDoor
open Go.RowKit
set_option linter.all false

set_option maxHeartbeats 1000000 in
theorem same_choices_no (a b : Option Addr) (n m c d : Nat) (w : World) (hne : n ≠ m) :
    Calls Tryd.prog 27 #[.slice a n c, .slice b m d] w fun e w' => e = .returned (.bool false) ∧ w' = w := by
  have h1 : (((n : Nat) : Int) == ((m : Nat) : Int)) = false := by simp; omega
  clear hne
  go_enter Tryd.func27, Tryd.ntmps27
  go_wp2_with fail
  go_ret
  exact ⟨rfl, rfl⟩
/-- a packet's lists, read. -/
structure TpR (t : Tp) (ca : Option Addr) (da : Option Addr) (dc : Nat) (w : World) : Prop where
  ch : ChV w ca t.ch
  da : Part.ok w ⟨da, dc, t.da⟩
theorem TpR.below {t : Tp} {ca da : Option Addr} {dc : Nat} {w w' : World} (h : TpR t ca da dc w) (hb : Below w.heap.size w w') : TpR t ca da dc w' := ⟨h.ch.below hb, Part.ok_below h.da hb⟩
theorem TpS.r {t : Tp} {ca da : Option Addr} {cc dc : Nat} {w : World} (h : TpS t ca cc da dc w) : TpR t ca da dc w := ⟨h.ch, h.da⟩
theorem DcO.r {w W : World} {q : Tp} {ca da : Option Addr} {cc dc : Nat} (h : DcO w W q ca cc da dc) (hz : ∀ z, z ∈ q.da → 0 ≤ z ∧ z ≤ 255) : TpR q ca da dc W := by
  refine ⟨(RowC.chv h.rch).2, ?_⟩
  obtain ⟨pt, e1, e2, e3⟩ := h.rda.part hz
  obtain ⟨a, c, zs⟩ := pt
  simp only [Part.val] at e1 e2
  subst e2
  simp only [Value.slice.injEq] at e1
  obtain ⟨rfl, _, rfl⟩ := e1
  exact e3
set_option maxRecDepth 20000 in
set_option maxHeartbeats 4000000 in
theorem same_yes (t : Tp) (ca ca' : Option Addr) (cc cc' : Nat) (da da' : Option Addr) (dc dc' : Nat) (w : World) (h : TpR t ca da dc w) (h' : TpR t ca' da' dc' w) (hn : t.ch.length ≤ 9223372036854775807) :
    Calls Tryd.prog 19 #[.agg (tpC t ca cc da dc), .agg (tpC t ca' cc' da' dc')] w fun e w' => e = .returned (.bool true) ∧ Hid (Below w.heap.size w w') := by
  have hb1 := bpush (Below.refl w.heap.size w) (.cells (tpC t ca cc da dc) 26)
  obtain ⟨W1, hW1⟩ : ∃ W1, W1 = (w.alloc (.cells (tpC t ca cc da dc) 26)).alloc (.cells (tpC t ca' cc' da' dc') 26) := ⟨_, rfl⟩
  have hb2 : Below w.heap.size w W1 := by rw [hW1]; exact bpush hb1 _
  have hbx : W1.heap[w.heap.size]? = some (.cells (tpC t ca cc da dc) 26 (0, 0)) := by rw [hW1]; exact (heap_old _ _ (by simp)).trans (heap_new _ _)
  have hby : W1.heap[w.heap.size + 1]? = some (.cells (tpC t ca' cc' da' dc') 26 (0, 0)) := by
    rw [hW1]
    have := heap_new (w.alloc (.cells (tpC t ca cc da dc) 26)) (.cells (tpC t ca' cc' da' dc') 26)
    simpa using this
  have HB := hid hb2
  have h1 := h.below hb2
  have h2 := h'.below hb2
  have CS := hid (same_choices_yes t.ch ca ca' t.ch.length cc cc' W1 h1.ch h2.ch rfl hn)
  have HCX : Hid (∀ k, (∀ q, (W1.drewN k).cell? ⟨w.heap.size, q, none⟩ = (tpC t ca cc da dc)[q]?) ∧ (∀ q, (W1.drewN k).cell? ⟨w.heap.size + 1, q, none⟩ = (tpC t ca' cc' da' dc')[q]?)) := fun k =>
    ⟨fun q => cell_of_heap (w := W1.drewN k) hbx q, fun q => cell_of_heap (w := W1.drewN k) hby q⟩
  have HD1 : Hid (∀ k, (convert 24 9 (.slice da t.da.length dc)).run Tryd.prog (W1.drewN k) = .ok (.string (strOfNums t.da)) (W1.drewN k)) := fun k => conv_part ⟨da, dc, t.da⟩ _ (Part.ok_drewN h1.da k)
  have HD2 : Hid (∀ k, (convert 24 9 (.slice da' t.da.length dc')).run Tryd.prog (W1.drewN k) = .ok (.string (strOfNums t.da)) (W1.drewN k)) := fun k => conv_part ⟨da', dc', t.da⟩ _ (Part.ok_drewN h2.da k)
  clear hb1 hb2 h h' h1 h2 hbx hby
  obtain ⟨op, fl, md, ch, bk, dl, cd, tx⟩ := t
  unfold tpC at *
  simp only at *
  generalize strOfNums dl = S at *
  generalize ch.length = cn at *
  generalize dl.length = dn at *
  rw [hW1] at CS
  go_enter Tryd.func19, Tryd.ntmps19
  go_upto_region 2 with (first
    | (go_at_call 27; refine CS.out.mono ?_; go_loud (rintro e w2 ⟨rfl, q, hw2⟩; have HW2 := hid hw2; clear hw2))
    | fail)
  rw [← hW1] at HW2
  have HBF : Hid (Below w.heap.size w w2) := by unfold Hid; rw [HW2.out]; exact bstep HB.out (bdrewT _ q)
  obtain ⟨hx, hy⟩ := HCX.out q
  have hd1 := HD1.out q
  have hd2 := HD2.out q
  rw [← HW2.out] at hx hy hd1 hd2
  clear CS HW2 HCX HD1 HD2 hW1 HB
  go_wp2_with fail
  go_ret
  exact ⟨rfl, HBF⟩
end Go.Proofs.YtdcppiknomoigaaDoor
