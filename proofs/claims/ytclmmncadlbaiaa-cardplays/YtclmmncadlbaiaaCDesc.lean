/-
  A descriptor of both cards, held against each other.
-/
import Derived.Test.YtclmmncadlbaiaaCPairI
namespace Go.Proofs.Ytclmmncadlbaiaa
open Go.RowKit
set_option linter.all false

theorem part_row {w : World} {a : Option Addr} {l c : Nat} {zs : List Int} (h : Row w 5 (.slice a l c) (u8s zs)) (hz : ∀ z, z ∈ zs → 0 ≤ z ∧ z ≤ 255) : Part.ok w ⟨a, c, zs⟩ := by
  obtain ⟨pt, e1, e2, e3⟩ := h.part hz
  obtain ⟨pa, pc, pz⟩ := pt
  simp only [Part.val, Value.slice.injEq] at e1 e2
  subst e2
  obtain ⟨rfl, _, rfl⟩ := e1
  exact e3
theorem conv_sl {w : World} {a : Option Addr} {l c : Nat} {zs : List Int} (h : Part.ok w ⟨a, c, zs⟩) (hl : l = zs.length) : (convert 43 9 (.slice a l c)).run Try.prog w = .ok (.string (strOfNums zs)) w := by
  subst hl
  exact conv_part ⟨a, c, zs⟩ w h
theorem BookI.same {w w' : World} {B gk : Nat} {L V : Value} {ls : List (Value × List Int)} (h : BookI w B gk L V ls) (hw : w'.heap = w.heap) : BookI w' B gk L V ls := h.keep (fun k _ => by rw [hw]) (fun p _ b _ => by rw [hw])
theorem Row.same {w w' : World} {e : TypeId} {v : Value} {vs : List Value} (h : Row w e v vs) (hw : w'.heap = w.heap) : Row w' e v vs := h.keep fun b _ => by rw [hw]
set_option maxRecDepth 20000 in
set_option maxHeartbeats 2000000 in
theorem desc_any {B : Nat} {P : Pn} {gk : Nat} {w0 : World} {D0 : Nat → Prop} {L0 V0 : Value} {ls0 : List (Value × List Int)} {w : World} {D : Nat → Prop} {SC SR : CS} {L V : Value} {ls : List (Value × List Int)} (r : Run B P gk w0 D0 L0 V0 ls0 w D SC SR L V ls) (hB0 : B ≤ w0.heap.size)
    (b : Bool) (n : Int) (a1 : Option Addr) (l c1 : Nat) (a2 : Option Addr) (c2 : Nat) (zs : List Int) (row : Row w 5 (.slice a1 l c1) (u8s zs)) (hl : l = zs.length) (hz : ∀ z, z ∈ zs → 0 ≤ z ∧ z ≤ 255) (h15 : zs.length ≤ 1514) (ok2 : Part.ok w ⟨a2, c2, zs⟩)
    (own : ∀ k, (Value.slice a1 l c1).ownBlock = some k → w0.heap.size ≤ k ∧ ¬ PairK P D k ∧ ¬ InBook gk L V k ∧ ∀ p, p ∈ ls → p.1.ownBlock ≠ some k) (hfew : ls.length < 4398046511104) :
    Calls Try.prog 29 #[.pointer (some ⟨P.gp, 0, none⟩), .agg #[.bool b, .slice a1 l c1], .int .i64 n, .agg #[.bool b, .slice a2 l c2], .int .i64 n] w fun e w' => e = .returned (.bool true) ∧ ∃ L' V', Run B P gk w0 D0 L0 V0 ls0 w' D SC SR L' V' (ls ++ [(.slice a1 l c1, zs)]) := by
  obtain ⟨W, hW⟩ : ∃ W, W = (w.alloc (.cells #[.bool b, .slice a1 l c1] 49)).alloc (.cells #[.bool b, .slice a2 l c2] 49) := ⟨_, rfl⟩
  have hbW : Below w.heap.size w W := by rw [hW]; exact bpush (balloc w _) _
  have rW := r.below hbW
  have hc1 : (convert 43 9 (.slice a1 l c1)).run Try.prog W = .ok (.string (strOfNums zs)) W := conv_sl (part_row (row.below hbW) hz) hl
  have hc2 : (convert 43 9 (.slice a2 l c2)).run Try.prog W = .ok (.string (strOfNums zs)) W := conv_sl (Part.ok_below ok2 hbW) hl
  have hk2 : W.cell? ⟨P.gp, 2, none⟩ = some (.pointer (some ⟨gk, 0, none⟩)) := cellHeap rW.now.pair.box 2 rfl
  have hgl : P.gp < w.heap.size := heap_lt r.now.pair.box
  have HR := hid rW
  have HROW := hid (row.below hbW)
  have HBK : Hid (∀ wz : World, wz.heap = W.heap → BookI wz B gk L V ls) := fun wz hz => rW.now.book.same hz
  have HRO : Hid (∀ wz : World, wz.heap = W.heap → Row wz 5 (.slice a1 l c1) (u8s zs)) := fun wz hz => (row.below hbW).same hz
  have HTP : Hid (∀ wz : World, wz.heap = W.heap → B ≤ wz.heap.size) := fun wz hz => by rw [hz]; exact rW.now.top
  have HOWN := hid own
  have HZ := hid hz
  have H15 := hid h15
  have HRZ : Hid (∀ wz : World, Below W.heap.size W wz → Run B P gk w0 D0 L0 V0 ls0 wz D SC SR L V ls) := fun wz hz => rW.below hz
  have HLN := hid hl
  clear r rW row own hz h15 ok2 hbW hl
  generalize strOfNums zs = SX at hc1 hc2
  rw [hW] at hc1 hc2 hk2
  have HW := hid hW
  clear hW
  go_enter Try.func29, Try.ntmps29
  go_wp2
  go_region_with (first | (go_at_call 27; refine (take_any gk L V (.slice a1 l c1) ls zs B _ (by exact HBK.out _ (by rw [HW.out]; rfl)) (by exact HTP.out _ (by rw [HW.out]; rfl)) (by exact HRO.out _ (by rw [HW.out]; rfl)) HZ.out (by have := H15.out; omega) hfew (by intro k hk; have := HOWN.out k hk; exact ⟨by omega, this.2.2.1, this.2.2.2⟩)).mono ?_; rintro e w' ⟨rfl, L', V', hb, hk, hf, hB⟩; have HF : Hid (∃ L' V', Run B P gk w0 D0 L0 V0 ls0 w' D SC SR L' V' (ls ++ [(.slice a1 l c1, zs)])) := ⟨L', V', (HRZ.out _ (by rw [HW.out]; exact (Below.refl _ _).drew)).take hb hk hf hB (fun k hk => ⟨(HOWN.out k hk).1, (HOWN.out k hk).2.1⟩)⟩; clear hb hk hf hB))
  all_goals
    go_wp2
    go_ret
    exact ⟨rfl, HF.out⟩
end Go.Proofs.Ytclmmncadlbaiaa
