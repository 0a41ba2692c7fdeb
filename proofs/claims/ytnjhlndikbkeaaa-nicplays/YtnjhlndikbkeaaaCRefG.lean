/-
  The document's card: Give, Lay.
-/
import Derived.Test.YtnjhlndikbkeaaaCRefA
namespace Go.Proofs.Ytnjhlndikbkeaaa
open Go.RowKit
set_option linter.all false

theorem DeAt.out {w w' : World} {D D' : Nat → Prop} {C C' : Array Value} {o : Nat} {p : Pl} (h : DeAt w D C o p) (hk : ∀ k, D k → w'.heap[k]? = w.heap[k]? ∧ D' k) (h0 : C'[o]? = C[o]?) (h1 : C'[o + 1]? = C[o + 1]?) : DeAt w' D' C' o p := by
  have := h.keep hk
  obtain ⟨pt, e1, e2⟩ := this.d
  exact ⟨h0.trans this.b, ⟨pt, h1.trans e1, e2⟩, this.ok⟩
theorem DescAt.put {w w' : World} {D D' : Nat → Prop} {g : Nat} {ps : List Pl} {C : Array Value} {j : Nat} {b : Bool} {pt : Part} (hs : ps.length * 2 ≤ C.size) (h3 : ∀ i p, ps[i]? = some p → DeAt w D C (i * 2) p) (hj : j < ps.length)
    (hg : w'.heap[g]? = some (.cells ((C.setIfInBounds (j * 2) (.bool b)).setIfInBounds (j * 2 + 1) pt.val) 80 (0, 0))) (hk : ∀ k, D k → w'.heap[k]? = w.heap[k]? ∧ D' k) (hok : pt.ok w') (hD : pt.zs = [] ∨ ∃ q r, pt.a = some ⟨q, r, none⟩ ∧ D' q) (hp : Pl.ok ⟨b, pt.zs⟩) : DescAt w' D' g (ps.set j ⟨b, pt.zs⟩) := by
  refine ⟨_, hg, by simpa using hs, fun i p hi => ?_⟩
  by_cases hij : i = j
  · subst hij
    rw [List.getElem?_set_self hj] at hi
    simp only [Option.some.injEq] at hi
    subst hi
    refine ⟨?_, ⟨pt, ?_, rfl, hok, hD⟩, hp⟩
    · rw [Array.getElem?_setIfInBounds_ne (by omega), Array.getElem?_setIfInBounds_self_of_lt (by omega)]
    · rw [Array.getElem?_setIfInBounds_self_of_lt (by rw [Array.size_setIfInBounds]; omega)]
  · rw [List.getElem?_set_ne (fun e => hij e.symm)] at hi
    refine (h3 i p hi).out hk ?_ ?_
    · rw [Array.getElem?_setIfInBounds_ne (by omega), Array.getElem?_setIfInBounds_ne (by omega)]
    · rw [Array.getElem?_setIfInBounds_ne (by omega), Array.getElem?_setIfInBounds_ne (by omega)]
theorem rbox_given (S : CS) (j g cr h ct : Nat) : S.rbox g cr h ct = (S.given j).rbox g cr h ct := by simp [CS.rbox, CS.given]
theorem rbox_laid (S : CS) (j : Nat) (zs : List Int) (g cr h ct : Nat) : S.rbox g cr h ct = (S.laid j zs).rbox g cr h ct := by simp [CS.rbox, CS.laid]
/-- what is behind a call that changed the document's card. -/
def RefTo (w w' : World) (D : Nat → Prop) (x g cr h ct : Nat) (S' : CS) : Prop := ∃ D' : Nat → Prop, RefB w' D' x g cr h ct S' ∧ (∀ k, D' k → D k ∨ w.heap.size ≤ k) ∧ Only (RefK D x g h) w w'
set_option maxRecDepth 20000 in
set_option maxHeartbeats 1000000 in
theorem refGive_ring (D : Nat → Prop) (x g cr h ct : Nat) (S : CS) (i : Int) (w : World) (y : RefB w D x g cr h ct S) (hi : hasB S.R.length i = false) :
    Calls Try.prog 54 #[.pointer (some ⟨x, 0, none⟩), .int .i64 i] w fun e w' => e = .returned (.int .i64 40) ∧ w' = w := by
  have h0 := (rboxC y.box).c0
  clear y
  by_cases h1 : i < 0
  · clear hi
    go_enter Try.func54, Try.ntmps54
    go_wp2
    go_ret
    exact ⟨rfl, rfl⟩
  · have h2 : (S.R.length : Int) ≤ i := by simp [hasB] at hi; omega
    clear hi
    go_enter Try.func54, Try.ntmps54
    go_wp2
    go_ret
    exact ⟨rfl, rfl⟩
set_option maxRecDepth 20000 in
set_option maxHeartbeats 1000000 in
theorem refGive_owner (D : Nat → Prop) (x g cr h ct : Nat) (S : CS) (j : Nat) (p : Pl) (w : World) (y : RefB w D x g cr h ct S) (hp : S.R[j]? = some p) (hb : p.b = true) :
    Calls Try.prog 54 #[.pointer (some ⟨x, 0, none⟩), .int .i64 j] w fun e w' => e = .returned (.int .i64 41) ∧ w' = w := by
  have h0 := (rboxC y.box).c0
  have hcb := desc_b y.rx hp
  rw [hb] at hcb
  have hj : j < S.R.length := (List.getElem?_eq_some_iff.1 hp).1
  have hj2 : (j : Int) < S.R.length := by omega
  have hj3 : ¬ (j : Int) < 0 := by omega
  clear y hp hb
  go_enter Try.func54, Try.ntmps54
  go_wp2
  go_ret
  exact ⟨rfl, rfl⟩
set_option maxRecDepth 20000 in
set_option maxHeartbeats 1000000 in
theorem refGive_yes (D : Nat → Prop) (x g cr h ct : Nat) (S : CS) (j : Nat) (p : Pl) (w : World) (y : RefB w D x g cr h ct S) (hp : S.R[j]? = some p) (hb : p.b = false) :
    Calls Try.prog 54 #[.pointer (some ⟨x, 0, none⟩), .int .i64 j] w fun e w' => e = .returned (.int .i64 0) ∧ RefTo w w' D x g cr h ct (S.given j) := by
  have h0 := (rboxC y.box).c0
  have hcb := desc_b y.rx hp
  rw [hb] at hcb
  obtain ⟨pt, hd, _⟩ := desc_d y.rx hp
  have hj : j < S.R.length := (List.getElem?_eq_some_iff.1 hp).1
  have hj2 : (j : Int) < S.R.length := by omega
  have hj3 : ¬ (j : Int) < 0 := by omega
  have HY := hid y
  obtain ⟨C, hC, hsz, hpl⟩ := y.rx
  have hfz := fun q => frozen_of_heap hC q
  have HC := hid hC
  have HSZ := hid hsz
  have HPL := hid hpl
  clear y hp hb hC hsz hpl
  go_enter Try.func54, Try.ntmps54
  go_wp2
  go_ret
  have hg2 := heap_setCell (j := j * 2 + 1) (v := .slice none 0 0) (heap_setCell (j := j * 2) (v := .bool true) HC.out)
  have old : ∀ k, k ≠ g → ((w.setCell ⟨g, j * 2, none⟩ (.bool true)).setCell ⟨g, j * 2 + 1, none⟩ (.slice none 0 0)).heap[k]? = w.heap[k]? := fun k hk => by
    rw [Below.heap_setCell _ _ _ _ (by simpa using hk), Below.heap_setCell _ _ _ _ (by simpa using hk)]
  refine ⟨rfl, D, ⟨?_, ?_, ?_, by simpa [CS.given] using HY.out.r1, by simpa [CS.given] using HY.out.r2, HY.out.t1, HY.out.t2, HY.out.gh, HY.out.xg, HY.out.xh, ?_⟩, fun k hk => Or.inl hk, ?_⟩
  · rw [← rbox_given]; exact (old x HY.out.xg).trans HY.out.box
  · exact DescAt.put (pt := Part.nil) HSZ.out HPL.out hj hg2 (fun k hk => ⟨old k (HY.out.dd k hk).2.1, hk⟩) (Part.nil_ok _) (Or.inl rfl) (by simp [Pl.ok, Part.nil])
  · exact HY.out.tx.keep (old h HY.out.gh.symm) (fun k hk => ⟨old k (HY.out.dd k hk).2.1, hk⟩)
  · exact fun k hk => ⟨(HY.out.dd k hk).1, (HY.out.dd k hk).2.1, (HY.out.dd k hk).2.2.1, by have := (HY.out.dd k hk).2.2.2; simpa [World.setCell] using this⟩
  · exact (Only.of_but (But.setCell _ _ _ _) (Or.inr (Or.inl rfl))).trans (Only.of_but (But.setCell _ _ _ _) (Or.inr (Or.inl rfl)))
end Go.Proofs.Ytnjhlndikbkeaaa
