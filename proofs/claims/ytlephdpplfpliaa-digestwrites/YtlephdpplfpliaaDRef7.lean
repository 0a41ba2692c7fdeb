/-
  The document's Hash: Sum.
-/
import Derived.Test.YtlephdpplfpliaaDRef6
namespace Go.Proofs.Ytlephdpplfpliaa
open Go.RowKit
set_option linter.all false

/-- a byte written. -/
theorem write1 (p : Nat) (x : HS) (m g c : Nat) (rv : Value) (z : Int) (b : Nat) (w : World) (hR : RH p x m w g c rv) (hb : w.heap[b]? = some (.cells #[.int .u8 z] 5 (0, 0))) (hz : 0 ≤ z ∧ z ≤ 255) (hp : b ≠ p) (hr : ∀ k, rv.ownBlock = some k → k ≠ b) (hn : m < 4611686018427387904) :
    Calls Try.prog 15 #[.pointer (some ⟨p, 0, none⟩), .slice (some ⟨b, 0, none⟩) 1 1] w fun e w' => e = .returned (.tuple #[]) ∧ ∃ g' c' rv', RH p (put1 x z) (m + 1) w' g' c' rv' ∧ Far p rv.ownBlock w w' ∧ ∀ k, rv'.ownBlock = some k → rv.ownBlock = some k ∨ w.heap.size ≤ k := by
  have hok : Part.ok w ⟨some ⟨b, 0, none⟩, 1, [z]⟩ := ⟨by simpa using hz, by simp, Or.inr ⟨b, 0, rfl, fun j hj => by
    simp at hj
    subst hj
    rw [cell_of_heap hb]
    simp⟩⟩
  exact refWrite_any p x m g c rv ⟨some ⟨b, 0, none⟩, 1, [z]⟩ w hR hok (Or.inr fun b' o e => by simp at e; omega) (fun k hk => Or.inr fun b' o e => by simp at e; have := hr k hk; omega) (by simp; omega)
/-- Sum under way: the end at p has taken the bytes zs behind x. -/
structure SmI (w : World) (p : Nat) (x : HS) (zs : List Int) (wr : World) : Prop where
  ex : ∃ g c rv, RH p (absorb x zs) zs.length wr g c rv ∧ (∀ k, rv.ownBlock = some k → w.heap.size ≤ k)
  bel : Below w.heap.size w wr
  pp : w.heap.size + 1 ≤ p
  res : wr.heap[w.heap.size]? = some (.cells (u8s z32).toArray 26 (0, 0))
theorem SmI.alloc {w wr : World} {p : Nat} {x : HS} {zs : List Int} (h : SmI w p x zs wr) (o : Obj) : SmI w p x zs (wr.alloc o) := by
  obtain ⟨g, c, rv, hR, ho⟩ := h.ex
  have hb : Below wr.heap.size wr (wr.alloc o) := (Below.refl _ _).alloc (Nat.le_refl _) _
  have hs := h.bel.size
  exact ⟨⟨g, c, rv, ⟨(hb.block p (Array.getElem?_eq_some_iff.1 hR.at_).1).trans hR.at_, hR.h.below hb, hR.r.below hb, hR.ok⟩, ho⟩, h.bel.trans (hb.mono hs), h.pp, (hb.block _ (Array.getElem?_eq_some_iff.1 h.res).1).trans h.res⟩
theorem SmI.write {w wr : World} {p : Nat} {x : HS} {zs : List Int} (h : SmI w p x zs wr) (z : Int) (hz : 0 ≤ z ∧ z ≤ 255) (hl : zs.length < 1000) :
    Calls Try.prog 15 #[.pointer (some ⟨p, 0, none⟩), .slice (some ⟨wr.heap.size, 0, none⟩) 1 1] (wr.alloc (.cells #[.int .u8 z] 5)) fun e w' => e = .returned (.tuple #[]) ∧ Hid (SmI w p x (zs ++ [z]) w') := by
  have h1 := h.alloc (.cells #[.int .u8 z] 5)
  obtain ⟨g, c, rv, hR, ho⟩ := h1.ex
  obtain ⟨g0, c0, rv0, hR0, ho0⟩ := h.ex
  have hs := h.bel.size
  have hpl : p < wr.heap.size := (Array.getElem?_eq_some_iff.1 hR0.at_).1
  have hrv : rv = rv0 := by
    have e1 := hR.at_
    have e2 : (wr.alloc (.cells #[.int .u8 z] 5)).heap[p]? = wr.heap[p]? := Bk.heap_old _ _ hpl
    rw [e2, hR0.at_] at e1
    simp at e1
    exact e1.2.symm
  refine (write1 p _ _ g c rv z wr.heap.size _ hR (Bk.heap_new _ _) hz (by omega) (fun k hk => ?_) (by omega)).mono ?_
  · have := hR0.r.lt (b := k) (by rw [← hrv]; exact hk); omega
  · rintro e w' ⟨rfl, g', c', rv', hR', hF, hO⟩
    refine ⟨rfl, ⟨g', c', rv', ?_, fun k hk => ?_⟩, ?_, h.pp, ?_⟩
    · rw [absorb_app, List.length_append]
      exact hR'
    · rcases hO k hk with h2 | h2
      · exact ho k h2
      · simp at h2; omega
    · exact h1.bel.trans ⟨hF.os, hF.tape, hF.output, hF.size, fun k hk => hF.block k (by have := h.pp; omega) (fun e => by have := ho k e; omega) (by have := h1.bel.size; omega)⟩
    · rw [hF.block _ (by have := h.pp; omega) (fun e => ?_) (Array.getElem?_eq_some_iff.1 h1.res).1]
      · exact h1.res
      · exact row_not_at hR.r h1.res (by decide) e
theorem SmI.len {w wr : World} {p : Nat} {x : HS} {zs : List Int} (h : SmI w p x zs wr) : ∃ a cc, wr.cell? ⟨p, 1, none⟩ = some (.slice a ((x.n + zs.length) % 64) cc) := by
  obtain ⟨g, c, rv, hR, ho⟩ := h.ex
  obtain ⟨a, cc, hv, _⟩ := hR.r.form
  have e : (absorb x zs).rest.length = (x.n + zs.length) % 64 := by rw [HS.rest_len _ hR.ok.2.1, absorb_n]
  rw [u8s_len, e] at hv
  exact ⟨a, cc, by rw [cell_of_heap hR.at_, hv]; rfl⟩
end Go.Proofs.Ytlephdpplfpliaa
