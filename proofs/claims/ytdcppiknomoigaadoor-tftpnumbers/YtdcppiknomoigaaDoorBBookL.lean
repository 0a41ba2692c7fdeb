/-
  The statements' book, where it is made behind all the lists that it takes. For every seat.
-/
import Derived.Test.YtdcppiknomoigaaDoorBOwned
namespace Go.Proofs.YtdcppiknomoigaaDoor
open Go.RowKit
set_option linter.all false

/-- the book at gk, whose own blocks lie from gk on. -/
structure Late (w : World) (B gk : Nat) (L V : Value) (ls : List (Value × List Int)) : Prop where
  book : BookI w B gk L V ls
  from_ : ∀ k, InBook gk L V k → gk ≤ k
  base : B ≤ w.heap.size
theorem Late.new (w : World) (B : Nat) (hB : B ≤ w.heap.size) : Late (w.alloc (.cells #[.slice none 0 0, .slice none 0 0] 38)) B w.heap.size (.slice none 0 0) (.slice none 0 0) [] :=
  ⟨BookI.new w B hB, fun k hk => by rcases hk with rfl | h | h <;> simp_all [Value.ownBlock], by simp; omega⟩
theorem take_late (gk : Nat) (L V v : Value) (ls : List (Value × List Int)) (zs : List Int) (B : Nat) (w : World) (h : Late w B gk L V ls) (hr : Row w 5 v (u8s zs)) (hz : ∀ z, z ∈ zs → 0 ≤ z ∧ z ≤ 255) (hl : zs.length ≤ 140737488351232) (hf : ls.length < 4398046511104)
    (ho : ∀ b, v.ownBlock = some b → B ≤ b ∧ b < gk ∧ ∀ p, p ∈ ls → p.1.ownBlock ≠ some b) :
    Calls Tryd.prog 15 #[.pointer (some ⟨gk, 0, none⟩), v] w fun e w' => e = .returned (.tuple #[]) ∧ ∃ L' V', Late w' B gk L' V' (ls ++ [(v, zs)]) ∧ (∀ k, k < gk → w'.heap[k]? = w.heap[k]?) ∧ Below B w w' := by
  have hgk := heap_lt h.book.box
  refine (take_any gk L V v ls zs B w h.book h.base hr hz hl hf (fun b hb => ⟨(ho b hb).1, fun hi => by have := h.from_ b hi; have := (ho b hb).2.1; omega, (ho b hb).2.2⟩)).mono ?_
  rintro e w' ⟨he, L', V', bk, keep, fresh, bel⟩
  refine ⟨he, L', V', ⟨bk, fun k hk => ?_, Nat.le_trans h.base bel.size⟩, fun k hk => keep k (by omega) (fun hi => by have := h.from_ k hi; omega), bel⟩
  rcases fresh k hk with h1 | h1
  · exact h.from_ k h1
  · omega
theorem owned_late (gk : Nat) (L V : Value) (ls : List (Value × List Int)) (B : Nat) (w : World) (h : Late w B gk L V ls) :
    Calls Tryd.prog 16 #[.pointer (some ⟨gk, 0, none⟩)] w fun e w' => e = .returned (.bool true) ∧ Below B w w' ∧ (∀ k, k < gk → (∀ p, p ∈ ls → p.1.ownBlock ≠ some k) → w'.heap[k]? = w.heap[k]?) :=
  (owned_any gk L V ls B w h.book h.base).mono fun e w' ⟨he, hb, hr⟩ => ⟨he, hb, fun k hk hn => hr k (by have := heap_lt h.book.box; omega) (fun hi => by have := h.from_ k hi; omega) hn⟩
theorem Row.low {w w' : World} {e : TypeId} {v : Value} {vs : List Value} {N : Nat} (h : Row w e v vs) (hk : ∀ k, k < N → w'.heap[k]? = w.heap[k]?) (hv : ∀ b, v.ownBlock = some b → b < N) : Row w' e v vs := h.keep fun b hb => hk b (hv b hb)
end Go.Proofs.YtdcppiknomoigaaDoor
