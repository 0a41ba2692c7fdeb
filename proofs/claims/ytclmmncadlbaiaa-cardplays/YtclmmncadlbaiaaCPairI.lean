/-
  Two cards of a pair in memory, with the book of what came out.
-/
import Derived.Test.YtclmmncadlbaiaaCPair
namespace Go.Proofs.Ytclmmncadlbaiaa
open Go.RowKit
set_option linter.all false

/-- the blocks of a pair that stay: the pair's box, the card's three, the document's three. -/
structure Pn where
  gp : Nat
  c : Nat
  g : Nat
  h : Nat
  x : Nat
  rg : Nat
  cr : Nat
  rh : Nat
  ct : Nat
def PairK (P : Pn) (D : Nat → Prop) (k : Nat) : Prop := k = P.gp ∨ CardK P.c P.g P.h k ∨ RefK D P.x P.rg P.rh k
structure PairI (w : World) (P : Pn) (D : Nat → Prop) (gk : Nat) (SC SR : CS) : Prop where
  box : w.heap[P.gp]? = some (.cells #[.pointer (some ⟨P.c, 0, none⟩), .pointer (some ⟨P.x, 0, none⟩), .pointer (some ⟨gk, 0, none⟩)] 41 (0, 0))
  card : CardW w P.c P.g P.h SC
  ref : RefB w D P.x P.rg P.cr P.rh P.ct SR
  d1 : ∀ k, CardK P.c P.g P.h k → ¬ RefK D P.x P.rg P.rh k
  d2 : ¬ CardK P.c P.g P.h P.gp
  d3 : ¬ RefK D P.x P.rg P.rh P.gp
theorem PairI.lt {w : World} {P : Pn} {D : Nat → Prop} {gk : Nat} {SC SR : CS} (y : PairI w P D gk SC SR) : ∀ k, PairK P D k → k < w.heap.size := fun k hk => by
  rcases hk with rfl | hk | hk
  · exact heap_lt y.box
  · exact y.card.lt k hk
  · exact y.ref.lt k hk
theorem PairI.keep {w w' : World} {P : Pn} {D : Nat → Prop} {gk : Nat} {SC SR : CS} (y : PairI w P D gk SC SR) (hs : w.heap.size ≤ w'.heap.size) (hk : ∀ k, PairK P D k → w'.heap[k]? = w.heap[k]?) : PairI w' P D gk SC SR :=
  ⟨(hk _ (Or.inl rfl)).trans y.box, y.card.keep fun k h => hk k (Or.inr (Or.inl h)), y.ref.keep hs fun k h => hk k (Or.inr (Or.inr h)), y.d1, y.d2, y.d3⟩
/-- a pair and its book. -/
structure PBI (w : World) (B : Nat) (P : Pn) (D : Nat → Prop) (gk : Nat) (SC SR : CS) (L V : Value) (ls : List (Value × List Int)) : Prop where
  pair : PairI w P D gk SC SR
  book : BookI w B gk L V ls
  top : B ≤ w.heap.size
  kin : ∀ k, PairK P D k → B ≤ k ∧ ¬ InBook gk L V k ∧ ∀ p, p ∈ ls → p.1.ownBlock ≠ some k
theorem BookI.ltl {w : World} {B gk : Nat} {L V : Value} {ls : List (Value × List Int)} (h : BookI w B gk L V ls) : ∀ p, p ∈ ls → ∀ b, p.1.ownBlock = some b → b < w.heap.size := fun p hp b hb => (h.rows p hp).1.lt hb
structure Run (B : Nat) (P : Pn) (gk : Nat) (w0 : World) (D0 : Nat → Prop) (L0 V0 : Value) (ls0 : List (Value × List Int)) (w : World) (D : Nat → Prop) (SC SR : CS) (L V : Value) (ls : List (Value × List Int)) : Prop where
  now : PBI w B P D gk SC SR L V ls
  fr : Only (fun k => PairK P D0 k ∨ InBook gk L0 V0 k) w0 w
  grow : ∀ k, PairK P D k → PairK P D0 k ∨ w0.heap.size ≤ k
  gb : ∀ k, InBook gk L V k → InBook gk L0 V0 k ∨ w0.heap.size ≤ k
  gl : ∀ p, p ∈ ls → p ∈ ls0 ∨ ∀ b, p.1.ownBlock = some b → w0.heap.size ≤ b
section
variable {B : Nat} {P : Pn} {gk : Nat} {w0 : World} {D0 : Nat → Prop} {L0 V0 : Value} {ls0 : List (Value × List Int)} {w w' : World} {D : Nat → Prop} {SC SR SC' SR' : CS} {L V : Value} {ls : List (Value × List Int)}
theorem Run.start (h : PBI w B P D gk SC SR L V ls) : Run B P gk w D L V ls w D SC SR L V ls := ⟨h, Only.refl _ _, fun k hk => Or.inl hk, fun k hk => Or.inl hk, fun p hp => Or.inl hp⟩
theorem Run.below (r : Run B P gk w0 D0 L0 V0 ls0 w D SC SR L V ls) (hb : Below w.heap.size w w') : Run B P gk w0 D0 L0 V0 ls0 w' D SC SR L V ls :=
  ⟨⟨r.now.pair.keep hb.size fun k hk => hb.block k (r.now.pair.lt k hk), r.now.book.below hb, Nat.le_trans r.now.top hb.size, r.now.kin⟩, r.fr.trans (Only.of_below hb), r.grow, r.gb, r.gl⟩
theorem Run.bel (r : Run B P gk w0 D0 L0 V0 ls0 w D SC SR L V ls) (h0 : PBI w0 B P D0 gk SC' SR' L0 V0 ls0) : Below B w0 w :=
  r.fr.below (fun k hk => by
    rcases hk with hk | hk
    · exact (h0.kin k hk).1
    · exact h0.book.low k hk) h0.top
/-- the card's call. -/
theorem Run.card (r : Run B P gk w0 D0 L0 V0 ls0 w D SC SR L V ls) (hc : CardW w' P.c P.g P.h SC') (ho : Only (CardK P.c P.g P.h) w w') : Run B P gk w0 D0 L0 V0 ls0 w' D SC' SR L V ls := by
  have hk : ∀ k, k < w.heap.size → ¬ CardK P.c P.g P.h k → w'.heap[k]? = w.heap[k]? := fun k hl hn => ho.block k hn hl
  refine ⟨⟨⟨(hk _ (heap_lt r.now.pair.box) r.now.pair.d2).trans r.now.pair.box, hc, r.now.pair.ref.keep ho.size fun k h => hk k (r.now.pair.ref.lt k h) (fun e => r.now.pair.d1 k e h), r.now.pair.d1, r.now.pair.d2, r.now.pair.d3⟩,
    r.now.book.keep (fun k h => hk k (r.now.book.lt k h) (fun e => (r.now.kin k (Or.inr (Or.inl e))).2.1 h)) (fun p hp b hb => hk b (r.now.book.ltl p hp b hb) (fun e => (r.now.kin b (Or.inr (Or.inl e))).2.2 p hp hb)), Nat.le_trans r.now.top ho.size, r.now.kin⟩,
    r.fr.trans (ho.mono fun k h => Or.inl (Or.inr (Or.inl h))), r.grow, r.gb, r.gl⟩
/-- the document's call. -/
theorem Run.ref (r : Run B P gk w0 D0 L0 V0 ls0 w D SC SR L V ls) (h : RefTo w w' D P.x P.rg P.cr P.rh P.ct SR') : ∃ D', Run B P gk w0 D0 L0 V0 ls0 w' D' SC SR' L V ls ∧ ∀ k, PairK P D' k → PairK P D k ∨ w.heap.size ≤ k := by
  obtain ⟨D', hr, hd, ho⟩ := h
  have hk : ∀ k, k < w.heap.size → ¬ RefK D P.x P.rg P.rh k → w'.heap[k]? = w.heap[k]? := fun k hl hn => ho.block k hn hl
  have s0 := r.fr.size
  have hK : ∀ k, RefK D' P.x P.rg P.rh k → RefK D P.x P.rg P.rh k ∨ w.heap.size ≤ k := fun k hk => by
    rcases hk with h | h | h | h
    · exact Or.inl (Or.inl h)
    · exact Or.inl (Or.inr (Or.inl h))
    · exact Or.inl (Or.inr (Or.inr (Or.inl h)))
    · exact (hd k h).imp (fun h => Or.inr (Or.inr (Or.inr h))) id
  have hP : ∀ k, PairK P D' k → PairK P D k ∨ w.heap.size ≤ k := fun k hk => by
    rcases hk with h | h | h
    · exact Or.inl (Or.inl h)
    · exact Or.inl (Or.inr (Or.inl h))
    · exact (hK k h).imp (fun h => Or.inr (Or.inr h)) id
  refine ⟨D', ⟨⟨⟨(hk _ (heap_lt r.now.pair.box) r.now.pair.d3).trans r.now.pair.box, r.now.pair.card.keep fun k h => hk k (r.now.pair.card.lt k h) (r.now.pair.d1 k h), hr, fun k h1 h2 => ?_, r.now.pair.d2, fun h2 => ?_⟩,
    r.now.book.keep (fun k h => hk k (r.now.book.lt k h) (fun e => (r.now.kin k (Or.inr (Or.inr e))).2.1 h)) (fun p hp b hb => hk b (r.now.book.ltl p hp b hb) (fun e => (r.now.kin b (Or.inr (Or.inr e))).2.2 p hp hb)), Nat.le_trans r.now.top ho.size, fun k hk' => ?_⟩,
    ⟨ho.os.trans r.fr.os, ho.tape.trans r.fr.tape, ho.output.trans r.fr.output, Nat.le_trans r.fr.size ho.size, fun k hn hl => (ho.block k (fun e => ?_) (by omega)).trans (r.fr.block k hn hl)⟩, fun k hk' => ?_, r.gb, r.gl⟩, hP⟩
  · rcases hK k h2 with h | h
    · exact r.now.pair.d1 k h1 h
    · have := r.now.pair.card.lt k h1; omega
  · rcases hK _ h2 with h | h
    · exact r.now.pair.d3 h
    · have := heap_lt r.now.pair.box; omega
  · rcases hP k hk' with h | h
    · exact r.now.kin k h
    · exact ⟨by have := r.now.top; omega, fun hi => by have := r.now.book.lt k hi; omega, fun p hp e => by have := r.now.book.ltl p hp k e; omega⟩
  · rcases r.grow k (Or.inr (Or.inr e)) with h | h
    · exact hn (Or.inl h)
    · omega
  · rcases hP k hk' with h | h
    · exact r.grow k h
    · exact Or.inr (by omega)
/-- another block that is the call's own. -/
theorem Run.other (r : Run B P gk w0 D0 L0 V0 ls0 w D SC SR L V ls) {b : Nat} (hb : But b w w') (h0 : w0.heap.size ≤ b) (h1 : ¬ PairK P D b) (h2 : ¬ InBook gk L V b) (h3 : ∀ p, p ∈ ls → p.1.ownBlock ≠ some b) : Run B P gk w0 D0 L0 V0 ls0 w' D SC SR L V ls := by
  have hk : ∀ k, k < w.heap.size → k ≠ b → w'.heap[k]? = w.heap[k]? := fun k hl hn => hb.block k hn hl
  refine ⟨⟨r.now.pair.keep hb.size fun k h => hk k (r.now.pair.lt k h) (fun e => h1 (e ▸ h)), r.now.book.keep (fun k h => hk k (r.now.book.lt k h) (fun e => h2 (e ▸ h))) (fun p hp q hq => hk q (r.now.book.ltl p hp q hq) (fun e => h3 p hp (e ▸ hq))), Nat.le_trans r.now.top hb.size, r.now.kin⟩,
    ⟨hb.os.trans r.fr.os, hb.tape.trans r.fr.tape, hb.output.trans r.fr.output, Nat.le_trans r.fr.size hb.size, fun k hn hl => (hk k (by have := r.fr.size; omega) (by omega)).trans (r.fr.block k hn hl)⟩, r.grow, r.gb, r.gl⟩
/-- a list is taken into the book. -/
theorem Run.take (r : Run B P gk w0 D0 L0 V0 ls0 w D SC SR L V ls) {v : Value} {zs : List Int} {L' V' : Value} (hb : BookI w' B gk L' V' (ls ++ [(v, zs)])) (hk : ∀ k, k < w.heap.size → ¬ InBook gk L V k → w'.heap[k]? = w.heap[k]?) (hf : ∀ k, InBook gk L' V' k → InBook gk L V k ∨ w.heap.size ≤ k) (hB : Below B w w')
    (hv : ∀ b, v.ownBlock = some b → w0.heap.size ≤ b ∧ ¬ PairK P D b) : Run B P gk w0 D0 L0 V0 ls0 w' D SC SR L' V' (ls ++ [(v, zs)]) := by
  have s0 := r.fr.size
  refine ⟨⟨r.now.pair.keep hB.size fun k h => hk k (r.now.pair.lt k h) (r.now.kin k h).2.1, hb, Nat.le_trans r.now.top hB.size, fun k h => ⟨(r.now.kin k h).1, fun hi => ?_, fun p hp e => ?_⟩⟩,
    ⟨hB.os.trans r.fr.os, hB.tape.trans r.fr.tape, hB.output.trans r.fr.output, Nat.le_trans r.fr.size hB.size, fun k hn hl => (hk k (by omega) (fun hi => ?_)).trans (r.fr.block k hn hl)⟩, r.grow, fun k hi => ?_, fun p hp => ?_⟩
  · rcases hf k hi with h1 | h1
    · exact (r.now.kin k h).2.1 h1
    · have := r.now.pair.lt k h; omega
  · rcases List.mem_append.1 hp with hp | hp
    · exact (r.now.kin k h).2.2 p hp e
    · simp only [List.mem_singleton] at hp
      subst hp
      exact (hv k e).2 h
  · rcases r.gb k hi with h1 | h1
    · exact hn (Or.inr h1)
    · omega
  · rcases hf k hi with h1 | h1
    · exact r.gb k h1
    · exact Or.inr (by omega)
  · rcases List.mem_append.1 hp with hp | hp
    · exact r.gl p hp
    · simp only [List.mem_singleton] at hp
      subst hp
      exact Or.inr fun b hb => (hv b hb).1
end
end Go.Proofs.Ytclmmncadlbaiaa
