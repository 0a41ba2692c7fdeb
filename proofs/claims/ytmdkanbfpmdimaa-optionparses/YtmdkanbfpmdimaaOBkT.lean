/-
  The statements' book of rows of options: Take.
-/
import Derived.Test.YtmdkanbfpmdimaaOBk
import Derived.Test.YtmdkanbfpmdimaaOCop
namespace Go.Proofs.Ytmdkanbfpmdimaa
open Go.RowKit
set_option linter.all false

theorem infoRow : (Try.prog.info? 25).map (fun i => (i.zero, i.size, i.bytes)) = some (some (.slice none 0 0), 1, 24) := by kernel_rfl
/-- the bytes of a row's options. -/
def dat (E : List (Opt × Value)) : List (Value × List Int) := E.map fun q => (q.2, q.1.2)
/-- the book at gk. -/
structure K15 (w : World) (B gk : Nat) (L V R S : Value) (ls : List (Value × List Int)) (rs ws : List (Value × List (Opt × Value))) : Prop where
  book : B15.BookI R S w B gk L V ls
  late : ∀ k, B15.InBook gk L V k → gk ≤ k
  base : B ≤ w.heap.size
  rR : Row w 25 R (rs.map Prod.fst)
  rS : Row w 25 S (ws.map Prod.fst)
  lR : ∀ b, R.ownBlock = some b → gk ≤ b
  lS : ∀ b, S.ownBlock = some b → gk ≤ b
  RS : ∀ b, R.ownBlock = some b → S.ownBlock ≠ some b
  rows : ∀ p ∈ rs, OwnO B w p.1 p.2
  rlt : ∀ p ∈ rs, ∀ b, p.1.ownBlock = some b → b < gk
  apart : ∀ (i j : Nat) p q b, i ≠ j → rs[i]? = some p → rs[j]? = some q → p.1.ownBlock = some b → q.1.ownBlock ≠ some b
  fit : ∀ p ∈ rs, p.2.length ≤ 1000 ∧ ∀ q ∈ p.2, q.1.2.length ≤ 2147483647 ∧ -9223372036854775808 ≤ q.1.1 ∧ q.1.1 ≤ 9223372036854775807
  cop : ∀ (i : Nat) p q, rs[i]? = some p → ws[i]? = some q → OwnO gk w q.1 q.2 ∧ q.2.map Prod.fst = p.2.map Prod.fst
  len : rs.length = ws.length
/-- a block of options, or of bytes, is none of the book's. -/
theorem K15.off {w : World} {B gk : Nat} {L V R S : Value} {ls : List (Value × List Int)} {rs ws : List (Value × List (Opt × Value))} (h : K15 w B gk L V R S ls rs ws) {b : Nat} {cs : Array Value} {t : TypeId} {f : Nat × Nat} (hb : w.heap[b]? = some (.cells cs t f)) (ht : t = 45 ∨ t = 5) :
    ¬ B15.InBook gk L V b ∧ R.ownBlock ≠ some b ∧ S.ownBlock ≠ some b := by
  refine ⟨fun hi => ?_, fun e => ?_, fun e => ?_⟩
  · rcases hi with rfl | hi | hi
    · rw [h.book.box] at hb
      simp only [Option.some.injEq, Obj.cells.injEq] at hb
      rcases ht with ht | ht <;> rw [ht] at hb <;> simp at hb
    · obtain ⟨c1, f1, h1⟩ := h.book.lists.obj hi
      rw [h1] at hb
      simp only [Option.some.injEq, Obj.cells.injEq] at hb
      rcases ht with ht | ht <;> rw [ht] at hb <;> simp at hb
    · obtain ⟨c1, f1, h1⟩ := h.book.was.obj hi
      rw [h1] at hb
      simp only [Option.some.injEq, Obj.cells.injEq] at hb
      rcases ht with ht | ht <;> rw [ht] at hb <;> simp at hb
  · obtain ⟨c1, f1, h1⟩ := h.rR.obj e
    rw [h1] at hb
    simp only [Option.some.injEq, Obj.cells.injEq] at hb
    rcases ht with ht | ht <;> rw [ht] at hb <;> simp at hb
  · obtain ⟨c1, f1, h1⟩ := h.rS.obj e
    rw [h1] at hb
    simp only [Option.some.injEq, Obj.cells.injEq] at hb
    rcases ht with ht | ht <;> rw [ht] at hb <;> simp at hb
theorem OwnO.keepT {B : Nat} {w w' : World} {v : Value} {E : List (Opt × Value)} (h : OwnO B w v E) (hk : ∀ (k : Nat) cs t f, w.heap[k]? = some (.cells cs t f) → (t = 45 ∨ t = 5) → w'.heap[k]? = some (.cells cs t f)) : OwnO B w' v E := h.keep fun b hi => by
  rcases hi with hi | ⟨p, hp, hi⟩
  · obtain ⟨c1, h1⟩ := h.row.obj hi
    rw [h1]
    exact hk b _ _ _ h1 (Or.inl rfl)
  · obtain ⟨c1, f1, h1⟩ := (h.data p hp).obj hi
    rw [h1]
    exact hk b _ _ _ h1 (Or.inr rfl)
theorem RowS.keepT {w w' : World} {v : Value} {n : Nat} {xs : List Value} (h : RowS w 45 2 v n xs) (hk : ∀ (k : Nat) cs t f, w.heap[k]? = some (.cells cs t f) → (t = 45 ∨ t = 5) → w'.heap[k]? = some (.cells cs t f)) : RowS w' 45 2 v n xs := h.keep fun b hb => by
  obtain ⟨c1, h1⟩ := h.obj hb
  rw [h1]
  exact hk b _ _ _ h1 (Or.inl rfl)
/-- the book while it takes a row: R and S have the row already, k of its bytes are taken. -/
structure T15 (w0 wr : World) (B gk : Nat) (R S : Value) (ls : List (Value × List Int)) (E : List (Opt × Value)) (k : Nat) (L V : Value) : Prop where
  book : B15.BookI R S wr B gk L V (ls ++ (dat E).take k)
  late : ∀ b, B15.InBook gk L V b → gk ≤ b
  keepT : ∀ (b : Nat) cs t f, w0.heap[b]? = some (.cells cs t f) → (t = 45 ∨ t = 5 ∨ t = 25) → wr.heap[b]? = some (.cells cs t f)
  low : ∀ b, b < gk → wr.heap[b]? = w0.heap[b]?
  below : Below B w0 wr
theorem B15.BookI.offT {R S : Value} {w : World} {B gk : Nat} {L V : Value} {ls : List (Value × List Int)} (h : B15.BookI R S w B gk L V ls) {b : Nat} {cs : Array Value} {t : TypeId} {f : Nat × Nat} (hb : w.heap[b]? = some (.cells cs t f)) (ht : t = 45 ∨ t = 5 ∨ t = 25) : ¬ B15.InBook gk L V b := fun hi => by
  rcases hi with rfl | hi | hi
  · rw [h.box] at hb
    simp only [Option.some.injEq, Obj.cells.injEq] at hb
    rcases ht with ht | ht | ht <;> rw [ht] at hb <;> simp at hb
  · obtain ⟨c1, f1, h1⟩ := h.lists.obj hi
    rw [h1] at hb
    simp only [Option.some.injEq, Obj.cells.injEq] at hb
    rcases ht with ht | ht | ht <;> rw [ht] at hb <;> simp at hb
  · obtain ⟨c1, f1, h1⟩ := h.was.obj hi
    rw [h1] at hb
    simp only [Option.some.injEq, Obj.cells.injEq] at hb
    rcases ht with ht | ht | ht <;> rw [ht] at hb <;> simp at hb
/-- one more of its bytes. -/
theorem T15.step {w0 wr w2 : World} {B gk k : Nat} {R S L V L' V' : Value} {ls : List (Value × List Int)} {E : List (Opt × Value)} {q : Opt × Value} (h : T15 w0 wr B gk R S ls E k L V) (hq : E[k]? = some q) (hB : B ≤ wr.heap.size) (hg : gk ≤ wr.heap.size)
    (hb : B15.BookI R S w2 B gk L' V' (ls ++ (dat E).take k ++ [(q.2, q.1.2)])) (h1 : ∀ b, b < wr.heap.size → ¬ B15.InBook gk L V b → w2.heap[b]? = wr.heap[b]?) (h2 : ∀ b, B15.InBook gk L' V' b → B15.InBook gk L V b ∨ wr.heap.size ≤ b) (h3 : Below B wr w2) : T15 w0 w2 B gk R S ls E (k + 1) L' V' := by
  refine ⟨?_, fun b hi => ?_, fun b cs t f hc ht => ?_, fun b hb' => ?_, h.below.trans h3⟩
  · have hk : k < E.length := (List.getElem?_eq_some_iff.1 hq).1
    have e : (dat E).take (k + 1) = (dat E).take k ++ [(q.2, q.1.2)] := by
      rw [List.take_succ_eq_append_getElem (by simpa [dat] using hk)]
      rw [List.getElem?_eq_getElem hk] at hq
      simp only [Option.some.injEq] at hq
      simp [dat, hq]
    rw [e, ← List.append_assoc]
    exact hb
  · rcases h2 b hi with h | h'
    · exact ‹T15 w0 wr B gk R S ls E k L V›.late b h
    · omega
  · have hw := h.keepT b cs t f hc ht
    rw [h1 b (heap_lt hw) (h.book.offT hw ht)]
    exact hw
  · rw [h1 b (by omega) (fun hi => by have := h.late b hi; omega)]
    exact h.low b hb'
/-- the row is taken, its bytes too. -/
theorem K15.taken {w wr : World} {B gk : Nat} {L V R S L' V' : Value} {ls : List (Value × List Int)} {rs ws : List (Value × List (Opt × Value))} {E : List (Opt × Value)} (h : K15 w B gk L V R S ls rs ws) (ht : T15 w wr B gk R S ls E E.length L' V') : K15 wr B gk L' V' R S (ls ++ dat E) rs ws := by
  have kT : ∀ (k : Nat) cs t f, w.heap[k]? = some (.cells cs t f) → (t = 45 ∨ t = 5) → wr.heap[k]? = some (.cells cs t f) := fun k cs t f hc h2 => ht.keepT k cs t f hc (by rcases h2 with e | e <;> simp [e])
  have kR : ∀ (v : Value) vs, Row w 25 v vs → Row wr 25 v vs := fun v vs hr => hr.keep fun b hb => by
    obtain ⟨c1, f1, h1⟩ := hr.obj hb
    rw [h1]
    exact ht.keepT b _ _ _ h1 (Or.inr (Or.inr rfl))
  refine ⟨?_, ht.late, Nat.le_trans h.base ht.below.size, kR _ _ h.rR, kR _ _ h.rS, h.lR, h.lS, h.RS, fun p hp => (h.rows p hp).keepT kT, h.rlt, h.apart, h.fit, fun i p q hp hq => ⟨(h.cop i p q hp hq).1.keepT kT, (h.cop i p q hp hq).2⟩, h.len⟩
  have e : (dat E).take E.length = dat E := List.take_of_length_le (by simp [dat])
  have := ht.book
  rw [e] at this
  exact this
theorem T15.start {w : World} {B gk : Nat} {L V R S : Value} {ls : List (Value × List Int)} {rs ws : List (Value × List (Opt × Value))} (E : List (Opt × Value)) (h : K15 w B gk L V R S ls rs ws) : T15 w w B gk R S ls E 0 L V :=
  ⟨by rw [List.take_zero, List.append_nil]; exact h.book, h.late, fun _ _ _ _ hc _ => hc, fun _ _ => rfl, Below.refl _ _⟩
end Go.Proofs.Ytmdkanbfpmdimaa
