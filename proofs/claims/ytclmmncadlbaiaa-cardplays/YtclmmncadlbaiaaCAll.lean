/-
  Two pairs with one book.
-/
import Derived.Test.YtclmmncadlbaiaaCLast
import Derived.Test.YtclmmncadlbaiaaCLiveW
import Derived.Test.YtclmmncadlbaiaaCOpenO
namespace Go.Proofs.Ytclmmncadlbaiaa
open Go.RowKit
set_option linter.all false

structure AllI (w : World) (P Q : Pn) (gk : Nat) (DP DQ : Nat → Prop) (SP SQ : CS) (L V : Value) (ls : List (Value × List Int)) (n : Nat) (wr : World) : Prop where
  p : PBI wr w.heap.size P DP gk SP SP L V ls
  q : PBI wr w.heap.size Q DQ gk SQ SQ L V ls
  pq : ∀ k, PairK P DP k → ¬ PairK Q DQ k
  sp : SP.small n
  sq : SQ.small n
  ll : ls.length ≤ n
  bel : Below w.heap.size w wr
theorem AllI.swap {w : World} {P Q : Pn} {gk : Nat} {DP DQ : Nat → Prop} {SP SQ : CS} {L V : Value} {ls : List (Value × List Int)} {n : Nat} {wr : World} (h : AllI w P Q gk DP DQ SP SQ L V ls n wr) : AllI w Q P gk DQ DP SQ SP L V ls n wr :=
  ⟨h.q, h.p, fun k h1 h2 => h.pq k h2 h1, h.sq, h.sp, h.ll, h.bel⟩
theorem AllI.run {w : World} {P Q : Pn} {gk : Nat} {DP DQ : Nat → Prop} {SP SQ : CS} {L V : Value} {ls : List (Value × List Int)} {n m : Nat} {wr w' : World} (h : AllI w P Q gk DP DQ SP SQ L V ls n wr) (g : Went w.heap.size P gk wr DP L V ls n m w') :
    ∃ (D' : Nat → Prop) (S' : CS) (L' V' : Value) (ls' : List (Value × List Int)), AllI w P Q gk D' DQ S' SQ L' V' ls' (n + m) w' := by
  obtain ⟨D', S', L', V', ls', r, hs, hl⟩ := g
  refine ⟨D', S', L', V', ls', r.now, ⟨h.q.pair.keep r.fr.size fun k hk => r.fr.block k (fun e => ?_) (h.q.pair.lt k hk), r.now.book, r.now.top, fun k hk => ⟨(h.q.kin k hk).1, fun hi => ?_, fun p hp e => ?_⟩⟩, fun k h1 h2 => ?_, hs, h.sq.mono (by omega), by have := h.ll; omega, h.bel.trans (r.bel h.p)⟩
  · rcases e with e | e
    · exact h.pq k e hk
    · exact (h.q.kin k hk).2.1 e
  · rcases r.gb k hi with e | e
    · exact (h.q.kin k hk).2.1 e
    · have := h.q.pair.lt k hk; omega
  · rcases r.gl p hp with hp' | hp'
    · exact (h.q.kin k hk).2.2 p hp' e
    · have := hp' k e; have := h.q.pair.lt k hk; omega
  · rcases r.grow k h1 with e | e
    · exact h.pq k e h2
    · have := h.q.pair.lt k h2; omega
theorem Went.of {B : Nat} {P : Pn} {gk : Nat} {w : World} {D : Nat → Prop} {L V : Value} {ls : List (Value × List Int)} {n : Nat} {e : Ending} {w' : World} (h : StepE B P gk w D L V ls n e w') : e = .returned (.bool true) ∧ Went B P gk w D L V ls n 1 w' := by
  obtain ⟨he, D', S', L', V', ls', r, hs, hl⟩ := h
  exact ⟨he, D', S', L', V', ls', r, hs, hl⟩
/-- some state of two pairs. -/
def AllE (w : World) (P Q : Pn) (gk n : Nat) (wr : World) : Prop := ∃ (DP DQ : Nat → Prop) (SP SQ : CS) (L V : Value) (ls : List (Value × List Int)), AllI w P Q gk DP DQ SP SQ L V ls n wr
theorem AllE.swap {w : World} {P Q : Pn} {gk n : Nat} {wr : World} (h : AllE w P Q gk n wr) : AllE w Q P gk n wr := by
  obtain ⟨DP, DQ, SP, SQ, L, V, ls, h⟩ := h
  exact ⟨DQ, DP, SQ, SP, L, V, ls, h.swap⟩
theorem AllE.bel {w : World} {P Q : Pn} {gk n : Nat} {wr : World} (h : AllE w P Q gk n wr) : Below w.heap.size w wr := by
  obtain ⟨DP, DQ, SP, SQ, L, V, ls, h⟩ := h
  exact h.bel
/-- a step of the first pair. -/
theorem AllE.step {w : World} {P Q : Pn} {gk n : Nat} {wr : World} (h : AllE w P Q gk n wr) (x : OpR) (hx : x.pt.ok w) (hm : x.pt.zs.length ≤ 140737488351232) (l : Nat) (hl : l = x.pt.zs.length) (hn : n < 4398046511104) :
    Calls Try.prog 12 #[.pointer (some ⟨P.gp, 0, none⟩), .agg #[.int .i64 x.k, .int .i64 x.i, .slice x.pt.a l x.pt.c]] wr fun e w' => e = .returned (.bool true) ∧ AllE w P Q gk (n + 1) w' := by
  obtain ⟨DP, DQ, SP, SQ, L, V, ls, h⟩ := h
  refine (step_any w.heap.size P gk DP SP L V ls n x.k x.i x.pt.a l x.pt.c x.pt.zs wr h.p h.sp (by omega) (by have := h.ll; omega) (fun w' hb => Part.ok_below hx (h.bel.trans hb)) hl (by omega)).mono ?_
  intro e w' hst
  obtain ⟨he, hw⟩ := Went.of hst
  obtain ⟨D', S', L', V', ls', h'⟩ := h.run hw
  exact ⟨he, D', DQ, S', SQ, L', V', ls', h'⟩
theorem AllE.last {w : World} {P Q : Pn} {gk n : Nat} {wr : World} (h : AllE w P Q gk n wr) (hn : n + 200 < 4398046511104) :
    Calls Try.prog 13 #[.pointer (some ⟨P.gp, 0, none⟩)] wr fun e w' => e = .returned (.bool true) ∧ AllE w P Q gk (n + 129) w' := by
  obtain ⟨DP, DQ, SP, SQ, L, V, ls, h⟩ := h
  refine (last_any w.heap.size P gk DP SP L V ls n wr h.p h.sp hn (by have := h.ll; omega)).mono ?_
  rintro e w' ⟨rfl, hw⟩
  obtain ⟨D', S', L', V', ls', h'⟩ := h.run hw
  exact ⟨rfl, D', DQ, S', SQ, L', V', ls', h'⟩
/-- both pairs without a book. -/
def Pairs (w : World) (P Q : Pn) (gk n : Nat) (wr : World) : Prop := ∃ (DP DQ : Nat → Prop) (SP SQ : CS), PairI wr P DP gk SP SP ∧ PairI wr Q DQ gk SQ SQ ∧ (∀ k, PairK P DP k → ¬ PairK Q DQ k) ∧ (∀ k, PairK P DP k → w.heap.size ≤ k) ∧ (∀ k, PairK Q DQ k → w.heap.size ≤ k) ∧ SP.small n ∧ SQ.small n ∧ Below w.heap.size w wr
theorem AllE.owned {w : World} {P Q : Pn} {gk n : Nat} {wr : World} (h : AllE w P Q gk n wr) :
    Calls Try.prog 14 #[.pointer (some ⟨gk, 0, none⟩)] wr fun e w' => e = .returned (.bool true) ∧ Pairs w P Q gk n w' := by
  obtain ⟨DP, DQ, SP, SQ, L, V, ls, h⟩ := h
  refine (owned_any gk L V ls w.heap.size wr h.p.book h.p.top).mono ?_
  rintro e w' ⟨rfl, hb, hk⟩
  exact ⟨rfl, DP, DQ, SP, SQ, h.p.pair.keep hb.size fun k h1 => hk k (h.p.pair.lt k h1) (h.p.kin k h1).2.1 (h.p.kin k h1).2.2, h.q.pair.keep hb.size fun k h1 => hk k (h.q.pair.lt k h1) (h.q.kin k h1).2.1 (h.q.kin k h1).2.2, h.pq, fun k h1 => (h.p.kin k h1).1, fun k h1 => (h.q.kin k h1).1, h.sp, h.sq, h.bel.trans hb⟩
/-- a new book for both. -/
theorem Pairs.book {w : World} {P Q : Pn} {gk n : Nat} {wr : World} (h : Pairs w P Q gk n wr) : AllE w P Q wr.heap.size n (((wr.setCell ⟨P.gp, 2, none⟩ (.pointer (some ⟨wr.heap.size, 0, none⟩))).setCell ⟨Q.gp, 2, none⟩ (.pointer (some ⟨wr.heap.size, 0, none⟩))).alloc (.cells #[.slice none 0 0, .slice none 0 0] 38)) := by
  obtain ⟨DP, DQ, SP, SQ, hp, hq, hpq, kp, kq, sp, sq, hb⟩ := h
  obtain ⟨U, hU⟩ : ∃ U, U = (wr.setCell ⟨P.gp, 2, none⟩ (.pointer (some ⟨wr.heap.size, 0, none⟩))).setCell ⟨Q.gp, 2, none⟩ (.pointer (some ⟨wr.heap.size, 0, none⟩)) := ⟨_, rfl⟩
  rw [← hU]
  have gp := hp.lt _ (Or.inl rfl)
  have gq := hq.lt _ (Or.inl rfl)
  have hne : P.gp ≠ Q.gp := fun e => hpq P.gp (Or.inl rfl) (Or.inl e)
  have hsz : U.heap.size = wr.heap.size := by rw [hU]; simp [World.setCell]
  have old : ∀ k, k ≠ P.gp → k ≠ Q.gp → k < wr.heap.size → (U.alloc (.cells #[.slice none 0 0, .slice none 0 0] 38)).heap[k]? = wr.heap[k]? := fun k h1 h2 h3 => by
    rw [heap_old _ _ (by omega), hU, Below.heap_setCell _ _ _ _ (by simpa using h2), Below.heap_setCell _ _ _ _ (by simpa using h1)]
  have boxP : (U.alloc (.cells #[.slice none 0 0, .slice none 0 0] 38)).heap[P.gp]? = some (.cells #[.pointer (some ⟨P.c, 0, none⟩), .pointer (some ⟨P.x, 0, none⟩), .pointer (some ⟨wr.heap.size, 0, none⟩)] 41 (0, 0)) := by
    rw [heap_old _ _ (by omega), hU, Below.heap_setCell _ _ _ _ (by simpa using hne)]
    exact heap_setCell (j := 2) (v := .pointer (some ⟨wr.heap.size, 0, none⟩)) hp.box
  have boxQ : (U.alloc (.cells #[.slice none 0 0, .slice none 0 0] 38)).heap[Q.gp]? = some (.cells #[.pointer (some ⟨Q.c, 0, none⟩), .pointer (some ⟨Q.x, 0, none⟩), .pointer (some ⟨wr.heap.size, 0, none⟩)] 41 (0, 0)) := by
    rw [heap_old _ _ (by omega), hU]
    exact heap_setCell (j := 2) (v := .pointer (some ⟨wr.heap.size, 0, none⟩)) ((Below.heap_setCell _ _ _ _ (by simpa using hne.symm)).trans hq.box)
  have pI : PairI (U.alloc (.cells #[.slice none 0 0, .slice none 0 0] 38)) P DP wr.heap.size SP SP := ⟨boxP, hp.card.keep fun k hk => old k (fun e => hp.d2 (e ▸ hk)) (fun e => hpq k (Or.inr (Or.inl hk)) (Or.inl e)) (hp.card.lt k hk), hp.ref.keep (by simp; omega) fun k hk => old k (fun e => hp.d3 (e ▸ hk)) (fun e => hpq k (Or.inr (Or.inr hk)) (Or.inl e)) (hp.ref.lt k hk), hp.d1, hp.d2, hp.d3⟩
  have qI : PairI (U.alloc (.cells #[.slice none 0 0, .slice none 0 0] 38)) Q DQ wr.heap.size SQ SQ := ⟨boxQ, hq.card.keep fun k hk => old k (fun e => hpq k (Or.inl e) (Or.inr (Or.inl hk))) (fun e => hq.d2 (e ▸ hk)) (hq.card.lt k hk), hq.ref.keep (by simp; omega) fun k hk => old k (fun e => hpq k (Or.inl e) (Or.inr (Or.inr hk))) (fun e => hq.d3 (e ▸ hk)) (hq.ref.lt k hk), hq.d1, hq.d2, hq.d3⟩
  have bk := BookI.new U w.heap.size (by have := hb.size; omega)
  rw [hsz] at bk
  have nin : ∀ k, k < wr.heap.size → ¬ InBook wr.heap.size (.slice none 0 0) (.slice none 0 0) k := fun k hk hi => by
    have : k = wr.heap.size := by rcases hi with h | h | h <;> simp_all [Value.ownBlock]
    omega
  have bel : Below w.heap.size w (U.alloc (.cells #[.slice none 0 0, .slice none 0 0] 38)) := by
    rw [hU]
    exact bpush (bset (bset hb (kp _ (Or.inl rfl)) _ _) (kq _ (Or.inl rfl)) _ _) _
  exact ⟨DP, DQ, SP, SQ, _, _, [], ⟨pI, bk, bel.size, fun k hk => ⟨kp k hk, nin k (hp.lt k hk), by simp⟩⟩, ⟨qI, bk, bel.size, fun k hk => ⟨kq k hk, nin k (hq.lt k hk), by simp⟩⟩, hpq, sp, sq, by simp, bel⟩
end Go.Proofs.Ytclmmncadlbaiaa
