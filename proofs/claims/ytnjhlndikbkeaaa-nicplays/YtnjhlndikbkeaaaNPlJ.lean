import Derived.Test.YtnjhlndikbkeaaaNRefJ
import Derived.Test.YtnjhlndikbkeaaaNLiveK
import Derived.Test.YtnjhlndikbkeaaaNOpenO
/-
  A card and its driver beside the document's, the book of what came out, blocks that are none of theirs.
-/
namespace Go.Proofs.Ytnjhlndikbkeaaa
open Go.RowKit
set_option linter.all false

structure NP where
  gp : Nat
  gk : Nat
  q : Nat
  c : Nat
  g : Nat
  h : Nat
  y : Nat
  x : Nat
  rg : Nat
  cr : Nat
  rh : Nat
  ct : Nat
def NP.box (P : NP) : Obj := .cells #[.pointer (some ⟨P.c, 0, none⟩), .pointer (some ⟨P.q, 0, none⟩), .pointer (some ⟨P.x, 0, none⟩), .pointer (some ⟨P.y, 0, none⟩), .pointer (some ⟨P.gk, 0, none⟩)] 39 (0, 0)
def NP.A (P : NP) (k : Nat) : Prop := NicK P.q P.c P.g P.h k
def NP.R (P : NP) (D : Nat → Prop) (k : Nat) : Prop := RNicK D P.y P.x P.rg P.rh k
def NP.K (P : NP) (D : Nat → Prop) (k : Nat) : Prop := k = P.gp ∨ P.A k ∨ P.R D k
structure NI (wB w : World) (P : NP) (own : Mac) (n m : Nat) (D : Nat → Prop) (SC SR : CS) (NC NR : NS) (L V : Value) (ls : List (Value × List Int)) (X : List (Nat × Obj)) : Prop where
  box : w.heap[P.gp]? = some P.box
  nic : NicW w P.q own P.c P.g P.h n m SC NC
  ref : RNicW w P.y own D P.x P.rg P.cr P.rh P.ct n m SR NR
  book : BookI w wB.heap.size P.gk L V ls
  d1 : ∀ k, P.A k → ¬ P.R D k
  d2 : ¬ P.A P.gp
  d3 : ¬ P.R D P.gp
  kin : ∀ k, P.K D k → wB.heap.size ≤ k ∧ ¬ InBook P.gk L V k ∧ ∀ p, p ∈ ls → p.1.ownBlock ≠ some k
  ho : Holds w X
  off : ∀ t, t ∈ X → ¬ P.K D t.1 ∧ ¬ InBook P.gk L V t.1 ∧ ∀ p, p ∈ ls → p.1.ownBlock ≠ some t.1
  bel : Below wB.heap.size wB w
/-- some such state; at most k lists have come out. -/
def NE (wB w : World) (P : NP) (own : Mac) (n m : Nat) (SC SR : CS) (NC NR : NS) (k : Nat) (X : List (Nat × Obj)) : Prop := ∃ (D : Nat → Prop) (L V : Value) (ls : List (Value × List Int)), NI wB w P own n m D SC SR NC NR L V ls X ∧ ls.length ≤ k
theorem BookI.ltl {w : World} {B gk : Nat} {L V : Value} {ls : List (Value × List Int)} (h : BookI w B gk L V ls) : ∀ p, p ∈ ls → ∀ b, p.1.ownBlock = some b → b < w.heap.size := fun p hp b hb => (h.rows p hp).1.lt hb
section
variable {wB w w' : World} {P : NP} {own : Mac} {n m : Nat} {D : Nat → Prop} {SC SR SC' SR' : CS} {NC NR NC' NR' : NS} {L V : Value} {ls : List (Value × List Int)} {X Y : List (Nat × Obj)} {k : Nat}
theorem NI.lt (h : NI wB w P own n m D SC SR NC NR L V ls X) : ∀ k, P.K D k → k < w.heap.size := fun k hk => by
  rcases hk with rfl | hk | hk
  · exact heap_lt h.box
  · exact h.nic.lt k hk
  · exact h.ref.lt k hk
/-- what is kept of it where only blocks of none turn. -/
theorem NI.keep (h : NI wB w P own n m D SC SR NC NR L V ls X) (hs : w.heap.size ≤ w'.heap.size) (hk : ∀ k, P.K D k → w'.heap[k]? = w.heap[k]?) (hi : ∀ k, InBook P.gk L V k → w'.heap[k]? = w.heap[k]?) (hl : ∀ p, p ∈ ls → ∀ b, p.1.ownBlock = some b → w'.heap[b]? = w.heap[b]?) (hX : ∀ t, t ∈ Y → t ∈ X ∧ w'.heap[t.1]? = w.heap[t.1]?) (hb : Below wB.heap.size wB w') : NI wB w' P own n m D SC SR NC NR L V ls Y :=
  ⟨(hk _ (Or.inl rfl)).trans h.box, h.nic.keep fun k hk' => hk k (Or.inr (Or.inl hk')), h.ref.keep hs fun k hk' => hk k (Or.inr (Or.inr hk')), h.book.keep hi hl, h.d1, h.d2, h.d3, h.kin, fun t ht => (hX t ht).2.trans (h.ho t (hX t ht).1), fun t ht => h.off t (hX t ht).1, hb⟩
theorem NI.below (h : NI wB w P own n m D SC SR NC NR L V ls X) (hb : Below w.heap.size w w') : NI wB w' P own n m D SC SR NC NR L V ls X :=
  h.keep hb.size (fun k hk => hb.block k (h.lt k hk)) (fun k hk => hb.block k (h.book.lt k hk)) (fun p hp b hb' => hb.block b (h.book.ltl p hp b hb')) (fun t ht => ⟨ht, hb.block t.1 (h.ho.lt ht)⟩) (bstep h.bel hb)
theorem NE.below (h : NE wB w P own n m SC SR NC NR k X) (hb : Below w.heap.size w w') : NE wB w' P own n m SC SR NC NR k X := by
  obtain ⟨D, L, V, ls, h, hl⟩ := h
  exact ⟨D, L, V, ls, h.below hb, hl⟩
theorem NE.drewN (h : NE wB w P own n m SC SR NC NR k X) (j : Nat) : NE wB (w.drewN j) P own n m SC SR NC NR k X := h.below (drewN_below _ _)
theorem NE.bel (h : NE wB w P own n m SC SR NC NR k X) : Below wB.heap.size wB w := by
  obtain ⟨D, L, V, ls, h, hl⟩ := h
  exact h.bel
theorem NE.ho (h : NE wB w P own n m SC SR NC NR k X) : Holds w X := by
  obtain ⟨D, L, V, ls, h, hl⟩ := h
  exact h.ho
theorem NE.box (h : NE wB w P own n m SC SR NC NR k X) : w.heap[P.gp]? = some P.box := by
  obtain ⟨D, L, V, ls, h, hl⟩ := h
  exact h.box
theorem NE.drop (h : NE wB w P own n m SC SR NC NR k X) (hs : ∀ t, t ∈ Y → t ∈ X) : NE wB w P own n m SC SR NC NR k Y := by
  obtain ⟨D, L, V, ls, h, hl⟩ := h
  exact ⟨D, L, V, ls, h.keep (Nat.le_refl _) (fun _ _ => rfl) (fun _ _ => rfl) (fun _ _ _ _ => rfl) (fun t ht => ⟨hs t ht, rfl⟩) h.bel, hl⟩
/-- new blocks that are guests. -/
theorem NE.guests (h : NE wB w P own n m SC SR NC NR k X) (hb : Below w.heap.size w w') (hY : Holds w' Y) (hn : ∀ t, t ∈ Y → w.heap.size ≤ t.1) : NE wB w' P own n m SC SR NC NR k (Y ++ X) := by
  obtain ⟨D, L, V, ls, h, hl⟩ := h
  have h' := h.below hb
  refine ⟨D, L, V, ls, ⟨h'.box, h'.nic, h'.ref, h'.book, h'.d1, h'.d2, h'.d3, h'.kin, fun t ht => ?_, fun t ht => ?_, h'.bel⟩, hl⟩
  · rcases List.mem_append.1 ht with ht | ht
    · exact hY t ht
    · exact h'.ho t ht
  · rcases List.mem_append.1 ht with ht | ht
    · have := hn t ht
      exact ⟨fun e => by have := h.lt _ e; omega, fun e => by have := h.book.lt _ e; omega, fun p hp e => by have := h.book.ltl p hp _ e; omega⟩
    · exact h.off t ht
theorem NE.push (h : NE wB w P own n m SC SR NC NR k X) (o : Obj) : NE wB (w.alloc o) P own n m SC SR NC NR k ((w.heap.size, o) :: X) :=
  h.guests (Y := [(w.heap.size, o)]) (balloc w o) ((Holds.nil _).cons (heap_new w o)) (fun t ht => by simp at ht; subst ht; exact Nat.le_refl _)
/-- a guest's block is written. -/
theorem NE.but {g : Nat} {o : Obj} (h : NE wB w P own n m SC SR NC NR k ((g, o) :: X)) (hb : But g w w') (hX : ∀ t, t ∈ X → t.1 ≠ g) (hg : wB.heap.size ≤ g) : NE wB w' P own n m SC SR NC NR k X := by
  obtain ⟨D, L, V, ls, h, hl⟩ := h
  have ho := h.off (g, o) (by simp)
  refine ⟨D, L, V, ls, h.keep hb.size (fun k hk => hb.block k (fun e => ho.1 (e ▸ hk)) (h.lt k hk)) (fun k hk => hb.block k (fun e => ho.2.1 (e ▸ hk)) (h.book.lt k hk)) (fun p hp b hb' => hb.block b (fun e => ho.2.2 p hp (e ▸ hb')) (h.book.ltl p hp b hb')) (fun t ht => ⟨by simp [ht], hb.block t.1 (hX t ht) (h.ho.lt (by simp [ht]))⟩) (h.bel.trans (hb.below hg h.bel.size)), hl⟩
/-- the same, and it stays a guest. -/
theorem NE.set {g : Nat} {o o' : Obj} (h : NE wB w P own n m SC SR NC NR k ((g, o) :: X)) (hb : But g w w') (ho' : w'.heap[g]? = some o') (hX : ∀ t, t ∈ X → t.1 ≠ g) (hg : wB.heap.size ≤ g) : NE wB w' P own n m SC SR NC NR k ((g, o') :: X) := by
  obtain ⟨D, L, V, ls, h, hl⟩ := h
  have ho := h.off (g, o) (by simp)
  have h' : NI wB w' P own n m D SC SR NC NR L V ls X := h.keep hb.size (fun k hk => hb.block k (fun e => ho.1 (e ▸ hk)) (h.lt k hk)) (fun k hk => hb.block k (fun e => ho.2.1 (e ▸ hk)) (h.book.lt k hk)) (fun p hp b hb' => hb.block b (fun e => ho.2.2 p hp (e ▸ hb')) (h.book.ltl p hp b hb')) (fun t ht => ⟨by simp [ht], hb.block t.1 (hX t ht) (h.ho.lt (by simp [ht]))⟩) (h.bel.trans (hb.below hg h.bel.size))
  exact ⟨D, L, V, ls, ⟨h'.box, h'.nic, h'.ref, h'.book, h'.d1, h'.d2, h'.d3, h'.kin, h'.ho.cons ho', fun t ht => by
    rcases List.mem_cons.1 ht with rfl | ht
    · exact ho
    · exact h'.off t ht, h'.bel⟩, hl⟩
/-- the program's driver and card turn. -/
theorem NI.nicTo (h : NI wB w P own n m D SC SR NC NR L V ls X) (hn : NicW w' P.q own P.c P.g P.h n m SC' NC') (ho : Only P.A w w') : NI wB w' P own n m D SC' SR NC' NR L V ls X := by
  have hk : ∀ k, k < w.heap.size → ¬ P.A k → w'.heap[k]? = w.heap[k]? := fun k hl hn => ho.block k hn hl
  exact ⟨(hk _ (heap_lt h.box) h.d2).trans h.box, hn, h.ref.keep ho.size fun k hk' => hk k (h.ref.lt k hk') (fun e => h.d1 k e hk'), h.book.keep (fun k hk' => hk k (h.book.lt k hk') (fun e => (h.kin k (Or.inr (Or.inl e))).2.1 hk')) (fun p hp b hb => hk b (h.book.ltl p hp b hb) (fun e => (h.kin b (Or.inr (Or.inl e))).2.2 p hp hb)), h.d1, h.d2, h.d3, h.kin,
    fun t ht => (hk t.1 (h.ho.lt ht) (fun e => (h.off t ht).1 (Or.inr (Or.inl e)))).trans (h.ho t ht), h.off, h.bel.trans (ho.below (fun k hk' => (h.kin k (Or.inr (Or.inl hk'))).1) h.bel.size)⟩
/-- the document's. -/
theorem NI.refTo' (h : NI wB w P own n m D SC SR NC NR L V ls X) {D' : Nat → Prop} (hr : RNicW w' P.y own D' P.x P.rg P.cr P.rh P.ct n m SR' NR') (hd : ∀ k, D' k → D k ∨ w.heap.size ≤ k) (ho : Only (RNicK D P.y P.x P.rg P.rh) w w') : NI wB w' P own n m D' SC SR' NC NR' L V ls X := by
  have hk : ∀ k, k < w.heap.size → ¬ P.R D k → w'.heap[k]? = w.heap[k]? := fun k hl hn => ho.block k hn hl
  have hK : ∀ k, P.R D' k → P.R D k ∨ w.heap.size ≤ k := fun k hk => by
    rcases hk with h | h | h | h | h
    · exact Or.inl (Or.inl h)
    · exact Or.inl (Or.inr (Or.inl h))
    · exact Or.inl (Or.inr (Or.inr (Or.inl h)))
    · exact Or.inl (Or.inr (Or.inr (Or.inr (Or.inl h))))
    · exact (hd k h).imp (fun h => Or.inr (Or.inr (Or.inr (Or.inr h)))) id
  have hP : ∀ k, P.K D' k → P.K D k ∨ w.heap.size ≤ k := fun k hk => by
    rcases hk with h | h | h
    · exact Or.inl (Or.inl h)
    · exact Or.inl (Or.inr (Or.inl h))
    · exact (hK k h).imp (fun h => Or.inr (Or.inr h)) id
  refine ⟨(hk _ (heap_lt h.box) h.d3).trans h.box, h.nic.keep fun k hk' => hk k (h.nic.lt k hk') (h.d1 k hk'), hr, h.book.keep (fun k hk' => hk k (h.book.lt k hk') (fun e => (h.kin k (Or.inr (Or.inr e))).2.1 hk')) (fun p hp b hb => hk b (h.book.ltl p hp b hb) (fun e => (h.kin b (Or.inr (Or.inr e))).2.2 p hp hb)), fun k h1 h2 => ?_, h.d2, fun h2 => ?_, fun k hk' => ?_,
    fun t ht => (hk t.1 (h.ho.lt ht) (fun e => (h.off t ht).1 (Or.inr (Or.inr e)))).trans (h.ho t ht), fun t ht => ⟨fun e => ?_, (h.off t ht).2⟩, h.bel.trans (ho.below (fun k hk' => (h.kin k (Or.inr (Or.inr hk'))).1) h.bel.size)⟩
  · rcases hK k h2 with e | e
    · exact h.d1 k h1 e
    · have := h.nic.lt k h1; omega
  · rcases hK _ h2 with e | e
    · exact h.d3 e
    · have := heap_lt h.box; omega
  · rcases hP k hk' with e | e
    · exact h.kin k e
    · exact ⟨by have := h.bel.size; omega, fun hi => by have := h.book.lt k hi; omega, fun p hp e' => by have := h.book.ltl p hp k e'; omega⟩
  · rcases hP _ e with e | e
    · exact (h.off t ht).1 e
    · have := h.ho.lt ht; omega
theorem NI.refTo (h : NI wB w P own n m D SC SR NC NR L V ls X) (hr : RNTo w w' P.y own D P.x P.rg P.cr P.rh P.ct n m SR' NR') : ∃ D', NI wB w' P own n m D' SC SR' NC NR' L V ls X := by
  obtain ⟨D', hr, hd, ho⟩ := hr
  exact ⟨D', h.refTo' hr hd ho⟩
/-- what calls of the program's find, and leave. -/
theorem NE.nic (h : NE wB w P own n m SC SR NC NR k X) : NicW w P.q own P.c P.g P.h n m SC NC ∧ ∀ SC' NC' w', NicW w' P.q own P.c P.g P.h n m SC' NC' → Only (NicK P.q P.c P.g P.h) w w' → NE wB w' P own n m SC' SR NC' NR k X := by
  obtain ⟨D, L, V, ls, h, hl⟩ := h
  exact ⟨h.nic, fun SC' NC' w' hn ho => ⟨D, L, V, ls, h.nicTo hn ho, hl⟩⟩
/-- of the document's. -/
theorem NE.ref (h : NE wB w P own n m SC SR NC NR k X) : ∃ D, RNicW w P.y own D P.x P.rg P.cr P.rh P.ct n m SR NR ∧ ∀ SR' NR' w', RNTo w w' P.y own D P.x P.rg P.cr P.rh P.ct n m SR' NR' → NE wB w' P own n m SC SR' NC NR' k X := by
  obtain ⟨D, L, V, ls, h, hl⟩ := h
  exact ⟨D, h.ref, fun SR' NR' w' hr => by
    obtain ⟨D', h'⟩ := h.refTo hr
    exact ⟨D', L, V, ls, h', hl⟩⟩
end
/-! ### Values as guests -/
def gOf (w : World) (v : Value) : List (Nat × Obj) := match v.ownBlock with
  | some b => [(b, (w.heap[b]?).getD (.cells #[] 0 (0, 0)))]
  | none => []
theorem gOf_mem {w : World} {v : Value} {t : Nat × Obj} (h : t ∈ gOf w v) : v.ownBlock = some t.1 ∧ t.2 = (w.heap[t.1]?).getD (.cells #[] 0 (0, 0)) := by
  unfold gOf at h
  split at h
  · rename_i b hb
    simp at h
    subst h
    exact ⟨hb, rfl⟩
  · simp at h
theorem gOf_holds {w : World} {v : Value} (h : ∀ b, v.ownBlock = some b → b < w.heap.size) : Holds w (gOf w v) := fun t ht => by
  obtain ⟨h1, h2⟩ := gOf_mem ht
  have h3 := h _ h1
  rw [h2, Array.getElem?_eq_getElem h3]; rfl
theorem gOf_eq {w W : World} {v : Value} (h : Holds W (gOf w v)) {b : Nat} (hb : v.ownBlock = some b) (hl : b < w.heap.size) : W.heap[b]? = w.heap[b]? := by
  have := h (b, (w.heap[b]?).getD (.cells #[] 0 (0, 0))) (by unfold gOf; rw [hb]; simp)
  simp only at this
  rw [this, Array.getElem?_eq_getElem hl]; rfl
theorem Row.guest {w W : World} {e : TypeId} {v : Value} {vs : List Value} (h : Row w e v vs) (hW : Holds W (gOf w v)) : Row W e v vs := h.keep fun b hb => gOf_eq hW hb (h.lt hb)
theorem Holds.app {w : World} {X Y : List (Nat × Obj)} (h : Holds w X) (k : Holds w Y) : Holds w (X ++ Y) := fun t ht => by
  rcases List.mem_append.1 ht with ht | ht
  · exact h t ht
  · exact k t ht
theorem Holds.left {w : World} {X Y : List (Nat × Obj)} (h : Holds w (X ++ Y)) : Holds w X := fun t ht => h t (List.mem_append.2 (Or.inl ht))
theorem Holds.right {w : World} {X Y : List (Nat × Obj)} (h : Holds w (X ++ Y)) : Holds w Y := fun t ht => h t (List.mem_append.2 (Or.inr ht))
/-- a list is taken into the book. -/
theorem ne_take {wB w w5 : World} {P : NP} {own : Mac} {n m : Nat} {SC SR : CS} {NC NR : NS} {X : List (Nat × Obj)} {k : Nat} {v : Value} {zs : List Int} (h : NE wB w P own n m SC SR NC NR k (gOf w5 v ++ X)) (hr : Row w 5 v (u8s zs)) (hz : ∀ z, z ∈ zs → 0 ≤ z ∧ z ≤ 255) (hl : zs.length ≤ 140737488351232) (hk : k < 4398046511104) (hB : ∀ b, v.ownBlock = some b → wB.heap.size ≤ b) (hX : ∀ t, t ∈ X → v.ownBlock ≠ some t.1) :
    Calls Try.prog 30 #[.pointer (some ⟨P.gk, 0, none⟩), v] w fun e w' => e = .returned (.tuple #[]) ∧ Hid (NE wB w' P own n m SC SR NC NR (k + 1) X) ∧ Hid (Row w' 5 v (u8s zs)) := by
  obtain ⟨D, L, V, ls, h, hll⟩ := h
  have hof : ∀ b, v.ownBlock = some b → ¬ P.K D b ∧ ¬ InBook P.gk L V b ∧ ∀ p, p ∈ ls → p.1.ownBlock ≠ some b := fun b hb => h.off (b, (w5.heap[b]?).getD (.cells #[] 0 (0, 0))) (by unfold gOf; rw [hb]; simp)
  refine (take_any P.gk L V v ls zs wB.heap.size w h.book h.bel.size hr hz hl (by omega) (fun b hb => ⟨hB b hb, (hof b hb).2⟩)).mono ?_
  rintro e w' ⟨rfl, L', V', hb, hk', hf, hBl⟩
  refine ⟨rfl, ⟨D, L', V', ls ++ [(v, zs)], ⟨(hk' _ (heap_lt h.box) (h.kin _ (Or.inl rfl)).2.1).trans h.box, h.nic.keep fun k hk => hk' k (h.nic.lt k hk) (h.kin k (Or.inr (Or.inl hk))).2.1, h.ref.keep hBl.size fun k hk => hk' k (h.ref.lt k hk) (h.kin k (Or.inr (Or.inr hk))).2.1, hb, h.d1, h.d2, h.d3, fun k hk => ⟨(h.kin k hk).1, fun hi => ?_, fun p hp e => ?_⟩, fun t ht => ?_, fun t ht => ⟨(h.off t (by simp [ht])).1, fun hi => ?_, fun p hp e => ?_⟩, h.bel.trans hBl⟩, by simp; omega⟩, (hb.rows (v, zs) (by simp)).1⟩
  · rcases hf k hi with h1 | h1
    · exact (h.kin k hk).2.1 h1
    · have := h.lt k hk; omega
  · rcases List.mem_append.1 hp with hp | hp
    · exact (h.kin k hk).2.2 p hp e
    · simp only [List.mem_singleton] at hp
      subst hp
      exact (hof k e).1 hk
  · have ht' : t ∈ gOf w5 v ++ X := by simp [ht]
    exact (hk' t.1 (h.ho.lt ht') (h.off t ht').2.1).trans (h.ho t ht')
  · have ht' : t ∈ gOf w5 v ++ X := by simp [ht]
    rcases hf _ hi with h1 | h1
    · exact (h.off t ht').2.1 h1
    · have := h.ho.lt ht'; omega
  · rcases List.mem_append.1 hp with hp | hp
    · exact (h.off t (by simp [ht])).2.2 p hp e
    · simp only [List.mem_singleton] at hp
      subst hp
      exact hX t ht e
/-- a new value that came with the call stays a guest. -/
theorem NI.with {wB w w' : World} {P : NP} {own : Mac} {n m : Nat} {D D' : Nat → Prop} {SC SR SC' SR' : CS} {NC NR NC' NR' : NS} {L V : Value} {ls : List (Value × List Int)} {X Y : List (Nat × Obj)} (h : NI wB w P own n m D SC SR NC NR L V ls X) (h' : NI wB w' P own n m D' SC' SR' NC' NR' L V ls X) (hD : ∀ k, P.K D' k → P.K D k ∨ ∀ t, t ∈ Y → t.1 ≠ k) (hY : Holds w' Y) (hn : ∀ t, t ∈ Y → w.heap.size ≤ t.1) : NI wB w' P own n m D' SC' SR' NC' NR' L V ls (Y ++ X) :=
  ⟨h'.box, h'.nic, h'.ref, h'.book, h'.d1, h'.d2, h'.d3, h'.kin, hY.app h'.ho, fun t ht => by
    rcases List.mem_append.1 ht with ht | ht
    · have := hn t ht
      exact ⟨fun e => by
        rcases hD _ e with h1 | h1
        · have := h.lt _ h1; omega
        · exact h1 t ht rfl, fun e => by have := h.book.lt _ e; omega, fun p hp e => by have := h.book.ltl p hp _ e; omega⟩
    · exact h'.off t ht, h'.bel⟩
/-- what calls of the program's find, and leave, with new blocks Y. -/
theorem NE.nicG {wB w : World} {P : NP} {own : Mac} {n m : Nat} {SC SR : CS} {NC NR : NS} {X : List (Nat × Obj)} {k : Nat} (h : NE wB w P own n m SC SR NC NR k X) : NicW w P.q own P.c P.g P.h n m SC NC ∧ ∀ SC' NC' w' Y, NicW w' P.q own P.c P.g P.h n m SC' NC' → Only (NicK P.q P.c P.g P.h) w w' → Holds w' Y → (∀ t, t ∈ Y → w.heap.size ≤ t.1) → NE wB w' P own n m SC' SR NC' NR k (Y ++ X) := by
  obtain ⟨D, L, V, ls, h, hl⟩ := h
  exact ⟨h.nic, fun SC' NC' w' Y hn ho hY hf => ⟨D, L, V, ls, h.with (h.nicTo hn ho) (fun k hk => Or.inl hk) hY hf, hl⟩⟩
/-- of the document's, with a new value that is none of its. -/
theorem NE.refG {wB w : World} {P : NP} {own : Mac} {n m : Nat} {SC SR : CS} {NC NR : NS} {X : List (Nat × Obj)} {k : Nat} (h : NE wB w P own n m SC SR NC NR k X) : ∃ D, RNicW w P.y own D P.x P.rg P.cr P.rh P.ct n m SR NR ∧ ∀ SR' NR' w' v, RNTv w w' P.y own D P.x P.rg P.cr P.rh P.ct n m SR' NR' v → (∀ b, v.ownBlock = some b → w.heap.size ≤ b ∧ b < w'.heap.size) → NE wB w' P own n m SC SR' NC NR' k (gOf w' v ++ X) := by
  obtain ⟨D, L, V, ls, h, hl⟩ := h
  refine ⟨D, h.ref, fun SR' NR' w' v hr hb => ?_⟩
  obtain ⟨D', hr, hd, ho, hv⟩ := hr
  refine ⟨D', L, V, ls, h.with (h.refTo' hr hd ho) (fun j hj => ?_) (gOf_holds fun b h1 => (hb b h1).2) (fun t ht => (hb _ (gOf_mem ht).1).1), hl⟩
  rcases hj with hj | hj | hj
  · exact Or.inl (Or.inl hj)
  · exact Or.inl (Or.inr (Or.inl hj))
  · exact Or.inr fun t ht e => hv _ (gOf_mem ht).1 (e ▸ hj)
theorem ne_owned {wB w : World} {P : NP} {own : Mac} {n m : Nat} {SC SR : CS} {NC NR : NS} {X : List (Nat × Obj)} {k : Nat} (h : NE wB w P own n m SC SR NC NR k X) :
    Calls Try.prog 13 #[.pointer (some ⟨P.gk, 0, none⟩)] w fun e w' => e = .returned (.bool true) ∧ Below wB.heap.size wB w' := by
  obtain ⟨D, L, V, ls, h, hll⟩ := h
  refine (owned_any P.gk L V ls wB.heap.size w h.book h.bel.size).mono ?_
  rintro e w' ⟨rfl, hb, _⟩
  exact ⟨rfl, h.bel.trans hb⟩
end Go.Proofs.Ytnjhlndikbkeaaa

/-
  What each call does to both: Arrive, Depart, Poll, Send.
-/
namespace Go.Proofs.Ytnjhlndikbkeaaa
open Go.RowKit
set_option linter.all false

/-- what the counts are worth behind j calls. -/
structure Cnt (S : CS) (N : NS) (j : Nat) : Prop where
  small : S.small j
  tk : N.tk + N.th + free S.R ≤ j
  sn : N.sn + N.rf ≤ j
theorem Cnt.mono {S : CS} {N : NS} {j i : Nat} (h : Cnt S N j) (hi : j ≤ i) : Cnt S N i := ⟨h.small.mono hi, Nat.le_trans h.tk hi, Nat.le_trans h.sn hi⟩
theorem pollF_all (own : Mac) : ∀ (k : Nat) (S : CS) (N : NS), (pollF own k S N).2.2.tk = N.tk + (pollF own k S N).1.length ∧ (pollF own k S N).2.2.tk + (pollF own k S N).2.2.th + free (pollF own k S N).2.1.R = N.tk + N.th + free S.R ∧ (pollF own k S N).2.2.sn = N.sn ∧ (pollF own k S N).2.2.rf = N.rf ∧ (∀ j, S.small j → (pollF own k S N).2.1.small j)
  | 0, S, N => by simp [pollF]
  | k + 1, S, N => by
    cases hp : S.R[N.rt]? with
    | none => simp [pollF, hp]
    | some p =>
      obtain ⟨b, zs⟩ := p
      cases b with
      | true => simp [pollF, hp]
      | false =>
        rw [pollF_step own k S N zs hp]
        have ih := pollF_all own k (S.given N.rt) ((N.saw (goodB own zs)).on S.R.length)
        have hf := free_given hp rfl
        obtain ⟨h1, h2, h3, h4, h5⟩ := ih
        simp only
        refine ⟨?_, ?_, ?_, ?_, fun j hj => h5 j hj⟩
        · rw [h1]
          cases goodB own zs <;> simp [NS.saw, NS.took, NS.threw, NS.on] <;> omega
        · rw [h2]
          cases goodB own zs <;> simp [NS.saw, NS.took, NS.threw, NS.on, CS.given] <;> omega
        · rw [h3]
          cases goodB own zs <;> simp [NS.saw, NS.took, NS.threw, NS.on]
        · rw [h4]
          cases goodB own zs <;> simp [NS.saw, NS.took, NS.threw, NS.on]
theorem RNicW.cardTo {w w' : World} {y : Nat} {own : Mac} {D : Nat → Prop} {x g cr h ct n m : Nat} {S S' : CS} {N : NS} (r : RNicW w y own D x g cr h ct n m S N) (t : RefTo w w' D x g cr h ct S') (h1 : S'.R.length = S.R.length) (h2 : S'.T.length = S.T.length) : RNTo w w' y own D x g cr h ct n m S' N := by
  obtain ⟨D', hr, hd, ho⟩ := t
  refine ⟨D', ⟨(ho.block y r.yr (heap_lt r.box)).trans r.box, hr, fun hk => ?_, h1.trans r.ln, h2.trans r.lm, r.rt, r.tt⟩, hd, ho.mono fun k hk => Or.inr hk⟩
  rcases hk with hk | hk | hk | hk
  · exact r.yr (Or.inl hk)
  · exact r.yr (Or.inr (Or.inl hk))
  · exact r.yr (Or.inr (Or.inr (Or.inl hk)))
  · rcases hd y hk with h7 | h7
    · exact r.yr (Or.inr (Or.inr (Or.inr h7)))
    · have := heap_lt r.box; omega
/-- the states that Arrive may lead to. -/
structure CTo (S S' : CS) (j : Nat) : Prop where
  lr : S'.R.length = S.R.length
  lt : S'.T.length = S.T.length
  small : ∀ i, j ≤ i → S.small i → S'.small (i + 1)
  free : free S'.R ≤ free S.R + 1
theorem arr_two (S : CS) (zs : List Int) (l j : Nat) (hl : l = zs.length) (hm : l ≤ 140737488351232) (hs : S.small j) (hn : j < 4611686018427387904) (hr : S.nr < S.R.length) : ∃ (z : Bool) (S' : CS), CTo S S' j ∧
    (∀ (c g h : Nat) (a : Option Addr) (cc : Nat) (w : World), CardW w c g h S → Part.ok w ⟨a, cc, zs⟩ → Calls Try.prog 14 #[.pointer (some ⟨c, 0, none⟩), .slice a l cc] w fun e w' => e = .returned (.bool z) ∧ CardW w' c g h S' ∧ Only (CardK c g h) w w') ∧
    (∀ (D : Nat → Prop) (x g cr h ct : Nat) (a : Option Addr) (cc : Nat) (w : World), RefB w D x g cr h ct S → Part.ok w ⟨a, cc, zs⟩ → Calls Try.prog 26 #[.pointer (some ⟨x, 0, none⟩), .slice a l cc] w fun e w' => e = .returned (.bool z) ∧ RefTo w w' D x g cr h ct S') := by
  by_cases hw : l = 0 ∨ 1514 < l
  · refine ⟨false, S, ⟨rfl, rfl, fun i _ h => h.mono (by omega), by omega⟩, fun c g h a cc w x ok => (arrive_len _ a l cc w hw (by omega)).mono ?_, fun D x g cr h ct a cc w y ok => (refArrive_len _ a l cc w hw (by omega)).mono ?_⟩
    · rintro e w' ⟨rfl, rfl⟩; exact ⟨rfl, x, Only.refl _ _⟩
    · rintro e w' ⟨rfl, rfl⟩; exact ⟨rfl, RefTo.same y⟩
  · obtain ⟨p, hp⟩ : ∃ p, S.R[S.nr]? = some p := ⟨_, List.getElem?_eq_getElem hr⟩
    have h1 := hs.1
    have h2 := hs.2.1
    have h3 := hs.2.2
    cases hb : p.b with
    | false =>
      exact ⟨false, S.drop, ⟨rfl, rfl, fun i _ h => ⟨by have := h.1; simp only [CS.drop]; omega, by have := h.2.1; simp only [CS.drop]; omega, by have := h.2.2; simp only [CS.drop]; omega⟩, by simp only [CS.drop]; omega⟩, fun c g h a cc w x ok => arrive_full c g h S p a l cc w x (by omega) (by omega) hp hb (by omega), fun D x g cr h ct a cc w y ok => refArrive_full D x g cr h ct S p a l cc w y (by omega) (by omega) hp hb (by omega)⟩
    | true =>
      subst hl
      exact ⟨true, S.came zs, ⟨by simp [CS.came], rfl, fun i _ h => ⟨by have := h.1; simp only [CS.came]; omega, by have := h.2.1; simp only [CS.came]; omega, by have := h.2.2; simp only [CS.came]; omega⟩, free_came⟩, fun c g h a cc w x ok => arrive_yes c g h S p ⟨a, cc, zs⟩ w x ok (by simp only; omega) (by simp only; omega) hp hb (by omega), fun D x g cr h ct a cc w y ok => refArrive_yes D x g cr h ct S p ⟨a, cc, zs⟩ w y ok (by simp only; omega) (by simp only; omega) hp hb (by omega)⟩
theorem dep_two (S : CS) (j : Nat) (hs : S.small j) (hn : j < 4611686018427387904) (hr : S.nt < S.T.length) : ∃ (z : Bool) (zs : List Int) (S' : CS), CTo S S' j ∧
    (∀ (c g h : Nat) (w : World), CardW w c g h S → Calls Try.prog 17 #[.pointer (some ⟨c, 0, none⟩)] w fun e w' => ∃ a l cc, e = .returned (.tuple #[.slice a l cc, .bool z]) ∧ CardW w' c g h S' ∧ NewRow (CardK c g h) w w' a l cc zs) ∧
    (∀ (D : Nat → Prop) (x g cr h ct : Nat) (w : World), RefB w D x g cr h ct S → Calls Try.prog 27 #[.pointer (some ⟨x, 0, none⟩)] w fun e w' => ∃ a l c, e = .returned (.tuple #[.slice a l c, .bool z]) ∧ l = zs.length ∧ Part.ok w' ⟨a, c, zs⟩ ∧ RefTo w w' D x g cr h ct S') := by
  obtain ⟨p, hp⟩ : ∃ p, S.T[S.nt]? = some p := ⟨_, List.getElem?_eq_getElem hr⟩
  have h1 := hs.1
  have h2 := hs.2.1
  have h3 := hs.2.2
  cases hb : p.b with
  | false =>
    refine ⟨false, [], S, ⟨rfl, rfl, fun i _ h => h.mono (by omega), by omega⟩, fun c g h w x => (depart_no c g h S p w x hp hb).mono ?_, fun D x g cr h ct w y => (refDepart_no D x g cr h ct S p w y hp hb).mono ?_⟩
    · rintro e w' ⟨rfl, hb'⟩; exact ⟨none, 0, 0, rfl, x.below hb', NewRow.nil (Only.of_below hb')⟩
    · rintro e w' ⟨rfl, hb'⟩; exact ⟨none, 0, 0, rfl, rfl, Part.nil_ok _, RefTo.below y hb'⟩
  | true =>
    refine ⟨true, p.zs, S.gone, ⟨rfl, by simp [CS.gone], fun i _ h => ⟨by have := h.1; simp only [CS.gone]; omega, by have := h.2.1; simp only [CS.gone]; omega, by have := h.2.2; simp only [CS.gone]; omega⟩, by simp only [CS.gone]; omega⟩, fun c g h w x => (depart_yes c g h S p w x hp hb (by omega)).mono ?_, fun D x g cr h ct w y => (refDepart_yes D x g cr h ct S p w y hp hb (by omega)).mono ?_⟩
    · rintro e w' ⟨v, rfl, hx, g', rfl, h4, h5, h6⟩
      have hpo := plOk x.tx hp
      exact ⟨_, _, _, rfl, hx, NewRow.of h4 h5 hpo.1 hpo.2 h6⟩
    · rintro e w' ⟨a, c, rfl, h4, h5⟩; exact ⟨a, _, c, rfl, rfl, h4, h5⟩
theorem NicW.cardTo2 {w w' : World} {q : Nat} {own : Mac} {c g h n m : Nat} {S S' : CS} {N : NS} (x : NicW w q own c g h n m S N) (hc : CardW w' c g h S') (ho : Only (CardK c g h) w w') (h1 : S'.R.length = S.R.length) (h2 : S'.T.length = S.T.length) : NicW w' q own c g h n m S' N :=
  ⟨(ho.block q x.qc (heap_lt x.box)).trans x.box, hc, x.qc, h1.trans x.ln, h2.trans x.lm, x.rt, x.tt⟩
section
variable {wB w : World} {P : NP} {own : Mac} {n m k : Nat} {S S' : CS} {N : NS} {X : List (Nat × Obj)} {z : Bool} {a : Option Addr} {l cc : Nat} {zs : List Int} {j : Nat}
theorem ne_arrive (h : NE wB w P own n m S S N N k X) (ht : CTo S S' j) (hC : ∀ (c g h : Nat) (a : Option Addr) (cc : Nat) (w : World), CardW w c g h S → Part.ok w ⟨a, cc, zs⟩ → Calls Try.prog 14 #[.pointer (some ⟨c, 0, none⟩), .slice a l cc] w fun e w' => e = .returned (.bool z) ∧ CardW w' c g h S' ∧ Only (CardK c g h) w w') (hok : Part.ok w ⟨a, cc, zs⟩) :
    Calls Try.prog 14 #[.pointer (some ⟨P.c, 0, none⟩), .slice a l cc] w fun e w' => e = .returned (.bool z) ∧ Hid (NE wB w' P own n m S' S N N k X) := by
  obtain ⟨h1, h2⟩ := h.nic
  refine (hC P.c P.g P.h a cc w h1.card hok).mono ?_
  rintro e w' ⟨rfl, h3, h4⟩
  exact ⟨rfl, h2 _ _ w' (h1.cardTo2 h3 h4 ht.lr ht.lt) (h4.mono fun k hk => Or.inr hk)⟩
theorem ne_rarrive (h : NE wB w P own n m S' S N N k X) (ht : CTo S S' j) (hR : ∀ (D : Nat → Prop) (x g cr h ct : Nat) (a : Option Addr) (cc : Nat) (w : World), RefB w D x g cr h ct S → Part.ok w ⟨a, cc, zs⟩ → Calls Try.prog 26 #[.pointer (some ⟨x, 0, none⟩), .slice a l cc] w fun e w' => e = .returned (.bool z) ∧ RefTo w w' D x g cr h ct S') (hok : Part.ok w ⟨a, cc, zs⟩) :
    Calls Try.prog 26 #[.pointer (some ⟨P.x, 0, none⟩), .slice a l cc] w fun e w' => e = .returned (.bool z) ∧ Hid (NE wB w' P own n m S' S' N N k X) := by
  obtain ⟨D, h1, h2⟩ := h.ref
  refine (hR D P.x P.rg P.cr P.rh P.ct a cc w h1.ref hok).mono ?_
  rintro e w' ⟨rfl, h3⟩
  exact ⟨rfl, h2 _ _ w' (h1.cardTo h3 ht.lr ht.lt)⟩
theorem ne_depart (h : NE wB w P own n m S S N N k X) (ht : CTo S S' j) (hC : ∀ (c g h : Nat) (w : World), CardW w c g h S → Calls Try.prog 17 #[.pointer (some ⟨c, 0, none⟩)] w fun e w' => ∃ a l cc, e = .returned (.tuple #[.slice a l cc, .bool z]) ∧ CardW w' c g h S' ∧ NewRow (CardK c g h) w w' a l cc zs) :
    Calls Try.prog 17 #[.pointer (some ⟨P.c, 0, none⟩)] w fun e w' => ∃ a l cc, e = .returned (.tuple #[.slice a l cc, .bool z]) ∧ Hid (l = zs.length ∧ (∀ z, z ∈ zs → 0 ≤ z ∧ z ≤ 255) ∧ ∀ W, Holds W (gOf w' (.slice a l cc)) → Row W 5 (.slice a l cc) (u8s zs)) ∧ Hid (NE wB w' P own n m S' S N N k (gOf w' (.slice a l cc) ++ X)) := by
  obtain ⟨D, L, V, ls, hi, hll⟩ := h
  refine (hC P.c P.g P.h w hi.nic.card).mono ?_
  rintro e w' ⟨a, l, cc, rfl, h3, hl, hr, hn, _, hz, h4⟩
  have h' := hi.nicTo (hi.nic.cardTo2 h3 h4 ht.lr ht.lt) (h4.mono fun k hk => Or.inr hk)
  have hoff : ∀ b, (Value.slice a l cc).ownBlock = some b → ¬ P.K D b ∧ ¬ InBook P.gk L V b ∧ ∀ p, p ∈ ls → p.1.ownBlock ≠ some b := fun b hb => by
    have := hn b hb
    exact ⟨fun e => by have := hi.lt _ e; omega, fun e => by have := hi.book.lt _ e; omega, fun p hp e => by have := hi.book.ltl p hp _ e; omega⟩
  refine ⟨a, l, cc, rfl, ⟨hl, hz, fun W hW => hr.guest hW⟩, D, L, V, ls, ⟨h'.box, h'.nic, h'.ref, h'.book, h'.d1, h'.d2, h'.d3, h'.kin, (gOf_holds fun b hb => hr.lt hb).app h'.ho, fun t ht => ?_, h'.bel⟩, hll⟩
  rcases List.mem_append.1 ht with ht | ht
  · exact hoff t.1 (gOf_mem ht).1
  · exact h'.off t ht
theorem ne_rdepart (h : NE wB w P own n m S' S N N k X) (ht : CTo S S' j) (hR : ∀ (D : Nat → Prop) (x g cr h ct : Nat) (w : World), RefB w D x g cr h ct S → Calls Try.prog 27 #[.pointer (some ⟨x, 0, none⟩)] w fun e w' => ∃ a l c, e = .returned (.tuple #[.slice a l c, .bool z]) ∧ l = zs.length ∧ Part.ok w' ⟨a, c, zs⟩ ∧ RefTo w w' D x g cr h ct S') :
    Calls Try.prog 27 #[.pointer (some ⟨P.x, 0, none⟩)] w fun e w' => ∃ a l c, e = .returned (.tuple #[.slice a l c, .bool z]) ∧ Hid (l = zs.length ∧ Part.ok w' ⟨a, c, zs⟩) ∧ Hid (NE wB w' P own n m S' S' N N k X) := by
  obtain ⟨D, h1, h2⟩ := h.ref
  refine (hR D P.x P.rg P.cr P.rh P.ct w h1.ref).mono ?_
  rintro e w' ⟨a, l, c, rfl, h3, h4, h5⟩
  exact ⟨a, l, c, rfl, ⟨h3, h4⟩, h2 _ _ w' (h1.cardTo h5 ht.lr ht.lt)⟩
end
end Go.Proofs.Ytnjhlndikbkeaaa

/-
  A step of a pair: Arrive, Depart, and what only looks.
-/
namespace Go.Proofs.Ytnjhlndikbkeaaa
open Go.RowKit
set_option linter.all false

/-- both stand alike, behind j calls. -/
def NAll (wB w : World) (P : NP) (own : Mac) (n m j : Nat) : Prop := ∃ (S : CS) (N : NS) (k : Nat), NE wB w P own n m S S N N k [] ∧ Cnt S N j ∧ k ≤ N.tk + (N.sn + N.rf)
structure BoxP (w : World) (P : NP) : Prop where
  c0 : w.cell? ⟨P.gp, 0, none⟩ = some (.pointer (some ⟨P.c, 0, none⟩))
  c1 : w.cell? ⟨P.gp, 1, none⟩ = some (.pointer (some ⟨P.q, 0, none⟩))
  c2 : w.cell? ⟨P.gp, 2, none⟩ = some (.pointer (some ⟨P.x, 0, none⟩))
  c3 : w.cell? ⟨P.gp, 3, none⟩ = some (.pointer (some ⟨P.y, 0, none⟩))
  c4 : w.cell? ⟨P.gp, 4, none⟩ = some (.pointer (some ⟨P.gk, 0, none⟩))
  lt : P.gp < w.heap.size
theorem NE.boxP {wB w : World} {P : NP} {own : Mac} {n m : Nat} {SC SR : CS} {NC NR : NS} {k : Nat} {X : List (Nat × Obj)} (h : NE wB w P own n m SC SR NC NR k X) : BoxP w P :=
  ⟨cellHeap h.box 0 rfl, cellHeap h.box 1 rfl, cellHeap h.box 2 rfl, cellHeap h.box 3 rfl, cellHeap h.box 4 rfl, heap_lt h.box⟩
theorem conv_slN {w : World} {a : Option Addr} {l c : Nat} {zs : List Int} (h : Part.ok w ⟨a, c, zs⟩) (hl : l = zs.length) : (convert 43 9 (.slice a l c)).run Try.prog w = .ok (.string (strOfNums zs)) w := by
  subst hl
  exact conv_part ⟨a, c, zs⟩ w h
set_option maxRecDepth 20000 in
set_option maxHeartbeats 4000000 in
theorem nstep_arrive {wB : World} {P : NP} {own : Mac} {n m : Nat} (w : World) (j : Nat) (h : NAll wB w P own n m j) (hj : j < 4398046511104) (ki : Int) (pa : Option Addr) (pl pc : Nat) (pz : List Int) (d0 d1 d2 d3 d4 d5 sk : Int) (sa : Option Addr) (sl sc : Nat) (hp : Part.ok wB ⟨pa, pc, pz⟩) (hl : pl = pz.length) (hm : pl ≤ 140737488351232) :
    Calls Try.prog 11 #[.pointer (some ⟨P.gp, 0, none⟩), (.agg #[.int .i64 1, .int .i64 ki, .slice pa pl pc, .int .u8 d0, .int .u8 d1, .int .u8 d2, .int .u8 d3, .int .u8 d4, .int .u8 d5, .int .i64 sk, .slice sa sl sc])] w fun e w' => e = .returned (.bool true) ∧ NAll wB w' P own n m (j + 1) := by
  obtain ⟨S, N, k, h, hc, hk⟩ := h
  have hnr := h.nic.1.card.r1
  obtain ⟨z, S', hT, hC, hR⟩ := arr_two S pz pl j hl hm hc.small (by omega) hnr
  have HT := hid hT
  have HC := hid hC
  have HRF := hid hR
  have HP := hid hp
  have HN : Hid (Cnt S' N (j + 1)) := ⟨hT.small j (Nat.le_refl _) hc.small, by have := hc.tk; have := hT.free; omega, by have := hc.sn; omega⟩
  have HK := hid hk
  have H0 : Hid (NE wB (w.alloc (.cells #[.int .i64 1, .int .i64 ki, .slice pa pl pc, .int .u8 d0, .int .u8 d1, .int .u8 d2, .int .u8 d3, .int .u8 d4, .int .u8 d5, .int .i64 sk, .slice sa sl sc] 47)) P own n m S S N N k [(w.heap.size, (.cells #[.int .i64 1, .int .i64 ki, .slice pa pl pc, .int .u8 d0, .int .u8 d1, .int .u8 d2, .int .u8 d3, .int .u8 d4, .int .u8 d5, .int .i64 sk, .slice sa sl sc] 47 (0, 0)))]) := h.push _
  have hgl : P.gp < (w.alloc (.cells #[.int .i64 1, .int .i64 ki, .slice pa pl pc, .int .u8 d0, .int .u8 d1, .int .u8 d2, .int .u8 d3, .int .u8 d4, .int .u8 d5, .int .i64 sk, .slice sa sl sc] 47)).heap.size := H0.out.boxP.lt
  have hol : w.heap.size < (w.alloc (.cells #[.int .i64 1, .int .i64 ki, .slice pa pl pc, .int .u8 d0, .int .u8 d1, .int .u8 d2, .int .u8 d3, .int .u8 d4, .int .u8 d5, .int .i64 sk, .slice sa sl sc] 47)).heap.size := by simp
  have HSA : Hid (∀ (W : World) (SC SR : CS), NE wB W P own n m SC SR N N k [(w.heap.size, (.cells #[.int .i64 1, .int .i64 ki, .slice pa pl pc, .int .u8 d0, .int .u8 d1, .int .u8 d2, .int .u8 d3, .int .u8 d4, .int .u8 d5, .int .i64 sk, .slice sa sl sc] 47 (0, 0)))] → W.cell? ⟨P.gp, 0, none⟩ = some (.pointer (some ⟨P.c, 0, none⟩)) ∧ W.cell? ⟨P.gp, 2, none⟩ = some (.pointer (some ⟨P.x, 0, none⟩)) ∧ W.cell? ⟨w.heap.size, 2, none⟩ = some (.slice pa pl pc)) := fun W SC SR q => ⟨q.boxP.c0, q.boxP.c2, cellHeap (q.ho.at 0 _ _ rfl) 2 rfl⟩
  clear h hT hC hR hnr hp hc hk hl
  go_enter Try.func11, Try.ntmps11
  go_wp2_with fail
  generalize w.alloc (.cells #[.int .i64 1, .int .i64 ki, .slice pa pl pc, .int .u8 d0, .int .u8 d1, .int .u8 d2, .int .u8 d3, .int .u8 d4, .int .u8 d5, .int .i64 sk, .slice sa sl sc] 47) = W0 at *
  apply cut1 (H := fun W => Hid (NE wB W P own n m S' S N N k [(w.heap.size, (.cells #[.int .i64 1, .int .i64 ki, .slice pa pl pc, .int .u8 d0, .int .u8 d1, .int .u8 d2, .int .u8 d3, .int .u8 d4, .int .u8 d5, .int .i64 sk, .slice sa sl sc] 47 (0, 0)))]))
  · intro hcut
    go_region_held3 (fun x => x.cell? ⟨P.gp, 0, none⟩ = some (.pointer (some ⟨P.c, 0, none⟩)) ∧ x.cell? ⟨P.gp, 2, none⟩ = some (.pointer (some ⟨P.x, 0, none⟩)) ∧ x.cell? ⟨w.heap.size, 2, none⟩ = some (.slice pa pl pc)) (first | exact HSA.out _ _ _ (H0.out.drewN 1) | exact HS3.out | go_keep | fail) (first
      | (go_at_call 14; refine (ne_arrive (H0.out.drewN 1) HT.out HC.out (Part.ok_below HP.out (H0.out.drewN 1).bel)).mono ?_; rintro e w3 ⟨rfl, H3⟩; have HS3 := hid (HSA.out _ _ _ H3.out))
      | fail)
    all_goals exact hcut _ H3
  intro W1 H1
  have q1 := (HSA.out _ _ _ H1.out).1
  have q2 := (HSA.out _ _ _ H1.out).2.1
  have q3 := (HSA.out _ _ _ H1.out).2.2
  have hg1 : P.gp < W1.heap.size := H1.out.boxP.lt
  have ho1 : w.heap.size < W1.heap.size := heap_lt (H1.out.ho.at 0 _ _ rfl)
  go_wp2_with fail
  apply cut1 (H := fun W => Hid (NE wB W P own n m S' S' N N k [(w.heap.size, (.cells #[.int .i64 1, .int .i64 ki, .slice pa pl pc, .int .u8 d0, .int .u8 d1, .int .u8 d2, .int .u8 d3, .int .u8 d4, .int .u8 d5, .int .i64 sk, .slice sa sl sc] 47 (0, 0)))]))
  · intro hcut
    go_region_held3 (fun x => x.cell? ⟨P.gp, 0, none⟩ = some (.pointer (some ⟨P.c, 0, none⟩)) ∧ x.cell? ⟨P.gp, 2, none⟩ = some (.pointer (some ⟨P.x, 0, none⟩)) ∧ x.cell? ⟨w.heap.size, 2, none⟩ = some (.slice pa pl pc)) (first | exact HSA.out _ _ _ (H1.out.drewN 1) | exact HS3.out | go_keep | fail) (first
      | (go_at_call 26; refine (ne_rarrive (H1.out.drewN 1) HT.out HRF.out (Part.ok_below HP.out (H1.out.drewN 1).bel)).mono ?_; rintro e w3 ⟨rfl, H3⟩; have HS3 := hid (HSA.out _ _ _ H3.out))
      | fail)
    all_goals exact hcut _ H3
  intro W2 H2
  go_wp2
  go_ret
  exact ⟨rfl, S', N, k, H2.out.drop (by simp), HN.out, HK.out⟩
set_option maxRecDepth 20000 in
set_option maxHeartbeats 4000000 in
theorem nstep_depart {wB : World} {P : NP} {own : Mac} {n m : Nat} (w : World) (j : Nat) (h : NAll wB w P own n m j) (hj : j < 4398046511104) (ki : Int) (pa : Option Addr) (pl pc : Nat) (pz : List Int) (d0 d1 d2 d3 d4 d5 sk : Int) (sa : Option Addr) (sl sc : Nat) :
    Calls Try.prog 11 #[.pointer (some ⟨P.gp, 0, none⟩), (.agg #[.int .i64 2, .int .i64 ki, .slice pa pl pc, .int .u8 d0, .int .u8 d1, .int .u8 d2, .int .u8 d3, .int .u8 d4, .int .u8 d5, .int .i64 sk, .slice sa sl sc])] w fun e w' => e = .returned (.bool true) ∧ NAll wB w' P own n m (j + 1) := by
  obtain ⟨S, N, k, h, hc, hk⟩ := h
  have hnt := h.nic.1.card.t1
  obtain ⟨z, zs, S', hT, hC, hR⟩ := dep_two S j hc.small (by omega) hnt
  have HT := hid hT
  have HC := hid hC
  have HRF := hid hR
  have HN : Hid (Cnt S' N (j + 1)) := ⟨hT.small j (Nat.le_refl _) hc.small, by have := hc.tk; have := hT.free; omega, by have := hc.sn; omega⟩
  have HK := hid hk
  have H0 : Hid (NE wB (w.alloc (.cells #[.int .i64 2, .int .i64 ki, .slice pa pl pc, .int .u8 d0, .int .u8 d1, .int .u8 d2, .int .u8 d3, .int .u8 d4, .int .u8 d5, .int .i64 sk, .slice sa sl sc] 47)) P own n m S S N N k [(w.heap.size, (.cells #[.int .i64 2, .int .i64 ki, .slice pa pl pc, .int .u8 d0, .int .u8 d1, .int .u8 d2, .int .u8 d3, .int .u8 d4, .int .u8 d5, .int .i64 sk, .slice sa sl sc] 47 (0, 0)))]) := h.push _
  obtain ⟨b0, b1, b2, b3, b4, blt⟩ := H0.out.boxP
  clear h hT hC hR hnt hc hk b1 b2 b3 b4
  go_enter Try.func11, Try.ntmps11
  go_wp2_with (first
    | (go_at_call 17; refine (ne_depart H0.out HT.out HC.out).mono ?_; go_loud (rintro e w1 ⟨a1, l1, c1, rfl, HR1, H1⟩; obtain ⟨b0, b1, b2, b3, b4, blt⟩ := H1.out.boxP; clear b0 b1 b3 b4))
    | (go_at_call 27; refine (ne_rdepart H1.out HT.out HRF.out).mono ?_; go_loud (rintro e w2 ⟨a2, l2, c2, rfl, HR2, H2⟩; have hcv1 : (convert 43 9 (.slice a1 l1 c1)).run Try.prog w2 = .ok (.string (strOfNums zs)) w2 := (HR1.out.2.2 w2 H2.out.ho.left).conv0 HR1.out.2.1; have hcv2 : (convert 43 9 (.slice a2 l2 c2)).run Try.prog w2 = .ok (.string (strOfNums zs)) w2 := conv_slN HR2.out.2 HR2.out.1; generalize strOfNums zs = SX at hcv1 hcv2))
    | fail)
  go_ret
  exact ⟨rfl, S', N, k, H2.out.drop (by simp), HN.out, HK.out⟩
set_option maxRecDepth 20000 in
set_option maxHeartbeats 4000000 in
theorem nstep_look {wB : World} {P : NP} {own : Mac} {n m : Nat} (w : World) (j : Nat) (h : NAll wB w P own n m j) (kd : Int) (k1 : ¬ kd = 1) (k2 : ¬ kd = 2) (k3 : ¬ kd = 3) (k4 : ¬ kd = 4) (ki : Int) (pa : Option Addr) (pl pc : Nat) (pz : List Int) (d0 d1 d2 d3 d4 d5 sk : Int) (sa : Option Addr) (sl sc : Nat) :
    Calls Try.prog 11 #[.pointer (some ⟨P.gp, 0, none⟩), (.agg #[.int .i64 kd, .int .i64 ki, .slice pa pl pc, .int .u8 d0, .int .u8 d1, .int .u8 d2, .int .u8 d3, .int .u8 d4, .int .u8 d5, .int .i64 sk, .slice sa sl sc])] w fun e w' => e = .returned (.bool true) ∧ NAll wB w' P own n m (j + 1) := by
  obtain ⟨S, N, k, h, hc, hk⟩ := h
  have H0 := hid (h.below (balloc w (.cells #[.int .i64 kd, .int .i64 ki, .slice pa pl pc, .int .u8 d0, .int .u8 d1, .int .u8 d2, .int .u8 d3, .int .u8 d4, .int .u8 d5, .int .i64 sk, .slice sa sl sc] 47)))
  have HC := hid (hc.mono (Nat.le_succ j))
  have HK := hid hk
  clear h hc hk
  go_enter Try.func11, Try.ntmps11
  go_wp2
  go_ret
  exact ⟨rfl, S, N, k, H0.out, HC.out, HK.out⟩
end Go.Proofs.Ytnjhlndikbkeaaa

/-
  Send, on both.
-/
namespace Go.Proofs.Ytnjhlndikbkeaaa
open Go.RowKit
set_option linter.all false

def LentO (zs : List Int) : Obj := .cells (L2 zs) 5 (0, 0)
section
variable {wB w : World} {P : NP} {own : Mac} {n m k : Nat} {S S' SC SR : CS} {N N' NC NR : NS} {X : List (Nat × Obj)} {a : Option Addr} {l c : Nat} {zs : List Int}
theorem ne_lent (h : NE wB w P own n m SC SR NC NR k X) (hp : Part.ok wB ⟨a, c, zs⟩) (hl : l = zs.length) (hm : l ≤ 140737488351232) :
    Calls Try.prog 55 #[.slice a l c] w fun e w' => ∃ g, e = .returned (.slice (some ⟨g, 0, none⟩) l (l + 2)) ∧ Hid (NE wB w' P own n m SC SR NC NR k ((g, LentO zs) :: X)) ∧ Hid (wB.heap.size ≤ g ∧ ∀ t, t ∈ X → t.1 < g) := by
  subst hl
  refine (lent_any ⟨a, c, zs⟩ w (Part.ok_below hp h.bel) hm).mono ?_
  rintro e w' ⟨rfl, rfl⟩
  exact ⟨w.heap.size, rfl, h.push _, h.bel.size, fun t ht => h.ho.lt ht⟩
theorem ne_asLent {g : Nat} (h : NE wB w P own n m SC SR NC NR k ((g, LentO zs) :: X)) (hp : Part.ok wB ⟨a, c, zs⟩) (hl : l = zs.length) (hm : l ≤ 140737488351232) (hg : wB.heap.size ≤ g) (hX : ∀ t, t ∈ X → t.1 ≠ g) :
    Calls Try.prog 56 #[.slice (some ⟨g, 0, none⟩) l (l + 2), .slice a l c] w fun e w' => e = .returned (.bool true) ∧ Hid (NE wB w' P own n m SC SR NC NR k X) := by
  subst hl
  refine (asLent_any g ⟨a, c, zs⟩ w (Part.ok_below hp h.bel) hm (h.ho.at 0 _ _ rfl)).mono ?_
  rintro e w' ⟨rfl, hb⟩
  exact ⟨rfl, h.but hb hX hg⟩
theorem ne_send (h : NE wB w P own n m S SR N NR k X) (ho : own.ok) (d : Mac) (hd : d.ok) (sk : Int) (hok : Part.ok w ⟨a, c, zs⟩) (hl : l = zs.length) (hm : l ≤ 140737488351232) (h1 : N.sn < 4611686018427387904) (h2 : N.rf < 4611686018427387904) :
    Calls Try.prog 20 #[.pointer (some ⟨P.q, 0, none⟩), sendV d sk (.slice a l c)] w fun e w' => ∃ a' l' c', e = .returned (.tuple #[.slice a' l' c', .int .i64 (sendE sk zs S N)]) ∧ Hid (Row w' 5 (.slice a' l' c') (u8s (sendL own d sk zs S N))) ∧ Hid (NE wB w' P own n m (sendS own d sk zs S N) SR (sendN sk zs S N) NR k (gOf w' (.slice a' l' c') ++ X)) ∧ Hid (∀ b, (Value.slice a' l' c').ownBlock = some b → w.heap.size ≤ b) := by
  subst hl
  obtain ⟨h3, h4⟩ := h.nicG
  refine (send_any P.q own P.c P.g P.h n m S N d sk ⟨a, c, zs⟩ w h3 ho hd hok hm h1 h2).mono ?_
  rintro e w' ⟨a', l', c', rfl, t⟩
  exact ⟨a', l', c', rfl, t.row, h4 _ _ w' _ t.nic t.only (gOf_holds fun b hb => t.row.lt hb) (fun t' ht => t.new _ (gOf_mem ht).1), t.new⟩
theorem ne_rsend (h : NE wB w P own n m SC S NC N k X) (ho : own.ok) (d : Mac) (hd : d.ok) (sk : Int) (hok : Part.ok w ⟨a, c, zs⟩) (hl : l = zs.length) (hm : l ≤ 140737488351232) (h1 : N.sn < 4611686018427387904) (h2 : N.rf < 4611686018427387904) :
    Calls Try.prog 57 #[.pointer (some ⟨P.y, 0, none⟩), sendV d sk (.slice a l c)] w fun e w' => ∃ a' l' c', e = .returned (.tuple #[.slice a' l' c', .int .i64 (sendE sk zs S N)]) ∧ Hid (Row w' 5 (.slice a' l' c') (u8s (sendL own d sk zs S N))) ∧ Hid (NE wB w' P own n m SC (sendS own d sk zs S N) NC (sendN sk zs S N) k (gOf w' (.slice a' l' c') ++ X)) ∧ Hid (∀ b, (Value.slice a' l' c').ownBlock = some b → w.heap.size ≤ b) := by
  subst hl
  obtain ⟨D, h3, h4⟩ := h.refG
  refine (rsend_any P.y own D P.x P.rg P.cr P.rh P.ct n m S N d sk ⟨a, c, zs⟩ w h3 ho hd hok hm h1 h2).mono ?_
  rintro e w' ⟨a', l', c', rfl, t⟩
  exact ⟨a', l', c', rfl, t.row, h4 _ _ w' _ t.nic (fun b hb => ⟨t.new b hb, t.row.lt hb⟩), t.new⟩
end
theorem sendL_bd (own d : Mac) (sk : Int) (zs : List Int) (S : CS) (N : NS) (ho : own.ok) (hd : d.ok) (hz : ∀ z, z ∈ zs → 0 ≤ z ∧ z ≤ 255) : (∀ z, z ∈ sendL own d sk zs S N → 0 ≤ z ∧ z ≤ 255) ∧ (sendL own d sk zs S N).length ≤ 1514 := by
  unfold sendL
  split
  · exact sealB_bd d own sk zs hd ho hz
  · simp
theorem send_cnt {own d : Mac} {sk : Int} {zs : List Int} {S : CS} {N : NS} {j : Nat} (h : Cnt S N j) : Cnt (sendS own d sk zs S N) (sendN sk zs S N) (j + 1) ∧ (sendN sk zs S N).tk = N.tk ∧ (sendN sk zs S N).sn + (sendN sk zs S N).rf = N.sn + N.rf + 1 := by
  have h1 := h.tk
  have h2 := h.sn
  have h3 := h.small
  unfold sendS sendN
  by_cases he : sendE sk zs S N = 0
  · rw [if_pos he, if_pos he]
    refine ⟨⟨h3.mono (Nat.le_succ j), ?_, ?_⟩, rfl, ?_⟩
    · simp only [NS.sent, NS.ton, CS.laid]; omega
    · simp only [NS.sent, NS.ton]; omega
    · simp only [NS.sent, NS.ton]; omega
  · rw [if_neg he, if_neg he]
    refine ⟨⟨h3.mono (Nat.le_succ j), ?_, ?_⟩, rfl, ?_⟩
    · simp only [NS.refd]; omega
    · simp only [NS.refd]; omega
    · simp only [NS.refd]; omega
set_option maxRecDepth 20000 in
set_option maxHeartbeats 8000000 in
theorem sends_any {wB : World} {P : NP} {own : Mac} {n m : Nat} (w : World) (j : Nat) (h : NAll wB w P own n m j) (hj : j < 2199023255552) (ho : own.ok) (d0 d1 d2 d3 d4 d5 sk : Int) (hd : (⟨d0, d1, d2, d3, d4, d5⟩ : Mac).ok) (sa : Option Addr) (sl sc : Nat) (zs : List Int) (hp : Part.ok wB ⟨sa, sc, zs⟩) (hl : sl = zs.length) (hm : sl ≤ 140737488351232) :
    Calls Try.prog 31 #[.pointer (some ⟨P.gp, 0, none⟩), .agg #[.int .u8 d0, .int .u8 d1, .int .u8 d2, .int .u8 d3, .int .u8 d4, .int .u8 d5, .int .i64 sk, .slice sa sl sc]] w fun e w' => e = .returned (.bool true) ∧ NAll wB w' P own n m (j + 1) := by
  obtain ⟨S, N, k, h, hc, hk⟩ := h
  have htk := hc.tk
  have hsn := hc.sn
  obtain ⟨hc2, hc3, hc4⟩ := send_cnt (own := own) (d := ⟨d0, d1, d2, d3, d4, d5⟩) (sk := sk) (zs := zs) hc
  have HN : Hid (Cnt (sendS own ⟨d0, d1, d2, d3, d4, d5⟩ sk zs S N) (sendN sk zs S N) (j + 1) ∧ k + 1 ≤ (sendN sk zs S N).tk + ((sendN sk zs S N).sn + (sendN sk zs S N).rf)) := ⟨hc2, by omega⟩
  have HP := hid hp
  have HL := hid hl
  have HO := hid ho
  have HD := hid hd
  have HLB := hid (sendL_bd own ⟨d0, d1, d2, d3, d4, d5⟩ sk zs S N ho hd hp.1)
  have HSN : Hid (N.sn < 4611686018427387904 ∧ N.rf < 4611686018427387904) := by unfold Hid; omega
  have HKK : Hid (k < 4398046511104) := by unfold Hid; omega
  have HMS : Hid (∀ (W : World) (X : List (Nat × Obj)) (a : Option Addr) (c : Nat), NE wB W P own n m S S N N k X → Part.ok W ⟨a, c, zs⟩ → Calls Try.prog 20 #[.pointer (some ⟨P.q, 0, none⟩), .agg #[.int .u8 d0, .int .u8 d1, .int .u8 d2, .int .u8 d3, .int .u8 d4, .int .u8 d5, .int .i64 sk, .slice a sl c]] W fun e w' => ∃ a' l' c', e = .returned (.tuple #[.slice a' l' c', .int .i64 (sendE sk zs S N)]) ∧ Hid (Row w' 5 (.slice a' l' c') (u8s (sendL own ⟨d0, d1, d2, d3, d4, d5⟩ sk zs S N))) ∧ Hid (NE wB w' P own n m (sendS own ⟨d0, d1, d2, d3, d4, d5⟩ sk zs S N) S (sendN sk zs S N) N k (gOf w' (.slice a' l' c') ++ X)) ∧ Hid (∀ b, (Value.slice a' l' c').ownBlock = some b → W.heap.size ≤ b)) := fun W X a c q ok => ne_send q HO.out ⟨d0, d1, d2, d3, d4, d5⟩ HD.out sk ok HL.out hm HSN.out.1 HSN.out.2
  have HRS : Hid (∀ (W : World) (X : List (Nat × Obj)) (SC : CS) (NC : NS), NE wB W P own n m SC S NC N k X → Calls Try.prog 57 #[.pointer (some ⟨P.y, 0, none⟩), .agg #[.int .u8 d0, .int .u8 d1, .int .u8 d2, .int .u8 d3, .int .u8 d4, .int .u8 d5, .int .i64 sk, .slice sa sl sc]] W fun e w' => ∃ a' l' c', e = .returned (.tuple #[.slice a' l' c', .int .i64 (sendE sk zs S N)]) ∧ Hid (Row w' 5 (.slice a' l' c') (u8s (sendL own ⟨d0, d1, d2, d3, d4, d5⟩ sk zs S N))) ∧ Hid (NE wB w' P own n m SC (sendS own ⟨d0, d1, d2, d3, d4, d5⟩ sk zs S N) NC (sendN sk zs S N) k (gOf w' (.slice a' l' c') ++ X)) ∧ Hid (∀ b, (Value.slice a' l' c').ownBlock = some b → W.heap.size ≤ b)) := fun W X SC NC q => ne_rsend q HO.out ⟨d0, d1, d2, d3, d4, d5⟩ HD.out sk (Part.ok_below HP.out q.bel) HL.out hm HSN.out.1 HSN.out.2
  have H0 : Hid (NE wB (w.alloc (.cells #[.int .u8 d0, .int .u8 d1, .int .u8 d2, .int .u8 d3, .int .u8 d4, .int .u8 d5, .int .i64 sk, .slice sa sl sc] 45)) P own n m S S N N k [(w.heap.size, (.cells #[.int .u8 d0, .int .u8 d1, .int .u8 d2, .int .u8 d3, .int .u8 d4, .int .u8 d5, .int .i64 sk, .slice sa sl sc] 45 (0, 0)))]) := h.push _
  have HG0 : Hid (wB.heap.size ≤ w.heap.size) := h.bel.size
  generalize sendS own ⟨d0, d1, d2, d3, d4, d5⟩ sk zs S N = SS at *
  generalize sendN sk zs S N = NN at *
  generalize sendL own ⟨d0, d1, d2, d3, d4, d5⟩ sk zs S N = LL at *
  generalize sendE sk zs S N = EE at *
  have hgl : P.gp < (w.alloc (.cells #[.int .u8 d0, .int .u8 d1, .int .u8 d2, .int .u8 d3, .int .u8 d4, .int .u8 d5, .int .i64 sk, .slice sa sl sc] 45)).heap.size := H0.out.boxP.lt
  clear h hc hk htk hsn hc2 hc3 hc4 hp hl ho hd
  go_enter Try.func31, Try.ntmps31
  go_wp2_with (first
    | (go_at_call 55; refine (ne_lent H0.out HP.out HL.out hm).mono ?_; go_loud (rintro e w1 ⟨g1, rfl, H1, G1⟩; have HB1 := hid (H1.out.ho.at 1 _ _ rfl); have z7 : w1.cell? ⟨w.heap.size, 7, none⟩ = some (.slice sa sl sc) := cellHeap HB1.out 7 rfl; have zf : ∀ o, w1.frozen? ⟨w.heap.size, o, none⟩ = false := (fun o => frozen_of_heap HB1.out o); clear H0))
    | fail)
  have hne : w.heap.size < g1 := G1.out.2 (w.heap.size, (.cells #[.int .u8 d0, .int .u8 d1, .int .u8 d2, .int .u8 d3, .int .u8 d4, .int .u8 d5, .int .i64 sk, .slice sa sl sc] 45 (0, 0))) (by simp)
  have H2 : Hid (NE wB (w1.setCell ⟨w.heap.size, 7, none⟩ (.slice (some ⟨g1, 0, none⟩) sl (sl + 2))) P own n m S S N N k [(w.heap.size, (.cells #[.int .u8 d0, .int .u8 d1, .int .u8 d2, .int .u8 d3, .int .u8 d4, .int .u8 d5, .int .i64 sk, .slice (some ⟨g1, 0, none⟩) sl (sl + 2)] 45 (0, 0))), (g1, LentO zs)]) := NE.set (o := (.cells #[.int .u8 d0, .int .u8 d1, .int .u8 d2, .int .u8 d3, .int .u8 d4, .int .u8 d5, .int .i64 sk, .slice sa sl sc] 45 (0, 0))) (H1.out.drop (fun t ht => by simp at ht ⊢; rcases ht with ht | ht <;> simp [ht])) (But.setCell _ _ _ _) (heap_setCell HB1.out) (fun t ht => by simp at ht; subst ht; simp only; omega) HG0.out
  clear z7 zf HB1 H1
  generalize w1.setCell ⟨w.heap.size, 7, none⟩ (.slice (some ⟨g1, 0, none⟩) sl (sl + 2)) = W2 at *
  have HSA : Hid (∀ (W : World), NE wB W P own n m S S N N k [(w.heap.size, (.cells #[.int .u8 d0, .int .u8 d1, .int .u8 d2, .int .u8 d3, .int .u8 d4, .int .u8 d5, .int .i64 sk, .slice (some ⟨g1, 0, none⟩) sl (sl + 2)] 45 (0, 0))), (g1, LentO zs)] → W.cell? ⟨P.gp, 1, none⟩ = some (.pointer (some ⟨P.q, 0, none⟩)) ∧ W.cell? ⟨w.heap.size, 0, none⟩ = some (.int .u8 d0) ∧ W.cell? ⟨w.heap.size, 1, none⟩ = some (.int .u8 d1) ∧ W.cell? ⟨w.heap.size, 2, none⟩ = some (.int .u8 d2) ∧ W.cell? ⟨w.heap.size, 3, none⟩ = some (.int .u8 d3) ∧ W.cell? ⟨w.heap.size, 4, none⟩ = some (.int .u8 d4) ∧ W.cell? ⟨w.heap.size, 5, none⟩ = some (.int .u8 d5) ∧ W.cell? ⟨w.heap.size, 6, none⟩ = some (.int .i64 sk) ∧ W.cell? ⟨w.heap.size, 7, none⟩ = some (.slice (some ⟨g1, 0, none⟩) sl (sl + 2))) := fun W q => ⟨q.boxP.c1, cellHeap (q.ho.at 0 _ _ rfl) 0 rfl, cellHeap (q.ho.at 0 _ _ rfl) 1 rfl, cellHeap (q.ho.at 0 _ _ rfl) 2 rfl, cellHeap (q.ho.at 0 _ _ rfl) 3 rfl, cellHeap (q.ho.at 0 _ _ rfl) 4 rfl, cellHeap (q.ho.at 0 _ _ rfl) 5 rfl, cellHeap (q.ho.at 0 _ _ rfl) 6 rfl, cellHeap (q.ho.at 0 _ _ rfl) 7 rfl⟩
  have hg2 : P.gp < W2.heap.size := H2.out.boxP.lt
  have hs2 : w.heap.size < W2.heap.size := heap_lt (H2.out.ho.at 0 _ _ rfl)
  apply cut4 (H := fun W a l c => Hid (Row W 5 (.slice a l c) (u8s LL) ∧ NE wB W P own n m SS S NN N k (gOf W (.slice a l c) ++ [(w.heap.size, (.cells #[.int .u8 d0, .int .u8 d1, .int .u8 d2, .int .u8 d3, .int .u8 d4, .int .u8 d5, .int .i64 sk, .slice (some ⟨g1, 0, none⟩) sl (sl + 2)] 45 (0, 0))), (g1, LentO zs)]) ∧ ∀ b, (Value.slice a l c).ownBlock = some b → W2.heap.size ≤ b))
  · intro hcut
    go_region_held3 (fun x => x.cell? ⟨P.gp, 1, none⟩ = some (.pointer (some ⟨P.q, 0, none⟩)) ∧ x.cell? ⟨w.heap.size, 0, none⟩ = some (.int .u8 d0) ∧ x.cell? ⟨w.heap.size, 1, none⟩ = some (.int .u8 d1) ∧ x.cell? ⟨w.heap.size, 2, none⟩ = some (.int .u8 d2) ∧ x.cell? ⟨w.heap.size, 3, none⟩ = some (.int .u8 d3) ∧ x.cell? ⟨w.heap.size, 4, none⟩ = some (.int .u8 d4) ∧ x.cell? ⟨w.heap.size, 5, none⟩ = some (.int .u8 d5) ∧ x.cell? ⟨w.heap.size, 6, none⟩ = some (.int .i64 sk) ∧ x.cell? ⟨w.heap.size, 7, none⟩ = some (.slice (some ⟨g1, 0, none⟩) sl (sl + 2))) (first | exact HSA.out _ (H2.out.drewN 1) | exact HS3.out | go_keep | fail) (first
      | (go_at_call 20; refine (HMS.out _ _ _ _ (H2.out.drewN 1) (Part.of_heap ((H2.out.drewN 1).ho.at 1 g1 _ rfl) 0 (by rw [← HL.out]; omega) (fun i hi => by rw [Nat.zero_add]; exact L2_lo _ _ hi) HP.out.1)).mono ?_; rintro e w3 ⟨a3, l3, c3, rfl, R3, H3, N3⟩; have HS3 : Hid (w3.cell? ⟨P.gp, 1, none⟩ = some (.pointer (some ⟨P.q, 0, none⟩)) ∧ w3.cell? ⟨w.heap.size, 0, none⟩ = some (.int .u8 d0) ∧ w3.cell? ⟨w.heap.size, 1, none⟩ = some (.int .u8 d1) ∧ w3.cell? ⟨w.heap.size, 2, none⟩ = some (.int .u8 d2) ∧ w3.cell? ⟨w.heap.size, 3, none⟩ = some (.int .u8 d3) ∧ w3.cell? ⟨w.heap.size, 4, none⟩ = some (.int .u8 d4) ∧ w3.cell? ⟨w.heap.size, 5, none⟩ = some (.int .u8 d5) ∧ w3.cell? ⟨w.heap.size, 6, none⟩ = some (.int .i64 sk) ∧ w3.cell? ⟨w.heap.size, 7, none⟩ = some (.slice (some ⟨g1, 0, none⟩) sl (sl + 2))) := (by have q := H3.out.drop (Y := [(w.heap.size, (.cells #[.int .u8 d0, .int .u8 d1, .int .u8 d2, .int .u8 d3, .int .u8 d4, .int .u8 d5, .int .i64 sk, .slice (some ⟨g1, 0, none⟩) sl (sl + 2)] 45 (0, 0)))]) (by simp); exact ⟨q.boxP.c1, cellHeap (q.ho.at 0 _ _ rfl) 0 rfl, cellHeap (q.ho.at 0 _ _ rfl) 1 rfl, cellHeap (q.ho.at 0 _ _ rfl) 2 rfl, cellHeap (q.ho.at 0 _ _ rfl) 3 rfl, cellHeap (q.ho.at 0 _ _ rfl) 4 rfl, cellHeap (q.ho.at 0 _ _ rfl) 5 rfl, cellHeap (q.ho.at 0 _ _ rfl) 6 rfl, cellHeap (q.ho.at 0 _ _ rfl) 7 rfl⟩); have hcu := hcut w3 a3 l3 c3 ⟨R3.out, H3.out, N3.out⟩; clear R3 H3 N3)
      | fail)
    all_goals exact hcu
  intro W3 a3 l3 c3 HW3
  have R3 := hid HW3.out.1
  have N3 := hid HW3.out.2.2
  have H3 : Hid (NE wB W3 P own n m SS S NN N k ((g1, LentO zs) :: (gOf W3 (.slice a3 l3 c3) ++ [(w.heap.size, (.cells #[.int .u8 d0, .int .u8 d1, .int .u8 d2, .int .u8 d3, .int .u8 d4, .int .u8 d5, .int .i64 sk, .slice (some ⟨g1, 0, none⟩) sl (sl + 2)] 45 (0, 0)))]))) := HW3.out.2.1.drop (fun t ht => by simp at ht ⊢; rcases ht with ht | ht | ht <;> simp [ht])
  have HB3 := hid (HW3.out.2.1.drop (Y := [(w.heap.size, (.cells #[.int .u8 d0, .int .u8 d1, .int .u8 d2, .int .u8 d3, .int .u8 d4, .int .u8 d5, .int .i64 sk, .slice (some ⟨g1, 0, none⟩) sl (sl + 2)] 45 (0, 0)))]) (by simp))
  have z7 : W3.cell? ⟨w.heap.size, 7, none⟩ = some (.slice (some ⟨g1, 0, none⟩) sl (sl + 2)) := cellHeap (HB3.out.ho.at 0 _ _ rfl) 7 rfl
  have hg1l : g1 < W2.heap.size := heap_lt (H2.out.ho.at 1 _ _ rfl)
  have HG1 := hid G1.out.1
  have HX3 : Hid (∀ t, t ∈ gOf W3 (.slice a3 l3 c3) ++ [(w.heap.size, (.cells #[.int .u8 d0, .int .u8 d1, .int .u8 d2, .int .u8 d3, .int .u8 d4, .int .u8 d5, .int .i64 sk, .slice (some ⟨g1, 0, none⟩) sl (sl + 2)] 45 (0, 0)))] → t.1 ≠ g1) := fun t ht => by
    rcases List.mem_append.1 ht with ht | ht
    · have := N3.out _ (gOf_mem ht).1; omega
    · simp at ht; subst ht; simp only; omega
  clear HW3 HB3 HSA H2 G1 HMS
  go_wp2_with (first
    | (go_at_call 56; refine (ne_asLent H3.out HP.out HL.out hm HG1.out HX3.out).mono ?_; go_loud (rintro e w4 ⟨rfl, H4⟩; have HB4 : Hid (w4.heap[w.heap.size]? = some (.cells #[.int .u8 d0, .int .u8 d1, .int .u8 d2, .int .u8 d3, .int .u8 d4, .int .u8 d5, .int .i64 sk, .slice (some ⟨g1, 0, none⟩) sl (sl + 2)] 45 (0, 0))) := H4.out.ho (w.heap.size, (.cells #[.int .u8 d0, .int .u8 d1, .int .u8 d2, .int .u8 d3, .int .u8 d4, .int .u8 d5, .int .i64 sk, .slice (some ⟨g1, 0, none⟩) sl (sl + 2)] 45 (0, 0))) (by simp); have z7 : w4.cell? ⟨w.heap.size, 7, none⟩ = some (.slice (some ⟨g1, 0, none⟩) sl (sl + 2)) := cellHeap HB4.out 7 rfl; have zf : ∀ o, w4.frozen? ⟨w.heap.size, o, none⟩ = false := (fun o => frozen_of_heap HB4.out o); clear H3))
    | fail)
  have H5 : Hid (NE wB (w4.setCell ⟨w.heap.size, 7, none⟩ (.slice sa sl sc)) P own n m SS S NN N k ((w.heap.size, (.cells #[.int .u8 d0, .int .u8 d1, .int .u8 d2, .int .u8 d3, .int .u8 d4, .int .u8 d5, .int .i64 sk, .slice sa sl sc] 45 (0, 0))) :: gOf W3 (.slice a3 l3 c3))) := NE.set (o := (.cells #[.int .u8 d0, .int .u8 d1, .int .u8 d2, .int .u8 d3, .int .u8 d4, .int .u8 d5, .int .i64 sk, .slice (some ⟨g1, 0, none⟩) sl (sl + 2)] 45 (0, 0))) (H4.out.drop (fun t ht => by simp at ht ⊢; rcases ht with ht | ht <;> simp [ht])) (But.setCell _ _ _ _) (heap_setCell HB4.out) (fun t ht => by have := N3.out _ (gOf_mem ht).1; omega) HG0.out
  clear z7 zf HB4 H4
  generalize w4.setCell ⟨w.heap.size, 7, none⟩ (.slice sa sl sc) = W5 at *
  have HSA : Hid (∀ (W : World), NE wB W P own n m SS S NN N k ((w.heap.size, (.cells #[.int .u8 d0, .int .u8 d1, .int .u8 d2, .int .u8 d3, .int .u8 d4, .int .u8 d5, .int .i64 sk, .slice sa sl sc] 45 (0, 0))) :: gOf W3 (.slice a3 l3 c3)) → W.cell? ⟨P.gp, 3, none⟩ = some (.pointer (some ⟨P.y, 0, none⟩)) ∧ W.cell? ⟨w.heap.size, 0, none⟩ = some (.int .u8 d0) ∧ W.cell? ⟨w.heap.size, 1, none⟩ = some (.int .u8 d1) ∧ W.cell? ⟨w.heap.size, 2, none⟩ = some (.int .u8 d2) ∧ W.cell? ⟨w.heap.size, 3, none⟩ = some (.int .u8 d3) ∧ W.cell? ⟨w.heap.size, 4, none⟩ = some (.int .u8 d4) ∧ W.cell? ⟨w.heap.size, 5, none⟩ = some (.int .u8 d5) ∧ W.cell? ⟨w.heap.size, 6, none⟩ = some (.int .i64 sk) ∧ W.cell? ⟨w.heap.size, 7, none⟩ = some (.slice sa sl sc)) := fun W q => ⟨q.boxP.c3, cellHeap (q.ho.at 0 _ _ rfl) 0 rfl, cellHeap (q.ho.at 0 _ _ rfl) 1 rfl, cellHeap (q.ho.at 0 _ _ rfl) 2 rfl, cellHeap (q.ho.at 0 _ _ rfl) 3 rfl, cellHeap (q.ho.at 0 _ _ rfl) 4 rfl, cellHeap (q.ho.at 0 _ _ rfl) 5 rfl, cellHeap (q.ho.at 0 _ _ rfl) 6 rfl, cellHeap (q.ho.at 0 _ _ rfl) 7 rfl⟩
  have hg5 : P.gp < W5.heap.size := H5.out.boxP.lt
  have hs5 : w.heap.size < W5.heap.size := heap_lt (H5.out.ho.at 0 _ _ rfl)
  have HF5 : Hid (∀ b, (Value.slice a3 l3 c3).ownBlock = some b → b < W5.heap.size) := fun b hb => H5.out.ho.lt (p := (b, (W3.heap[b]?).getD (.cells #[] 0 (0, 0)))) (by unfold gOf; rw [hb]; simp)
  apply cut4 (H := fun W a l c => Hid (Row W 5 (.slice a l c) (u8s LL) ∧ NE wB W P own n m SS SS NN NN k (gOf W (.slice a l c) ++ ((w.heap.size, (.cells #[.int .u8 d0, .int .u8 d1, .int .u8 d2, .int .u8 d3, .int .u8 d4, .int .u8 d5, .int .i64 sk, .slice sa sl sc] 45 (0, 0))) :: gOf W3 (.slice a3 l3 c3))) ∧ ∀ b, (Value.slice a l c).ownBlock = some b → W5.heap.size ≤ b))
  · intro hcut
    go_region_held3 (fun x => x.cell? ⟨P.gp, 3, none⟩ = some (.pointer (some ⟨P.y, 0, none⟩)) ∧ x.cell? ⟨w.heap.size, 0, none⟩ = some (.int .u8 d0) ∧ x.cell? ⟨w.heap.size, 1, none⟩ = some (.int .u8 d1) ∧ x.cell? ⟨w.heap.size, 2, none⟩ = some (.int .u8 d2) ∧ x.cell? ⟨w.heap.size, 3, none⟩ = some (.int .u8 d3) ∧ x.cell? ⟨w.heap.size, 4, none⟩ = some (.int .u8 d4) ∧ x.cell? ⟨w.heap.size, 5, none⟩ = some (.int .u8 d5) ∧ x.cell? ⟨w.heap.size, 6, none⟩ = some (.int .i64 sk) ∧ x.cell? ⟨w.heap.size, 7, none⟩ = some (.slice sa sl sc)) (first | exact HSA.out _ (H5.out.drewN 1) | exact HS3.out | go_keep | fail) (first
      | (go_at_call 57; refine (HRS.out _ _ _ _ (H5.out.drewN 1)).mono ?_; rintro e w6 ⟨a6, l6, c6, rfl, R6, H6, N6⟩; have HS3 : Hid (w6.cell? ⟨P.gp, 3, none⟩ = some (.pointer (some ⟨P.y, 0, none⟩)) ∧ w6.cell? ⟨w.heap.size, 0, none⟩ = some (.int .u8 d0) ∧ w6.cell? ⟨w.heap.size, 1, none⟩ = some (.int .u8 d1) ∧ w6.cell? ⟨w.heap.size, 2, none⟩ = some (.int .u8 d2) ∧ w6.cell? ⟨w.heap.size, 3, none⟩ = some (.int .u8 d3) ∧ w6.cell? ⟨w.heap.size, 4, none⟩ = some (.int .u8 d4) ∧ w6.cell? ⟨w.heap.size, 5, none⟩ = some (.int .u8 d5) ∧ w6.cell? ⟨w.heap.size, 6, none⟩ = some (.int .i64 sk) ∧ w6.cell? ⟨w.heap.size, 7, none⟩ = some (.slice sa sl sc)) := (by have q := H6.out.drop (Y := [(w.heap.size, (.cells #[.int .u8 d0, .int .u8 d1, .int .u8 d2, .int .u8 d3, .int .u8 d4, .int .u8 d5, .int .i64 sk, .slice sa sl sc] 45 (0, 0)))]) (by simp); exact ⟨q.boxP.c3, cellHeap (q.ho.at 0 _ _ rfl) 0 rfl, cellHeap (q.ho.at 0 _ _ rfl) 1 rfl, cellHeap (q.ho.at 0 _ _ rfl) 2 rfl, cellHeap (q.ho.at 0 _ _ rfl) 3 rfl, cellHeap (q.ho.at 0 _ _ rfl) 4 rfl, cellHeap (q.ho.at 0 _ _ rfl) 5 rfl, cellHeap (q.ho.at 0 _ _ rfl) 6 rfl, cellHeap (q.ho.at 0 _ _ rfl) 7 rfl⟩); have hcu := hcut w6 a6 l6 c6 ⟨R6.out, H6.out, N6.out⟩; clear R6 H6 N6)
      | fail)
    all_goals exact hcu
  intro W6 a6 l6 c6 HW6
  have R6 := hid HW6.out.1
  have N6 := hid HW6.out.2.2
  have H6 : Hid (NE wB W6 P own n m SS SS NN NN k (gOf W3 (.slice a3 l3 c3) ++ gOf W6 (.slice a6 l6 c6))) := HW6.out.2.1.drop (fun t ht => by simp at ht ⊢; rcases ht with ht | ht <;> simp [ht])
  clear HW6 HSA H5 HRS
  have b4 := H6.out.boxP.c4
  have blt := H6.out.boxP.lt
  go_wp2_with (first
    | (go_at_call 30; refine (ne_take H6.out (R3.out.guest H6.out.ho.left) HLB.out.1 (by have := HLB.out.2; omega) HKK.out (fun b hb => by have := N3.out b hb; have := HG0.out; omega) (fun t ht e => by have h1 := N6.out _ (gOf_mem ht).1; have h2 := HF5.out _ e; omega)).mono ?_; go_loud (rintro e w7 ⟨rfl, H7, R7⟩; have hcv1 : (convert 43 9 (.slice a3 l3 c3)).run Try.prog w7 = .ok (.string (strOfNums LL)) w7 := R7.out.conv0 HLB.out.1; have hcv2 : (convert 43 9 (.slice a6 l6 c6)).run Try.prog w7 = .ok (.string (strOfNums LL)) w7 := (R6.out.guest H7.out.ho).conv0 HLB.out.1; generalize strOfNums LL = SX at hcv1 hcv2))
    | fail)
  go_ret
  exact ⟨rfl, SS, NN, k + 1, H7.out.drop (by simp), HN.out.1, HN.out.2⟩
end Go.Proofs.Ytnjhlndikbkeaaa

/-
  Counts held against one another.
-/
namespace Go.Proofs.Ytnjhlndikbkeaaa
open Go.RowKit
set_option linter.all false

theorem cellsI : Try.prog.cellsOf 3 = 1 := by kernel_rfl
theorem cellsSt : Try.prog.cellsOf 65 = 4 := by kernel_rfl
theorem cellsCo : Try.prog.cellsOf 73 = 3 := by kernel_rfl
theorem keySt : Try.prog.keyTypeAt 2 65 = true := by kernel_rfl
theorem keyCo : Try.prog.keyTypeAt 2 73 = true := by kernel_rfl
theorem wf_i64 (n : Nat) (h : n < 9223372036854775808) : (Lit.int .i64 (n : Int)).wf = true := by
  simp [Lit.wf, IntKind.min, IntKind.max, IntKind.bits, IntKind.signed]; omega
set_option maxRecDepth 20000 in
theorem stats_eq (a b c d : Nat) (ha : a < 9223372036854775808) (hb : b < 9223372036854775808) (hc : c < 9223372036854775808) (hd : d < 9223372036854775808) (w : World) : (Op.equalIn 10000 65 (.agg #[.int .i64 (a : Int), .int .i64 (b : Int), .int .i64 (c : Int), .int .i64 (d : Int)]) (.agg #[.int .i64 (a : Int), .int .i64 (b : Int), .int .i64 (c : Int), .int .i64 (d : Int)])).run Try.prog w = .ok true w := by
  have hk : Try.prog.keyLits 3 65 (Value.cells (.agg #[.int .i64 (a : Int), .int .i64 (b : Int), .int .i64 (c : Int), .int .i64 (d : Int)])).toList = some [.int .i64 a, .int .i64 b, .int .i64 c, .int .i64 d] := by
    simp [Program.keyLits, Try.underlying65, Try.underlying3, cellsI, cellsSt, Value.cells, List.range_succ, wf_i64 _ ha, wf_i64 _ hb, wf_i64 _ hc, wf_i64 _ hd]
  have hf : (Value.formed Try.prog 65 (.agg #[.int .i64 (a : Int), .int .i64 (b : Int), .int .i64 (c : Int), .int .i64 (d : Int)])) = true := by
    simp [Value.formed, Try.underlying65, cellsSt]
  obtain ⟨r, hr, hi⟩ := run_equalIn_deep (P := Try.prog) 9998 2 65 keySt w 3 3 _ _ _ _ hf hf hk hk
  rw [hr, hi.2 rfl]
set_option maxRecDepth 20000 in
theorem counts_eq (a b c : Nat) (ha : a < 9223372036854775808) (hb : b < 9223372036854775808) (hc : c < 9223372036854775808) (w : World) : (Op.equalIn 10000 73 (.agg #[.int .i64 (a : Int), .int .i64 (b : Int), .int .i64 (c : Int)]) (.agg #[.int .i64 (a : Int), .int .i64 (b : Int), .int .i64 (c : Int)])).run Try.prog w = .ok true w := by
  have hk : Try.prog.keyLits 3 73 (Value.cells (.agg #[.int .i64 (a : Int), .int .i64 (b : Int), .int .i64 (c : Int)])).toList = some [.int .i64 a, .int .i64 b, .int .i64 c] := by
    simp [Program.keyLits, Try.underlying73, Try.underlying3, cellsI, cellsCo, Value.cells, List.range_succ, wf_i64 _ ha, wf_i64 _ hb, wf_i64 _ hc]
  have hf : (Value.formed Try.prog 73 (.agg #[.int .i64 (a : Int), .int .i64 (b : Int), .int .i64 (c : Int)])) = true := by
    simp [Value.formed, Try.underlying73, cellsCo]
  obtain ⟨r, hr, hi⟩ := run_equalIn_deep (P := Try.prog) 9998 2 73 keyCo w 3 3 _ _ _ _ hf hf hk hk
  rw [hr, hi.2 rfl]
end Go.Proofs.Ytnjhlndikbkeaaa
