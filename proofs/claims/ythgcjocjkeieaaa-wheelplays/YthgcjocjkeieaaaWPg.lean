/-
  Two wheels beside two of the document's, and the book.
-/
import Derived.Test.YthgcjocjkeieaaaWStdW
namespace Go.Proofs.Ythgcjocjkeieaaa
open Go.RowKit
set_option linter.all false

/-- a wheel's time, the number it gave last, and its timers. -/
structure Tms where
  n : Int
  l : Int
  T : List Tm
theorem CT.keep {w w' : World} {ls ws : List Value} (h : CT w ls ws) (hk : ∀ m, m < ls.length → ∀ k, blkOf (ls.getD m nilS) k ∨ blkOf (ws.getD m nilS) k → w'.heap[k]? = w.heap[k]?) : CT w' ls ws :=
  ⟨fun j hj => by
    obtain ⟨F, h1, h2, h3⟩ := h.each j hj
    exact ⟨F, RowS.keep h1 fun g hg => hk j hj g (Or.inl hg), RowS.keep h2 fun g hg => hk j hj g (Or.inr hg), h3⟩, h.apart⟩
/-- owners: 0 the wheel, 1 the document's; 2, 3 the others; 4 the book, 5 its lists, 6 what a call keeps, 7 and 8 lists in hand. -/
structure PO (w0 w : World) (O : Nat → Nat → Prop) (b p : Nat) (x y : Tms) (tv : Value) (b' p' : Nat) (x' : Tms) (tv' : Value) (kb : Nat) (ls ws : List Value) (lv wv : Value) (c : Prop) (P : List (Nat × Obj)) : Prop where
  fam : Fam w0 w O
  a : ∃ m, WA w b m x.n x.l x.T (O 0)
  r : RW w p y.n y.l y.T tv
  rk : O 1 = RK p tv
  a' : ∃ m, WA w b' m x'.n x'.l x'.T (O 2)
  r' : RW w p' x'.n x'.l x'.T tv'
  rk' : O 3 = RK p' tv'
  bk : BK w kb ls ws lv wv
  bkk : O 4 = BKK kb lv wv
  own : ∀ m, m < ls.length → ∀ k, blkOf (ls.getD m nilS) k ∨ blkOf (ws.getD m nilS) k → O 5 k
  ct : c → CT w ls ws
  hold : Holds w P
  hown : ∀ e ∈ P, O 6 e.1
section
variable {w0 w w' : World} {O : Nat → Nat → Prop} {b p : Nat} {x y : Tms} {tv : Value} {b' p' : Nat} {x' : Tms} {tv' : Value} {kb : Nat} {ls ws : List Value} {lv wv : Value} {c : Prop} {P : List (Nat × Obj)}
theorem PO.pass (h : PO w0 w O b p x y tv b' p' x' tv' kb ls ws lv wv c P) (hb : Below w.heap.size w w') : PO w0 w' O b p x y tv b' p' x' tv' kb ls ws lv wv c P := by
  have hf := h.fam.pass hb
  obtain ⟨m1, a1⟩ := h.a
  obtain ⟨m2, a2⟩ := h.a'
  exact ⟨hf.1, ⟨m1, a1.below hb⟩, h.r.below hb, h.rk, ⟨m2, a2.below hb⟩, h.r'.below hb, h.rk', h.bk.keep fun k hk => hb.block k (h.bk.lt hk), h.bkk, h.own, fun hc => (h.ct hc).keep fun m hm k hk => hf.2 5 k (h.own m hm k hk), fun e he => (hf.2 6 _ (h.hown e he)).trans (h.hold e he), h.hown⟩
/-- owner 0 has turned. -/
theorem PO.t0 (h : PO w0 w O b p x y tv b' p' x' tv' kb ls ws lv wv c P) {K : Nat → Prop} {z : Tms} (f : Fam w0 w' (updO O 0 K)) (ha : ∃ m, WA w' b m z.n z.l z.T K) (hk : ∀ j, j ≠ 0 → ∀ k, O j k → w'.heap[k]? = w.heap[k]?) : PO w0 w' (updO O 0 K) b p z y tv b' p' x' tv' kb ls ws lv wv c P := by
  obtain ⟨m2, a2⟩ := h.a'
  refine ⟨f, by rw [updO_same]; exact ha, h.r.keep fun k hK => hk 1 (by decide) k (by rw [h.rk]; exact hK), by rw [updO_other _ (by decide)]; exact h.rk, ⟨m2, by rw [updO_other _ (by decide)]; exact a2.keep (hk 2 (by decide))⟩, h.r'.keep fun k hK => hk 3 (by decide) k (by rw [h.rk']; exact hK), by rw [updO_other _ (by decide)]; exact h.rk', h.bk.keep fun k hK => hk 4 (by decide) k (by rw [h.bkk]; exact hK), by rw [updO_other _ (by decide)]; exact h.bkk, fun m hm k hK => by rw [updO_other _ (by decide)]; exact h.own m hm k hK, fun hc => (h.ct hc).keep fun m hm k hK => hk 5 (by decide) k (h.own m hm k hK), h.hold.same h.hown (hk 6 (by decide)), fun e he => by rw [updO_other _ (by decide)]; exact h.hown e he⟩
/-- owner 1 has. -/
theorem PO.t1 (h : PO w0 w O b p x y tv b' p' x' tv' kb ls ws lv wv c P) {z : Tms} {tv2 : Value} (hr : RW w' p z.n z.l z.T tv2) (ht : Turned (RK p tv) w (RK p tv2) w') : PO w0 w' (updO O 1 (RK p tv2)) b p x z tv2 b' p' x' tv' kb ls ws lv wv c P ∧ ∀ j, j ≠ 1 → ∀ k, O j k → w'.heap[k]? = w.heap[k]? := by
  rw [← h.rk] at ht
  obtain ⟨f, hk⟩ := h.fam.turn 1 ht (fun k hK => hr.lt hK)
  obtain ⟨m1, a1⟩ := h.a
  obtain ⟨m2, a2⟩ := h.a'
  exact ⟨⟨f, ⟨m1, by rw [updO_other _ (by decide)]; exact a1.keep (hk 0 (by decide))⟩, hr, updO_same _ _ _, ⟨m2, by rw [updO_other _ (by decide)]; exact a2.keep (hk 2 (by decide))⟩, h.r'.keep fun k hK => hk 3 (by decide) k (by rw [h.rk']; exact hK), by rw [updO_other _ (by decide)]; exact h.rk', h.bk.keep fun k hK => hk 4 (by decide) k (by rw [h.bkk]; exact hK), by rw [updO_other _ (by decide)]; exact h.bkk, fun m hm k hK => by rw [updO_other _ (by decide)]; exact h.own m hm k hK, fun hc => (h.ct hc).keep fun m hm k hK => hk 5 (by decide) k (h.own m hm k hK), h.hold.same h.hown (hk 6 (by decide)), fun e he => by rw [updO_other _ (by decide)]; exact h.hown e he⟩, hk⟩
/-- what an owner of no part does: 6, 7, 8. -/
theorem PO.tz (h : PO w0 w O b p x y tv b' p' x' tv' kb ls ws lv wv c P) {i : Nat} (hi : 6 < i) {K : Nat → Prop} (f : Fam w0 w (updO O i K)) : PO w0 w (updO O i K) b p x y tv b' p' x' tv' kb ls ws lv wv c P :=
  ⟨f, by rw [updO_other _ (by omega)]; exact h.a, h.r, by rw [updO_other _ (by omega)]; exact h.rk, by rw [updO_other _ (by omega)]; exact h.a', h.r', by rw [updO_other _ (by omega)]; exact h.rk', h.bk, by rw [updO_other _ (by omega)]; exact h.bkk, fun m hm k hK => by rw [updO_other _ (by omega)]; exact h.own m hm k hK, h.ct, h.hold, fun e he => by rw [updO_other _ (by omega)]; exact h.hown e he⟩
/-- a block that is kept while a call lasts. -/
theorem PO.push (h : PO w0 w O b p x y tv b' p' x' tv' kb ls ws lv wv c P) (o : Obj) : PO w0 (w.alloc o) (updO O 6 (fun k => k = w.heap.size)) b p x y tv b' p' x' tv' kb ls ws lv wv c [(w.heap.size, o)] := by
  have hb := balloc w o
  have h1 := h.pass hb
  have hs : (w.alloc o).heap.size = w.heap.size + 1 := by simp
  have f := (h.fam.drop 6).add 6 hb (K := fun k => k = w.heap.size) (fun k hk => ⟨Or.inl (by omega), by omega⟩)
  have e : updO (updO O 6 (fun _ => False)) 6 (fun k => k = w.heap.size) = updO O 6 (fun k => k = w.heap.size) := by
    funext j
    by_cases hj : j = 6
    · subst hj; rw [updO_same, updO_same]
    · rw [updO_other _ hj, updO_other _ hj, updO_other _ hj]
  rw [e] at f
  exact ⟨f.1, by rw [updO_other _ (by decide)]; exact h1.a, h1.r, by rw [updO_other _ (by decide)]; exact h1.rk, by rw [updO_other _ (by decide)]; exact h1.a', h1.r', by rw [updO_other _ (by decide)]; exact h1.rk', h1.bk, by rw [updO_other _ (by decide)]; exact h1.bkk, fun m hm k hK => by rw [updO_other _ (by decide)]; exact h1.own m hm k hK, h1.ct, fun e he => by
    simp only [List.mem_singleton] at he
    subst he
    exact heap_new w o, fun e he => by
    simp only [List.mem_singleton] at he
    subst he
    rw [updO_same]⟩
theorem PO.clear (h : PO w0 w O b p x y tv b' p' x' tv' kb ls ws lv wv c P) : PO w0 w O b p x y tv b' p' x' tv' kb ls ws lv wv c [] :=
  ⟨h.fam, h.a, h.r, h.rk, h.a', h.r', h.rk', h.bk, h.bkk, h.own, h.ct, Holds.nil _, by simp⟩
def swp4 (j : Nat) : Nat := if j = 0 then 2 else if j = 1 then 3 else if j = 2 then 0 else if j = 3 then 1 else j
theorem swp4_inj {i j : Nat} (h : i ≠ j) : swp4 i ≠ swp4 j := by
  unfold swp4
  (repeat' split) <;> omega
/-- the others' turn. -/
theorem PO.swap (h : PO w0 w O b p x x tv b' p' x' tv' kb ls ws lv wv c P) : PO w0 w (fun j => O (swp4 j)) b' p' x' x' tv' b p x tv kb ls ws lv wv c P :=
  ⟨⟨fun j k hk => h.fam.lt _ k hk, fun j k hk => h.fam.lo _ k hk, fun i j k hne hk => h.fam.apart _ _ k (swp4_inj hne) hk, h.fam.below⟩, h.a', h.r', h.rk', h.a, h.r, h.rk, h.bk, h.bkk, h.own, h.ct, h.hold, h.hown⟩
/-- what stands does. -/
theorem PO.stood (h : PO w0 w O b p x y tv b' p' x' tv' kb ls ws lv wv c P) (hs : StI w kb lv ls w') : PO w0 w' O b p x y tv b' p' x' tv' kb ls ws lv wv False P := by
  have ht : Turned (O 5) w (O 5) w' := ⟨⟨hs.only.os, hs.only.tape, hs.only.output, hs.only.size, fun k hk hkl => hs.only.block k (fun ⟨j, hj, e⟩ => hk (h.own j hj k (Or.inl e))) hkl⟩, fun k hk => Or.inl hk⟩
  obtain ⟨f, hk⟩ := h.fam.turn 5 ht (fun k hK => by have := h.fam.lt 5 k hK; have := hs.only.size; omega)
  have e : updO O 5 (O 5) = O := by
    funext j
    by_cases hj : j = 5
    · subst hj; rw [updO_same]
    · rw [updO_other _ hj]
  rw [e] at f
  obtain ⟨m1, a1⟩ := h.a
  obtain ⟨m2, a2⟩ := h.a'
  exact ⟨f, ⟨m1, a1.keep (hk 0 (by decide))⟩, h.r.keep fun k hK => hk 1 (by decide) k (by rw [h.rk]; exact hK), h.rk, ⟨m2, a2.keep (hk 2 (by decide))⟩, h.r'.keep fun k hK => hk 3 (by decide) k (by rw [h.rk']; exact hK), h.rk', h.bk.keep fun k hK => hk 4 (by decide) k (by rw [h.bkk]; exact hK), h.bkk, h.own, fun e => e.elim, h.hold.same h.hown (hk 6 (by decide)), h.hown⟩
end
end Go.Proofs.Ythgcjocjkeieaaa
