/-
  Some dices beside one another, and blocks that are none of theirs.
-/
import Derived.Test.YtdfefhiajleejaaDiRef
namespace Go.Proofs.Ytdfefhiajleejaa
open Go.RowKit
set_option linter.all false

abbrev DL := List (TypeId × Nat × List Int)
structure DSx (w0 w : World) (l : DL) (X : List (Nat × Obj)) (A : Nat → Option Addr) (C : Nat → Nat) : Prop where
  ok : ∀ i t p zs, l[i]? = some (t, p, zs) → DiceW t w p (A i) (C i) zs
  ge : ∀ i t p zs k, l[i]? = some (t, p, zs) → DiceK p (A i) k → w0.heap.size ≤ k
  apart : ∀ i j t p zs t' p' zs' k, l[i]? = some (t, p, zs) → l[j]? = some (t', p', zs') → i ≠ j → DiceK p (A i) k → ¬ DiceK p' (A j) k
  ho : Holds w X
  off : ∀ x, x ∈ X → ∀ i t p zs k, l[i]? = some (t, p, zs) → DiceK p (A i) k → k ≠ x.1
  bel : Below w0.heap.size w0 w
/-- the dices l, made behind w0, and guests X. -/
def DS (w0 w : World) (l : DL) (X : List (Nat × Obj)) : Prop := ∃ A C, DSx w0 w l X A C
theorem DS.nil (w : World) : DS w w [] [] := ⟨fun _ => none, fun _ => 0, fun i t p zs h => by simp at h, fun i t p zs k h => by simp at h, fun i j t p zs t' p' zs' k h => by simp at h, Holds.nil w, fun x hx => by simp at hx, Below.refl _ _⟩
theorem DS.bel {w0 w : World} {l : DL} {X : List (Nat × Obj)} (h : DS w0 w l X) : Below w0.heap.size w0 w := by
  obtain ⟨A, C, h⟩ := h
  exact h.bel
theorem DS.ho {w0 w : World} {l : DL} {X : List (Nat × Obj)} (h : DS w0 w l X) : Holds w X := by
  obtain ⟨A, C, h⟩ := h
  exact h.ho
theorem DS.below {w0 w w' : World} {l : DL} {X : List (Nat × Obj)} (h : DS w0 w l X) (hb : Below w.heap.size w w') : DS w0 w' l X := by
  obtain ⟨A, C, h⟩ := h
  exact ⟨A, C, fun i t p zs hi => (h.ok i t p zs hi).below hb, h.ge, h.apart, h.ho.below hb, h.off, bstep h.bel hb⟩
theorem DS.drewN {w0 w : World} {l : DL} {X : List (Nat × Obj)} (h : DS w0 w l X) (n : Nat) : DS w0 (w.drewN n) l X := h.below ⟨rfl, rfl, rfl, Nat.le_refl _, fun _ _ => rfl⟩
/-- one more block. -/
theorem DS.push {w0 w : World} {l : DL} {X : List (Nat × Obj)} (h : DS w0 w l X) (o : Obj) : DS w0 (w.alloc o) l ((w.heap.size, o) :: X) := by
  obtain ⟨A, C, h⟩ := h
  refine ⟨A, C, fun i t p zs hi => (h.ok i t p zs hi).below (balloc w o), h.ge, h.apart, h.ho.push o, fun x hx i t p zs k hi hk => ?_, bpush h.bel o⟩
  rcases List.mem_cons.1 hx with rfl | hx
  · have := (h.ok i t p zs hi).lt k hk; simp only; omega
  · exact h.off x hx i t p zs k hi hk
/-- a new block that came otherwise. -/
theorem DS.guest {w0 w w' : World} {l : DL} {X : List (Nat × Obj)} (h : DS w0 w l X) (hb : Below w.heap.size w w') {g : Nat} {o : Obj} (hg : w'.heap[g]? = some o) (hn : w.heap.size ≤ g) : DS w0 w' l ((g, o) :: X) := by
  obtain ⟨A, C, h⟩ := h
  refine ⟨A, C, fun i t p zs hi => (h.ok i t p zs hi).below hb, h.ge, h.apart, (h.ho.below hb).cons hg, fun x hx i t p zs k hi hk => ?_, bstep h.bel hb⟩
  rcases List.mem_cons.1 hx with rfl | hx
  · have := (h.ok i t p zs hi).lt k hk; simp only; omega
  · exact h.off x hx i t p zs k hi hk
theorem DS.drop {w0 w : World} {l : DL} {X Y : List (Nat × Obj)} (h : DS w0 w l X) (hs : ∀ x, x ∈ Y → x ∈ X) : DS w0 w l Y := by
  obtain ⟨A, C, h⟩ := h
  exact ⟨A, C, h.ok, h.ge, h.apart, fun p hp => h.ho p (hs p hp), fun x hx => h.off x (hs x hx), h.bel⟩
/-- a guest's block is written. -/
theorem DS.but {w0 w w' : World} {l : DL} {X : List (Nat × Obj)} {g : Nat} {o : Obj} (h : DS w0 w l ((g, o) :: X)) (hb : But g w w') (hX : ∀ x, x ∈ X → x.1 ≠ g) (hg : w0.heap.size ≤ g) : DS w0 w' l X := by
  obtain ⟨A, C, h⟩ := h
  refine ⟨A, C, fun i t p zs hi => (h.ok i t p zs hi).keep fun k hk => hb.block k (h.off (g, o) (by simp) i t p zs k hi hk) ((h.ok i t p zs hi).lt k hk), h.ge, h.apart, fun x hx => ?_, fun x hx => h.off x (by simp [hx]), h.bel.trans (hb.below hg h.bel.size)⟩
  exact keptBut (h.ho x (by simp [hx])) hb (hX x hx)
def upd {α : Type} (f : Nat → α) (i : Nat) (v : α) (j : Nat) : α := if j = i then v else f j
theorem upd_at {α : Type} (f : Nat → α) (i : Nat) (v : α) : upd f i v i = v := if_pos rfl
theorem upd_ne {α : Type} (f : Nat → α) (i : Nat) (v : α) {j : Nat} (h : j ≠ i) : upd f i v j = f j := if_neg h
theorem DSx.change {w0 w w' : World} {l : DL} {X : List (Nat × Obj)} {A : Nat → Option Addr} {C : Nat → Nat} (h : DSx w0 w l X A C) {i : Nat} {t : TypeId} {p : Nat} {zs zs' : List Int} (hi : l[i]? = some (t, p, zs)) {a' : Option Addr} {c' : Nat}
    (hd : DiceW t w' p a' c' zs') (ho : Only (DiceK p (A i)) w w') (hb : blk a' = blk (A i) ∨ FreshA w a') : DS w0 w' (l.set i (t, p, zs')) X := by
  have hil : i < l.length := (List.getElem?_eq_some_iff.1 hi).1
  have hself : (l.set i (t, p, zs'))[i]? = some (t, p, zs') := List.getElem?_set_self hil
  have hoth : ∀ j, j ≠ i → (l.set i (t, p, zs'))[j]? = l[j]? := fun j hj => List.getElem?_set_ne (fun e => hj e.symm)
  have hkk : ∀ k, DiceK p a' k → DiceK p (A i) k ∨ w.heap.size ≤ k := fun k hk => by
    rcases hk with rfl | hk
    · exact Or.inl (Or.inl rfl)
    · rcases hb with hb | hb
      · exact Or.inl (Or.inr (hb ▸ hk))
      · exact Or.inr (hb k hk)
  have hs := h.bel.size
  refine ⟨upd A i a', upd C i c', fun j t2 p2 z2 hj => ?_, fun j t2 p2 z2 k hj hk => ?_, fun j j' t2 p2 z2 t3 p3 z3 k hj hj' hne hk hk' => ?_, fun x hx => ?_, fun x hx j t2 p2 z2 k hj hk => ?_, h.bel.trans (ho.below (fun k hk => h.ge i t p zs k hi hk) hs)⟩
  · by_cases hji : j = i
    · subst hji
      rw [hself] at hj
      simp only [Option.some.injEq, Prod.mk.injEq] at hj
      obtain ⟨rfl, rfl, rfl⟩ := hj
      rw [upd_at, upd_at]; exact hd
    · rw [hoth j hji] at hj
      rw [upd_ne _ _ _ hji, upd_ne _ _ _ hji]
      exact (h.ok j t2 p2 z2 hj).only ho (fun k hk => h.apart j i t2 p2 z2 t p zs k hj hi hji hk)
  · by_cases hji : j = i
    · subst hji
      rw [hself] at hj
      simp only [Option.some.injEq, Prod.mk.injEq] at hj
      obtain ⟨rfl, rfl, rfl⟩ := hj
      rw [upd_at] at hk
      rcases hkk k hk with h1 | h1
      · exact h.ge j t p zs k hi h1
      · omega
    · rw [hoth j hji] at hj
      rw [upd_ne _ _ _ hji] at hk
      exact h.ge j t2 p2 z2 k hj hk
  · by_cases hji : j = i
    · subst hji
      have hj'i : j' ≠ j := fun e => hne e.symm
      rw [hself] at hj
      simp only [Option.some.injEq, Prod.mk.injEq] at hj
      obtain ⟨rfl, rfl, rfl⟩ := hj
      rw [upd_at] at hk
      rw [hoth j' hj'i] at hj'
      rw [upd_ne _ _ _ hj'i] at hk'
      rcases hkk k hk with h1 | h1
      · exact h.apart j j' t p zs t3 p3 z3 k hi hj' hne h1 hk'
      · have := (h.ok j' t3 p3 z3 hj').lt k hk'; omega
    · rw [hoth j hji] at hj
      rw [upd_ne _ _ _ hji] at hk
      by_cases hj'i : j' = i
      · subst hj'i
        rw [hself] at hj'
        simp only [Option.some.injEq, Prod.mk.injEq] at hj'
        obtain ⟨rfl, rfl, rfl⟩ := hj'
        rw [upd_at] at hk'
        rcases hkk k hk' with h1 | h1
        · exact h.apart j j' t2 p2 z2 t p zs k hj hi hne hk h1
        · have := (h.ok j t2 p2 z2 hj).lt k hk; omega
      · rw [hoth j' hj'i] at hj'
        rw [upd_ne _ _ _ hj'i] at hk'
        exact h.apart j j' t2 p2 z2 t3 p3 z3 k hj hj' hne hk hk'
  · exact (ho.block x.1 (fun e => h.off x hx i t p zs x.1 hi e rfl) (h.ho.lt hx)).trans (h.ho x hx)
  · by_cases hji : j = i
    · subst hji
      rw [hself] at hj
      simp only [Option.some.injEq, Prod.mk.injEq] at hj
      obtain ⟨rfl, rfl, rfl⟩ := hj
      rw [upd_at] at hk
      rcases hkk k hk with h1 | h1
      · exact h.off x hx j t p zs k hi h1
      · have := h.ho.lt hx; omega
    · rw [hoth j hji] at hj
      rw [upd_ne _ _ _ hji] at hk
      exact h.off x hx j t2 p2 z2 k hj hk
/-- one of them, and what a call may make of it. -/
theorem DS.at {w0 w : World} {l : DL} {X : List (Nat × Obj)} (h : DS w0 w l X) {i : Nat} {t : TypeId} {p : Nat} {zs : List Int} (hi : l[i]? = some (t, p, zs)) :
    ∃ a c, DiceW t w p a c zs ∧ (∀ zs' w', UseI t w p a zs' w' → DS w0 w' (l.set i (t, p, zs')) X) ∧ (∀ zs' w' a' c', AddI t w p a zs' w' a' c' → DS w0 w' (l.set i (t, p, zs')) X) := by
  obtain ⟨A, C, h⟩ := h
  refine ⟨A i, C i, h.ok i t p zs hi, fun zs' w' hu => ?_, fun zs' w' a' c' hu => h.change hi hu.dice hu.only hu.blk⟩
  obtain ⟨a', c', h1, h2, h3⟩ := hu
  exact h.change hi h1 (Only.of_but h3 (Or.inl rfl)) (Or.inl h2)
theorem DS.words {w0 w : World} {l : DL} {X : List (Nat × Obj)} (h : DS w0 w l X) {i : Nat} {t : TypeId} {p : Nat} {zs : List Int} (hi : l[i]? = some (t, p, zs)) : Words zs := by
  obtain ⟨a, c, h, _⟩ := h.at hi
  exact h.words
/-- one more dice. -/
theorem DS.made {w0 w w' : World} {l : DL} {X : List (Nat × Obj)} (h : DS w0 w l X) {t : TypeId} {p : Nat} {a : Option Addr} {c : Nat} {zs : List Int} (m : MadeI t w w' p a c zs) : DS w0 w' (l ++ [(t, p, zs)]) X := by
  obtain ⟨A, C, h⟩ := h
  have hs := h.bel.size
  have hcase : ∀ j t2 p2 z2, (l ++ [(t, p, zs)])[j]? = some (t2, p2, z2) → (j ≠ l.length ∧ l[j]? = some (t2, p2, z2)) ∨ (j = l.length ∧ t2 = t ∧ p2 = p ∧ z2 = zs) := fun j t2 p2 z2 hj => by
    rcases Nat.lt_or_ge j l.length with h1 | h1
    · rw [List.getElem?_append_left h1] at hj
      exact Or.inl ⟨by omega, hj⟩
    · rw [List.getElem?_append_right h1] at hj
      have h2 : j - l.length = 0 := by have := (List.getElem?_eq_some_iff.1 hj).1; simp at this; omega
      rw [h2] at hj
      simp only [List.getElem?_cons_zero, Option.some.injEq, Prod.mk.injEq] at hj
      exact Or.inr ⟨by omega, hj.1.symm, hj.2.1.symm, hj.2.2.symm⟩
  refine ⟨upd A l.length a, upd C l.length c, fun j t2 p2 z2 hj => ?_, fun j t2 p2 z2 k hj hk => ?_, fun j j' t2 p2 z2 t3 p3 z3 k hj hj' hne hk hk' => ?_, h.ho.below m.bel, fun x hx j t2 p2 z2 k hj hk => ?_, bstep h.bel m.bel⟩
  · rcases hcase j t2 p2 z2 hj with ⟨h1, h2⟩ | ⟨rfl, rfl, rfl, rfl⟩
    · rw [upd_ne _ _ _ h1, upd_ne _ _ _ h1]; exact (h.ok j t2 p2 z2 h2).below m.bel
    · rw [upd_at, upd_at]; exact m.dice
  · rcases hcase j t2 p2 z2 hj with ⟨h1, h2⟩ | ⟨rfl, rfl, rfl, rfl⟩
    · rw [upd_ne _ _ _ h1] at hk; exact h.ge j t2 p2 z2 k h2 hk
    · rw [upd_at] at hk; have := m.new k hk; omega
  · rcases hcase j t2 p2 z2 hj with ⟨h1, h2⟩ | ⟨rfl, rfl, rfl, rfl⟩
    · rw [upd_ne _ _ _ h1] at hk
      rcases hcase j' t3 p3 z3 hj' with ⟨h3, h4⟩ | ⟨rfl, rfl, rfl, rfl⟩
      · rw [upd_ne _ _ _ h3] at hk'; exact h.apart j j' t2 p2 z2 t3 p3 z3 k h2 h4 hne hk hk'
      · rw [upd_at] at hk'; have := m.new k hk'; have := (h.ok j t2 p2 z2 h2).lt k hk; omega
    · rw [upd_at] at hk
      rcases hcase j' t3 p3 z3 hj' with ⟨h3, h4⟩ | ⟨rfl, _⟩
      · rw [upd_ne _ _ _ h3] at hk'; have := m.new k hk; have := (h.ok j' t3 p3 z3 h4).lt k hk'; omega
      · exact hne rfl
  · rcases hcase j t2 p2 z2 hj with ⟨h1, h2⟩ | ⟨rfl, rfl, rfl, rfl⟩
    · rw [upd_ne _ _ _ h1] at hk; exact h.off x hx j t2 p2 z2 k h2 hk
    · rw [upd_at] at hk; have := m.new k hk; have := h.ho.lt hx; omega

/-! ### The calls, of one of some dices -/
section
variable {w0 w : World} {l : DL} {X : List (Nat × Obj)}
theorem ds_next (h : DS w0 w l X) (i : Nat) {p : Nat} {zs : List Int} (hi : l[i]? = some (46, p, zs)) (hl : zs.length ≤ maxLen) :
    Calls Try.prog 14 #[.pointer (some ⟨p, 0, none⟩)] w fun e w' => e = .returned (.int .u32 (hd0 zs)) ∧ Hid (DS w0 w' (l.set i (46, p, zs.tail)) X) := by
  obtain ⟨a, c, h1, h2, _⟩ := h.at hi
  exact (next_any p a c zs w h1 hl).mono fun e w' q => ⟨q.1, by obtain ⟨a', c', q⟩ := q.2; exact h2 _ _ (q.use 0)⟩
theorem ds_left (h : DS w0 w l X) (i : Nat) {p : Nat} {zs : List Int} (hi : l[i]? = some (46, p, zs)) :
    Calls Try.prog 12 #[.pointer (some ⟨p, 0, none⟩)] w fun e w' => e = .returned (.int .i64 zs.length) ∧ w' = w := by
  obtain ⟨a, c, h1, _⟩ := h.at hi
  exact left_any p a c zs w h1
theorem ds_span (h : DS w0 w l X) (i : Nat) {p : Nat} {zs : List Int} (hi : l[i]? = some (46, p, zs)) (hl : zs.length ≤ maxLen) (lo hi' : Int) (h1 : -9223372036854775808 ≤ lo ∧ lo ≤ 9223372036854775807) (h2 : -9223372036854775808 ≤ hi' ∧ hi' ≤ 9223372036854775807) :
    Calls Try.prog 16 #[.pointer (some ⟨p, 0, none⟩), .int .i64 lo, .int .i64 hi'] w fun e w' => e = .returned (.int .i64 (spanI lo hi' zs)) ∧ Hid (DS w0 w' (l.set i (46, p, spanL lo hi' zs)) X) := by
  obtain ⟨a, c, h3, h4, _⟩ := h.at hi
  exact (span_any p a c zs lo hi' w h3 hl h1 h2).mono fun e w' q => ⟨q.1, h4 _ _ q.2.out⟩
theorem ds_port (h : DS w0 w l X) (i : Nat) {p : Nat} {zs : List Int} (hi : l[i]? = some (46, p, zs)) (hl : zs.length ≤ maxLen) :
    Calls Try.prog 17 #[.pointer (some ⟨p, 0, none⟩)] w fun e w' => e = .returned (.int .i64 (49152 + hd0 zs % 16384)) ∧ Hid (DS w0 w' (l.set i (46, p, zs.tail)) X) := by
  obtain ⟨a, c, h3, h4, _⟩ := h.at hi
  exact (port_any p a c zs w h3 hl).mono fun e w' q => ⟨q.1, h4 _ _ q.2.out⟩
theorem ds_back (h : DS w0 w l X) (i : Nat) {p : Nat} {zs : List Int} (hi : l[i]? = some (46, p, zs)) (hl : zs.length ≤ maxLen) (base most try_ : Int) (h3 : -9223372036854775808 ≤ try_ ∧ try_ ≤ 9223372036854775807) :
    Calls Try.prog 18 #[.pointer (some ⟨p, 0, none⟩), .int .i64 base, .int .i64 most, .int .i64 try_] w fun e w' => e = .returned (.int .i64 (waitI (aboutI base most try_) (hd0 zs))) ∧ Hid (DS w0 w' (l.set i (46, p, zs.tail)) X) := by
  obtain ⟨a, c, h4, h5, _⟩ := h.at hi
  exact (backoff_any p a c zs base most try_ w h4 hl h3).mono fun e w' q => ⟨q.1, h5 _ _ q.2.out⟩
theorem ds_add (h : DS w0 w l X) (i : Nat) {p : Nat} {zs : List Int} (hi : l[i]? = some (46, p, zs)) {a2 : Option Addr} {c2 : Nat} {ps : List Int} (hp : PartU w a2 c2 ps) (hl : (zs.length + ps.length) * 4 ≤ 140737488355328) :
    Calls Try.prog 20 #[.pointer (some ⟨p, 0, none⟩), .slice a2 ps.length c2] w fun e w' => e = .returned (.tuple #[]) ∧ Hid (DS w0 w' (l.set i (46, p, zs ++ ps)) X) := by
  obtain ⟨a, c, h4, _, h5⟩ := h.at hi
  exact (add_any p a c zs a2 c2 ps w h4 hp hl).mono fun e w' q => ⟨q.1, by obtain ⟨a', c', q⟩ := q.2; exact h5 _ _ a' c' q⟩
theorem ds_new (h : DS w0 w l X) {a2 : Option Addr} {c2 : Nat} {ps : List Int} (hp : PartU w a2 c2 ps) (hl : ps.length * 4 ≤ 140737488355328) :
    Calls Try.prog 8 #[.slice a2 ps.length c2] w fun e w' => ∃ p, e = .returned (.pointer (some ⟨p, 0, none⟩)) ∧ Hid (DS w0 w' (l ++ [(46, p, ps)]) X) ∧ Hid (Below w.heap.size w w') :=
  (new_any a2 c2 ps w hp hl).mono fun e w' q => by obtain ⟨p, a', c', q1, q2⟩ := q; exact ⟨p, q1, h.made q2.out, q2.out.bel⟩
theorem dr_next (h : DS w0 w l X) (i : Nat) {p : Nat} {zs : List Int} (hi : l[i]? = some (48, p, zs)) (hl : zs.length ≤ maxLen) :
    Calls Try.prog 15 #[.pointer (some ⟨p, 0, none⟩)] w fun e w' => e = .returned (.int .u32 (hd0 zs)) ∧ Hid (DS w0 w' (l.set i (48, p, zs.tail)) X) := by
  obtain ⟨a, c, h1, h2, _⟩ := h.at hi
  exact (refNext_any p a c zs w h1 hl).mono fun e w' q => ⟨q.1, by obtain ⟨a', c', q⟩ := q.2; exact h2 _ _ (q.use 0)⟩
theorem dr_left (h : DS w0 w l X) (i : Nat) {p : Nat} {zs : List Int} (hi : l[i]? = some (48, p, zs)) :
    Calls Try.prog 13 #[.pointer (some ⟨p, 0, none⟩)] w fun e w' => e = .returned (.int .i64 zs.length) ∧ w' = w := by
  obtain ⟨a, c, h1, _⟩ := h.at hi
  exact refLeft_any p a c zs w h1
theorem dr_span (h : DS w0 w l X) (i : Nat) {p : Nat} {zs : List Int} (hi : l[i]? = some (48, p, zs)) (hl : zs.length ≤ maxLen) (lo hi' : Int) (h1 : -9223372036854775808 ≤ lo ∧ lo ≤ 9223372036854775807) (h2 : -9223372036854775808 ≤ hi' ∧ hi' ≤ 9223372036854775807) :
    Calls Try.prog 23 #[.pointer (some ⟨p, 0, none⟩), .int .i64 lo, .int .i64 hi'] w fun e w' => e = .returned (.int .i64 (spanI lo hi' zs)) ∧ Hid (DS w0 w' (l.set i (48, p, spanL lo hi' zs)) X) := by
  obtain ⟨a, c, h3, h4, _⟩ := h.at hi
  exact (refSpan_any p a c zs lo hi' w h3 hl h1 h2).mono fun e w' q => ⟨q.1, h4 _ _ q.2.out⟩
theorem dr_port (h : DS w0 w l X) (i : Nat) {p : Nat} {zs : List Int} (hi : l[i]? = some (48, p, zs)) (hl : zs.length ≤ maxLen) :
    Calls Try.prog 24 #[.pointer (some ⟨p, 0, none⟩)] w fun e w' => e = .returned (.int .i64 (49152 + hd0 zs % 16384)) ∧ Hid (DS w0 w' (l.set i (48, p, zs.tail)) X) := by
  obtain ⟨a, c, h3, h4, _⟩ := h.at hi
  exact (refPort_any p a c zs w h3 hl).mono fun e w' q => ⟨q.1, h4 _ _ q.2.out⟩
theorem dr_back (h : DS w0 w l X) (i : Nat) {p : Nat} {zs : List Int} (hi : l[i]? = some (48, p, zs)) (hl : zs.length ≤ maxLen) (base most try_ : Int) (h3 : -9223372036854775808 ≤ try_ ∧ try_ ≤ 9223372036854775807) :
    Calls Try.prog 25 #[.pointer (some ⟨p, 0, none⟩), .int .i64 base, .int .i64 most, .int .i64 try_] w fun e w' => e = .returned (.int .i64 (waitI (aboutI base most try_) (hd0 zs))) ∧ Hid (DS w0 w' (l.set i (48, p, zs.tail)) X) := by
  obtain ⟨a, c, h4, h5, _⟩ := h.at hi
  exact (refBackoff_any p a c zs base most try_ w h4 hl h3).mono fun e w' q => ⟨q.1, h5 _ _ q.2.out⟩
theorem dr_add (h : DS w0 w l X) (i : Nat) {p : Nat} {zs : List Int} (hi : l[i]? = some (48, p, zs)) {a2 : Option Addr} {c2 : Nat} {ps : List Int} (hp : PartU w a2 c2 ps) (hl : (zs.length + ps.length) * 4 ≤ 140737488355328) :
    Calls Try.prog 22 #[.pointer (some ⟨p, 0, none⟩), .slice a2 ps.length c2] w fun e w' => e = .returned (.tuple #[]) ∧ Hid (DS w0 w' (l.set i (48, p, zs ++ ps)) X) := by
  obtain ⟨a, c, h4, _, h5⟩ := h.at hi
  exact (refAdd_any p a c zs a2 c2 ps w h4 hp hl).mono fun e w' q => ⟨q.1, by obtain ⟨a', c', q⟩ := q.2; exact h5 _ _ a' c' q⟩
theorem dr_new (h : DS w0 w l X) {a2 : Option Addr} {c2 : Nat} {ps : List Int} (hp : PartU w a2 c2 ps) (hl : ps.length * 4 ≤ 140737488355328) :
    Calls Try.prog 9 #[.slice a2 ps.length c2] w fun e w' => ∃ p, e = .returned (.pointer (some ⟨p, 0, none⟩)) ∧ Hid (DS w0 w' (l ++ [(48, p, ps)]) X) ∧ Hid (Below w.heap.size w w') :=
  (refNew_any a2 c2 ps w hp hl).mono fun e w' q => by obtain ⟨p, a', c', q1, q2⟩ := q; exact ⟨p, q1, h.made q2.out, q2.out.bel⟩
end
end Go.Proofs.Ytdfefhiajleejaa
