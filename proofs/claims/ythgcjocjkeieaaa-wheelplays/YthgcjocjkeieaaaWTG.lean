/-
  Two wheels, a list and some blocks that stay.
-/
import Derived.Test.YthgcjocjkeieaaaWTwo
namespace Go.Proofs.Ythgcjocjkeieaaa
open Go.RowKit
set_option linter.all false

structure TG (w0 w : World) (b1 b2 : Nat) (n1 l1 : Int) (T1 : List Tm) (n2 l2 : Int) (T2 : List Tm) (gv : Value) (G : List Tm) (P : List (Nat × Obj)) : Prop where
  ex : ∃ O, Two w0 w O b1 b2 n1 l1 T1 n2 l2 T2 ∧ RowF w gv G ∧ (∀ k, blkOf gv k → O 2 k) ∧ Holds w P ∧ ∀ p ∈ P, O 3 p.1
/-- .. and a new list that is nobody's yet. -/
structure TA (w0 w : World) (b1 b2 : Nat) (n1 l1 : Int) (T1 : List Tm) (n2 l2 : Int) (T2 : List Tm) (gv : Value) (G : List Tm) (P : List (Nat × Obj)) (v : Value) (F : List Tm) : Prop where
  ex : ∃ O, Two w0 w O b1 b2 n1 l1 T1 n2 l2 T2 ∧ RowF w gv G ∧ (∀ k, blkOf gv k → O 2 k) ∧ Holds w P ∧ (∀ p ∈ P, O 3 p.1) ∧ RowF w v F ∧ ∀ g, v.ownBlock = some g → w0.heap.size ≤ g ∧ ∀ j, ¬ O j g
section
variable {w0 w : World} {b1 b2 : Nat} {n1 l1 : Int} {T1 : List Tm} {n2 l2 : Int} {T2 : List Tm} {gv : Value} {G : List Tm} {P : List (Nat × Obj)} {v : Value} {F : List Tm}
theorem TG.below (h : TG w0 w b1 b2 n1 l1 T1 n2 l2 T2 gv G P) : Below w0.heap.size w0 w := by obtain ⟨O, h1, _⟩ := h.ex; exact h1.fam.below
theorem TG.holds (h : TG w0 w b1 b2 n1 l1 T1 n2 l2 T2 gv G P) : Holds w P := by obtain ⟨O, _, _, _, h4, _⟩ := h.ex; exact h4
theorem TG.a (h : TG w0 w b1 b2 n1 l1 T1 n2 l2 T2 gv G P) : ∃ m K, WA w b1 m n1 l1 T1 K := by obtain ⟨O, h1, _⟩ := h.ex; obtain ⟨m, x⟩ := h1.a; exact ⟨m, _, x⟩
theorem TG.b (h : TG w0 w b1 b2 n1 l1 T1 n2 l2 T2 gv G P) : ∃ m K, WA w b2 m n2 l2 T2 K := by obtain ⟨O, h1, _⟩ := h.ex; obtain ⟨m, x⟩ := h1.b; exact ⟨m, _, x⟩
theorem TG.row (h : TG w0 w b1 b2 n1 l1 T1 n2 l2 T2 gv G P) : RowF w gv G := by obtain ⟨O, _, h2, _⟩ := h.ex; exact h2
theorem TA.row (h : TA w0 w b1 b2 n1 l1 T1 n2 l2 T2 gv G P v F) : RowF w v F ∧ RowF w gv G := by obtain ⟨O, _, h2, _, _, _, h6, _⟩ := h.ex; exact ⟨h6, h2⟩
theorem TA.tg (h : TA w0 w b1 b2 n1 l1 T1 n2 l2 T2 gv G P v F) : TG w0 w b1 b2 n1 l1 T1 n2 l2 T2 gv G P := by obtain ⟨O, h1, h2, h3, h4, h5, _⟩ := h.ex; exact ⟨O, h1, h2, h3, h4, h5⟩
theorem TG.pass {w' : World} (h : TG w0 w b1 b2 n1 l1 T1 n2 l2 T2 gv G P) (hb : Below w.heap.size w w') : TG w0 w' b1 b2 n1 l1 T1 n2 l2 T2 gv G P := by
  obtain ⟨O, h1, h2, h3, h4, h5⟩ := h.ex
  exact ⟨O, h1.pass hb, RowS.below h2 hb, h3, h4.below hb, h5⟩
theorem TG.drewN (h : TG w0 w b1 b2 n1 l1 T1 n2 l2 T2 gv G P) (q : Nat) : TG w0 (w.drewN q) b1 b2 n1 l1 T1 n2 l2 T2 gv G P := h.pass (bdrewN w q)
/-- a new block that stays. -/
theorem TG.push (h : TG w0 w b1 b2 n1 l1 T1 n2 l2 T2 gv G P) (o : Obj) : TG w0 (w.alloc o) b1 b2 n1 l1 T1 n2 l2 T2 gv G ((w.heap.size, o) :: P) := by
  obtain ⟨O, h1, h2, h3, h4, h5⟩ := h.ex
  have hb := balloc w o
  have hf := h1.fam.add (w' := w.alloc o) 3 hb (K := fun k => O 3 k ∨ k = w.heap.size) (fun k hk => by
    rcases hk with hk | rfl
    · exact ⟨Or.inr hk, by have := h1.fam.lt 3 k hk; simp; omega⟩
    · exact ⟨Or.inl (Nat.le_refl _), by simp⟩)
  refine ⟨updO O 3 _, h1.of3 (by omega) hf.1 (fun j _ k hk => hf.2 j k hk), RowS.below h2 hb, fun k hk => by rw [updO_other _ (by decide)]; exact h3 k hk, h4.push o, fun p hp => ?_⟩
  rw [updO_same]
  rcases List.mem_cons.1 hp with rfl | hp
  · exact Or.inr rfl
  · exact Or.inl (h5 p hp)
theorem TG.clear (h : TG w0 w b1 b2 n1 l1 T1 n2 l2 T2 gv G P) : TG w0 w b1 b2 n1 l1 T1 n2 l2 T2 gv G [] := by
  obtain ⟨O, h1, h2, h3, h4, h5⟩ := h.ex
  exact ⟨O, h1, h2, h3, Holds.nil _, by simp⟩
theorem TG.drop (h : TG w0 w b1 b2 n1 l1 T1 n2 l2 T2 gv G P) : TG w0 w b1 b2 n1 l1 T1 n2 l2 T2 (.slice none 0 0) [] P := by
  obtain ⟨O, h1, h2, h3, h4, h5⟩ := h.ex
  exact ⟨O, h1, RowS.nil _ _ _, fun k hk => absurd hk (blk_nil k), h4, h5⟩
theorem Holds.same {w w' : World} {P : List (Nat × Obj)} {K : Nat → Prop} (h : Holds w P) (hk : ∀ p ∈ P, K p.1) (hs : ∀ k, K k → w'.heap[k]? = w.heap[k]?) : Holds w' P := fun p hp => (hs _ (hk p hp)).trans (h p hp)
theorem TG.arm1 (h : TG w0 w b1 b2 n1 l1 T1 n2 l2 T2 gv G P) (hl : l1 < 9223372036854775807) (t tag : Int) :
    Calls Try.prog 12 #[.pointer (some ⟨b1, 0, none⟩), .int .i64 t, .int .i64 tag] w fun e w' => e = .returned (.tuple #[.int .i64 (armN T1 l1), .int .i64 (armE T1)]) ∧ Hid (TG w0 w' b1 b2 n1 (armL T1 l1) (armT T1 n1 l1 t tag) n2 l2 T2 gv G P) := by
  obtain ⟨O, h1, h2, h3, h4, h5⟩ := h.ex
  obtain ⟨m, x⟩ := h1.a
  refine (fa_arm h1.fam 0 x hl t tag).mono ?_
  rintro e w' ⟨rfl, K, H⟩
  exact ⟨rfl, updO O 0 K, h1.of1 H.out, RowS.keep h2 fun g hg => H.out.keep 2 (by decide) g (h3 g hg), fun k hk => by rw [updO_other _ (by decide)]; exact h3 k hk, h4.same h5 (H.out.keep 3 (by decide)), fun p hp => by rw [updO_other _ (by decide)]; exact h5 p hp⟩
theorem TG.arm2 (h : TG w0 w b1 b2 n1 l1 T1 n2 l2 T2 gv G P) (hl : l2 < 9223372036854775807) (t tag : Int) :
    Calls Try.prog 12 #[.pointer (some ⟨b2, 0, none⟩), .int .i64 t, .int .i64 tag] w fun e w' => e = .returned (.tuple #[.int .i64 (armN T2 l2), .int .i64 (armE T2)]) ∧ Hid (TG w0 w' b1 b2 n1 l1 T1 n2 (armL T2 l2) (armT T2 n2 l2 t tag) gv G P) := by
  obtain ⟨O, h1, h2, h3, h4, h5⟩ := h.ex
  obtain ⟨m, x⟩ := h1.b
  refine (fa_arm h1.fam 1 x hl t tag).mono ?_
  rintro e w' ⟨rfl, K, H⟩
  exact ⟨rfl, updO O 1 K, h1.of2 H.out, RowS.keep h2 fun g hg => H.out.keep 2 (by decide) g (h3 g hg), fun k hk => by rw [updO_other _ (by decide)]; exact h3 k hk, h4.same h5 (H.out.keep 3 (by decide)), fun p hp => by rw [updO_other _ (by decide)]; exact h5 p hp⟩
theorem TG.adv1 (h : TG w0 w b1 b2 n1 l1 T1 n2 l2 T2 gv G P) (hl : l1 ≤ 9223372036854775807) (t : Int) :
    Calls Try.prog 14 #[.pointer (some ⟨b1, 0, none⟩), .int .i64 t] w fun e w' => ∃ ad cap F, e = .returned (.slice ad F.length cap) ∧ ∃ T, Hid (Fired T1 (cnt n1 t) F T) ∧ Hid (TA w0 w' b1 b2 (cnt n1 t) l1 T n2 l2 T2 gv G P (.slice ad F.length cap) F) := by
  obtain ⟨O, h1, h2, h3, h4, h5⟩ := h.ex
  obtain ⟨m, x⟩ := h1.a
  refine (fa_advance h1.fam 0 x hl t).mono ?_
  rintro e w' ⟨ad, cap, F, rfl, T, K, H⟩
  exact ⟨ad, cap, F, rfl, T, H.out.fired, updO O 0 K, h1.of1 H.out.fa, RowS.keep h2 fun g hg => H.out.fa.keep 2 (by decide) g (h3 g hg), fun k hk => by rw [updO_other _ (by decide)]; exact h3 k hk, h4.same h5 (H.out.fa.keep 3 (by decide)), fun p hp => by rw [updO_other _ (by decide)]; exact h5 p hp, H.out.row, H.out.new⟩
theorem TG.adv2 (h : TG w0 w b1 b2 n1 l1 T1 n2 l2 T2 gv G P) (hl : l2 ≤ 9223372036854775807) (t : Int) :
    Calls Try.prog 14 #[.pointer (some ⟨b2, 0, none⟩), .int .i64 t] w fun e w' => ∃ ad cap F, e = .returned (.slice ad F.length cap) ∧ ∃ T, Hid (Fired T2 (cnt n2 t) F T) ∧ Hid (TA w0 w' b1 b2 n1 l1 T1 (cnt n2 t) l2 T gv G P (.slice ad F.length cap) F) := by
  obtain ⟨O, h1, h2, h3, h4, h5⟩ := h.ex
  obtain ⟨m, x⟩ := h1.b
  refine (fa_advance h1.fam 1 x hl t).mono ?_
  rintro e w' ⟨ad, cap, F, rfl, T, K, H⟩
  exact ⟨ad, cap, F, rfl, T, H.out.fired, updO O 1 K, h1.of2 H.out.fa, RowS.keep h2 fun g hg => H.out.fa.keep 2 (by decide) g (h3 g hg), fun k hk => by rw [updO_other _ (by decide)]; exact h3 k hk, h4.same h5 (H.out.fa.keep 3 (by decide)), fun p hp => by rw [updO_other _ (by decide)]; exact h5 p hp, H.out.row, H.out.new⟩
/-- the new list is the one that stays. -/
theorem TA.adopt (h : TA w0 w b1 b2 n1 l1 T1 n2 l2 T2 gv G P v F) : TG w0 w b1 b2 n1 l1 T1 n2 l2 T2 v F P := by
  obtain ⟨O, h1, h2, h3, h4, h5, h6, h7⟩ := h.ex
  have hf := h1.fam.own 2 (K := blkOf v) (fun k hk => Or.inr ⟨RowS.lt h6 hk, (h7 k hk).1, (h7 k hk).2⟩)
  exact ⟨updO O 2 (blkOf v), h1.of3 (by omega) hf (fun _ _ _ _ => rfl), h6, fun k hk => by rw [updO_same]; exact hk, h4, fun p hp => by rw [updO_other _ (by decide)]; exact h5 p hp⟩
/-- the new list is put behind the one that stays. -/
theorem TA.append (h : TA w0 w b1 b2 n1 l1 T1 n2 l2 T2 gv G P v F) (hl : G.length + F.length ≤ 1048576) :
    ∃ ad cap w', (Builtin.append_ #[41, 41] 41 #[gv, v]).run Try.prog w = .ok (.slice ad (G ++ F).length cap) w' ∧ TG w0 w' b1 b2 n1 l1 T1 n2 l2 T2 (.slice ad (G ++ F).length cap) (G ++ F) P := by
  obtain ⟨O, h1, h2, h3, h4, h5, h6, h7⟩ := h.ex
  obtain ⟨ad, cap, w', hrun, hrow, hgr, hown⟩ := append_f h2 h6 hl
  have hT : Turned (O 2) w (fun k => blkOf (.slice ad (G ++ F).length cap) k) w' := ⟨⟨hgr.os, hgr.tape, hgr.output, hgr.size, fun k hk hkl => hgr.block k hkl (fun e => hk (h3 k e.symm))⟩, fun k hk => (hown k hk).elim (fun h => Or.inl (h3 k h)) Or.inr⟩
  have hf := h1.fam.turn 2 hT (fun k hk => RowS.lt hrow hk)
  exact ⟨ad, cap, w', hrun, updO O 2 _, h1.of3 (by omega) hf.1 hf.2, hrow, fun k hk => by rw [updO_same]; exact hk, h4.same h5 (hf.2 3 (by decide)), fun p hp => by rw [updO_other _ (by decide)]; exact h5 p hp⟩
theorem TG.next1 (h : TG w0 w b1 b2 n1 l1 T1 n2 l2 T2 gv G P) (hl : l1 ≤ 9223372036854775807) :
    Calls Try.prog 15 #[.pointer (some ⟨b1, 0, none⟩)] w fun e w' => e = .returned (.tuple #[.int .i64 (nxt T1), .bool (decide (0 < T1.length))]) ∧ Hid (TG w0 w' b1 b2 n1 l1 T1 n2 l2 T2 gv G P) := by
  obtain ⟨m, K, x⟩ := h.a
  refine (wa_next b1 m n1 l1 T1 K hl w x).mono ?_
  rintro e w' ⟨rfl, q, rfl⟩
  exact ⟨rfl, h.drewN q⟩
theorem TG.next2 (h : TG w0 w b1 b2 n1 l1 T1 n2 l2 T2 gv G P) (hl : l2 ≤ 9223372036854775807) :
    Calls Try.prog 15 #[.pointer (some ⟨b2, 0, none⟩)] w fun e w' => e = .returned (.tuple #[.int .i64 (nxt T2), .bool (decide (0 < T2.length))]) ∧ Hid (TG w0 w' b1 b2 n1 l1 T1 n2 l2 T2 gv G P) := by
  obtain ⟨m, K, x⟩ := h.b
  refine (wa_next b2 m n2 l2 T2 K hl w x).mono ?_
  rintro e w' ⟨rfl, q, rfl⟩
  exact ⟨rfl, h.drewN q⟩
theorem TG.now1 (h : TG w0 w b1 b2 n1 l1 T1 n2 l2 T2 gv G P) : Calls Try.prog 17 #[.pointer (some ⟨b1, 0, none⟩)] w fun e w' => e = .returned (.int .i64 n1) ∧ w' = w := by obtain ⟨m, K, x⟩ := h.a; exact wa_now b1 m n1 l1 T1 K w x
theorem TG.now2 (h : TG w0 w b1 b2 n1 l1 T1 n2 l2 T2 gv G P) : Calls Try.prog 17 #[.pointer (some ⟨b2, 0, none⟩)] w fun e w' => e = .returned (.int .i64 n2) ∧ w' = w := by obtain ⟨m, K, x⟩ := h.b; exact wa_now b2 m n2 l2 T2 K w x
theorem TG.len1 (h : TG w0 w b1 b2 n1 l1 T1 n2 l2 T2 gv G P) : Calls Try.prog 16 #[.pointer (some ⟨b1, 0, none⟩)] w fun e w' => e = .returned (.int .i64 T1.length) ∧ w' = w := by obtain ⟨m, K, x⟩ := h.a; exact wa_len b1 m n1 l1 T1 K w x
theorem TG.len2 (h : TG w0 w b1 b2 n1 l1 T1 n2 l2 T2 gv G P) : Calls Try.prog 16 #[.pointer (some ⟨b2, 0, none⟩)] w fun e w' => e = .returned (.int .i64 T2.length) ∧ w' = w := by obtain ⟨m, K, x⟩ := h.b; exact wa_len b2 m n2 l2 T2 K w x
/-- two lists that are one, held against each other. -/
theorem TA.same (h : TA w0 w b1 b2 n1 l1 T1 n2 l2 T2 gv G P v F) (he : F = G) (hl : F.length ≤ 1048576) :
    (Calls Try.prog 18 #[gv, v] w fun e w' => e = .returned (.bool true) ∧ Hid (TG w0 w' b1 b2 n1 l1 T1 n2 l2 T2 gv G P)) ∧ Calls Try.prog 18 #[v, gv] w fun e w' => e = .returned (.bool true) ∧ Hid (TG w0 w' b1 b2 n1 l1 T1 n2 l2 T2 gv G P) := by
  subst he
  obtain ⟨h1, h2⟩ := h.row
  refine ⟨(same_any gv v F w (PartF.of h2 hl) (PartF.of h1 hl)).mono ?_, (same_any v gv F w (PartF.of h1 hl) (PartF.of h2 hl)).mono ?_⟩
  · rintro e w' ⟨rfl, q, rfl⟩
    exact ⟨rfl, h.tg.drewN q⟩
  · rintro e w' ⟨rfl, q, rfl⟩
    exact ⟨rfl, h.tg.drewN q⟩
end
/-- two wheels are made. -/
theorem tg_new2 (w0 : World) {w : World} {b1 : Nat} (h : LV w0 w b1 0 0 []) : Calls Try.prog 8 #[] w fun e w' => ∃ b2, e = .returned (.pointer (some ⟨b2, 0, none⟩)) ∧ Hid (TG w0 w' b1 b2 0 0 [] 0 0 [] (.slice none 0 0) [] []) := by
  obtain ⟨m1, K1, x1, hk1, hb1⟩ := h.ex
  refine (wa_new w).mono ?_
  rintro e w' ⟨b2, m2, K2, rfl, H⟩
  obtain ⟨x2, hk2, hb2⟩ := H.out
  refine ⟨b2, rfl, ⟨fun j => if j = 0 then K1 else if j = 1 then K2 else fun _ => False, ⟨⟨?_, ?_, ?_, bstep hb1 hb2⟩, ⟨m1, x1.below hb2⟩, ⟨m2, x2⟩⟩, RowS.nil _ _ _, fun k hk => absurd hk (blk_nil k), Holds.nil _, by simp⟩⟩
  · intro j k hk
    split at hk
    · have := x1.lt hk; have := hb2.size; omega
    · split at hk
      · exact x2.lt hk
      · exact hk.elim
  · intro j k hk
    split at hk
    · exact hk1 k hk
    · split at hk
      · have := hk2 k hk; have := hb1.size; omega
      · exact hk.elim
  · intro i j k hne hi hj
    split at hi
    · rw [if_neg (by omega)] at hj
      split at hj
      · have := x1.lt hi; have := hk2 k hj; omega
      · exact hj.elim
    · split at hi
      · split at hj
        · have := x1.lt hj; have := hk2 k hi; omega
        · rw [if_neg (by omega)] at hj
          exact hj.elim
      · exact hi.elim
end Go.Proofs.Ythgcjocjkeieaaa
