/-
  What the calls of a script do to both.
-/
import Derived.Test.YthgcjocjkeieaaaWPg
namespace Go.Proofs.Ythgcjocjkeieaaa
open Go.RowKit
set_option linter.all false

structure PQ (w0 w : World) (b p : Nat) (x y : Tms) (b' p' : Nat) (x' : Tms) (kb N : Nat) (c : Prop) (P : List (Nat × Obj)) : Prop where
  ex : ∃ O tv tv' ls ws lv wv, PO w0 w O b p x y tv b' p' x' tv' kb ls ws lv wv c P ∧ ls.length ≤ N
/-- .. and a list in hand; two. -/
structure PA (w0 w : World) (b p : Nat) (x y : Tms) (b' p' : Nat) (x' : Tms) (kb N : Nat) (c : Prop) (P : List (Nat × Obj)) (v : Value) (F : List Tm) : Prop where
  ex : ∃ O tv tv' ls ws lv wv, PO w0 w O b p x y tv b' p' x' tv' kb ls ws lv wv c P ∧ ls.length ≤ N ∧ RowF w v F ∧ ∀ k, blkOf v k → O 7 k
structure PB (w0 w : World) (b p : Nat) (x y : Tms) (b' p' : Nat) (x' : Tms) (kb N : Nat) (c : Prop) (P : List (Nat × Obj)) (v : Value) (F : List Tm) (v2 : Value) (F2 : List Tm) : Prop where
  ex : ∃ O tv tv' ls ws lv wv, PO w0 w O b p x y tv b' p' x' tv' kb ls ws lv wv c P ∧ ls.length ≤ N ∧ (RowF w v F ∧ ∀ k, blkOf v k → O 7 k) ∧ RowF w v2 F2 ∧ ∀ k, blkOf v2 k → O 8 k
def Tms.ok (y : Tms) : Prop := y.n ≤ 1125899906842624 ∧ Rising y.T ∧ y.T.length ≤ 1024 ∧ 0 ≤ y.l
section
variable {w0 w w' : World} {b p : Nat} {x y : Tms} {b' p' : Nat} {x' : Tms} {kb N : Nat} {c : Prop} {P : List (Nat × Obj)}
theorem PQ.ok (h : PQ w0 w b p x y b' p' x' kb N c P) : x.ok := by
  obtain ⟨O, tv, tv', ls, ws, lv, wv, h1, _⟩ := h.ex
  obtain ⟨m, a⟩ := h1.a
  exact ⟨a.inv.2.1, a.inv.2.2.1, a.len, a.last0⟩
theorem PQ.pass (h : PQ w0 w b p x y b' p' x' kb N c P) (hb : Below w.heap.size w w') : PQ w0 w' b p x y b' p' x' kb N c P := by
  obtain ⟨O, tv, tv', ls, ws, lv, wv, h1, h2⟩ := h.ex
  exact ⟨O, tv, tv', ls, ws, lv, wv, h1.pass hb, h2⟩
theorem PQ.below (h : PQ w0 w b p x y b' p' x' kb N c P) : Below w0.heap.size w0 w := by
  obtain ⟨O, tv, tv', ls, ws, lv, wv, h1, h2⟩ := h.ex
  exact h1.fam.below
theorem PQ.holds (h : PQ w0 w b p x y b' p' x' kb N c P) : Holds w P := by
  obtain ⟨O, tv, tv', ls, ws, lv, wv, h1, h2⟩ := h.ex
  exact h1.hold
theorem PQ.push (h : PQ w0 w b p x y b' p' x' kb N c P) (o : Obj) : PQ w0 (w.alloc o) b p x y b' p' x' kb N c [(w.heap.size, o)] := by
  obtain ⟨O, tv, tv', ls, ws, lv, wv, h1, h2⟩ := h.ex
  exact ⟨_, tv, tv', ls, ws, lv, wv, h1.push o, h2⟩
theorem PQ.clear (h : PQ w0 w b p x y b' p' x' kb N c P) {M : Nat} (hM : N ≤ M) : PQ w0 w b p x y b' p' x' kb M c [] := by
  obtain ⟨O, tv, tv', ls, ws, lv, wv, h1, h2⟩ := h.ex
  exact ⟨O, tv, tv', ls, ws, lv, wv, h1.clear, by omega⟩
theorem PQ.swap (h : PQ w0 w b p x x b' p' x' kb N c P) : PQ w0 w b' p' x' x' b p x kb N c P := by
  obtain ⟨O, tv, tv', ls, ws, lv, wv, h1, h2⟩ := h.ex
  exact ⟨_, tv', tv, ls, ws, lv, wv, h1.swap, h2⟩
theorem PQ.arm0 (h : PQ w0 w b p x y b' p' x' kb N c P) (hl : x.l < 9223372036854775807) (t tag : Int) :
    Calls Try.prog 12 #[.pointer (some ⟨b, 0, none⟩), .int .i64 t, .int .i64 tag] w fun e w' => e = .returned (.tuple #[.int .i64 (armN x.T x.l), .int .i64 (armE x.T)]) ∧ Hid (PQ w0 w' b p ⟨x.n, armL x.T x.l, armT x.T x.n x.l t tag⟩ y b' p' x' kb N c P) := by
  obtain ⟨O, tv, tv', ls, ws, lv, wv, h1, h2⟩ := h.ex
  obtain ⟨m, a⟩ := h1.a
  refine (fa_arm h1.fam 0 a hl t tag).mono ?_
  rintro e w' ⟨rfl, K, H⟩
  exact ⟨rfl, _, tv, tv', ls, ws, lv, wv, h1.t0 H.out.fam H.out.wa H.out.keep, h2⟩
theorem PQ.arm1 (h : PQ w0 w b p x y b' p' x' kb N c P) (hy : y.ok) (hl : y.l < 9223372036854775807) (t tag : Int) :
    Calls Try.prog 21 #[.pointer (some ⟨p, 0, none⟩), .int .i64 t, .int .i64 tag] w fun e w' => e = .returned (.tuple #[.int .i64 (armN y.T y.l), .int .i64 (armE y.T)]) ∧ Hid (PQ w0 w' b p x ⟨y.n, armL y.T y.l, armT y.T y.n y.l t tag⟩ b' p' x' kb N c P) := by
  obtain ⟨O, tv, tv', ls, ws, lv, wv, h1, h2⟩ := h.ex
  refine (refArm_any p y.n y.l y.T tv t tag hy.1 ⟨by have := hy.2.2.2; omega, hl⟩ hy.2.2.1 w h1.r).mono ?_
  rintro e w' ⟨rfl, tv2, H⟩
  exact ⟨rfl, _, tv2, tv', ls, ws, lv, wv, (h1.t1 (z := ⟨y.n, armL y.T y.l, armT y.T y.n y.l t tag⟩) H.out.rw_ H.out.turned).1, h2⟩
theorem PQ.cancel0 (h : PQ w0 w b p x y b' p' x' kb N c P) (hl : x.l ≤ 9223372036854775807) (a : Int) (ha : fits a) :
    Calls Try.prog 13 #[.pointer (some ⟨b, 0, none⟩), .int .i64 a] w fun e w' => e = .returned (.bool (hasT x.T a)) ∧ Hid (PQ w0 w' b p ⟨x.n, x.l, del x.T a⟩ y b' p' x' kb N c P) := by
  obtain ⟨O, tv, tv', ls, ws, lv, wv, h1, h2⟩ := h.ex
  obtain ⟨m, q⟩ := h1.a
  refine (fa_cancel h1.fam 0 q hl a ha).mono ?_
  rintro e w' ⟨rfl, K, H⟩
  exact ⟨rfl, _, tv, tv', ls, ws, lv, wv, h1.t0 (z := ⟨x.n, x.l, del x.T a⟩) H.out.fam H.out.wa H.out.keep, h2⟩
theorem PQ.cancel1 (h : PQ w0 w b p x y b' p' x' kb N c P) (hy : y.ok) (a : Int) :
    Calls Try.prog 22 #[.pointer (some ⟨p, 0, none⟩), .int .i64 a] w fun e w' => e = .returned (.bool (hasT y.T a)) ∧ Hid (PQ w0 w' b p x ⟨y.n, y.l, del y.T a⟩ b' p' x' kb N c P) := by
  obtain ⟨O, tv, tv', ls, ws, lv, wv, h1, h2⟩ := h.ex
  refine (refCancel_any p y.n y.l y.T tv a hy.2.1 hy.2.2.1 w h1.r).mono ?_
  rintro e w' ⟨rfl, ad, cap, H⟩
  exact ⟨rfl, _, _, tv', ls, ws, lv, wv, (h1.t1 (z := ⟨y.n, y.l, del y.T a⟩) H.out.rw_ H.out.turned).1, h2⟩
theorem PQ.next0 (h : PQ w0 w b p x y b' p' x' kb N c P) (hl : x.l ≤ 9223372036854775807) :
    Calls Try.prog 15 #[.pointer (some ⟨b, 0, none⟩)] w fun e w' => e = .returned (.tuple #[.int .i64 (nxt x.T), .bool (decide (0 < x.T.length))]) ∧ Hid (PQ w0 w' b p x y b' p' x' kb N c P) := by
  obtain ⟨O, tv, tv', ls, ws, lv, wv, h1, h2⟩ := h.ex
  obtain ⟨m, q⟩ := h1.a
  refine (wa_next b m _ _ _ _ hl w q).mono ?_
  rintro e w' ⟨rfl, n, rfl⟩
  exact ⟨rfl, h.pass (bdrewN w n)⟩
theorem PQ.next1 (h : PQ w0 w b p x y b' p' x' kb N c P) (hy : y.ok) :
    Calls Try.prog 25 #[.pointer (some ⟨p, 0, none⟩)] w fun e w' => e = .returned (.tuple #[.int .i64 (nxt y.T), .bool (decide (0 < y.T.length))]) ∧ Hid (PQ w0 w' b p x y b' p' x' kb N c P) := by
  obtain ⟨O, tv, tv', ls, ws, lv, wv, h1, h2⟩ := h.ex
  refine (refNext_any p y.n y.l y.T tv hy.2.1 hy.2.2.1 w h1.r).mono ?_
  rintro e w' ⟨rfl, n, rfl⟩
  exact ⟨rfl, h.pass (bdrewN w n)⟩
theorem PQ.now0 (h : PQ w0 w b p x y b' p' x' kb N c P) : Calls Try.prog 17 #[.pointer (some ⟨b, 0, none⟩)] w fun e w' => e = .returned (.int .i64 x.n) ∧ w' = w := by
  obtain ⟨O, tv, tv', ls, ws, lv, wv, h1, h2⟩ := h.ex
  obtain ⟨m, q⟩ := h1.a
  exact wa_now b m _ _ _ _ w q
theorem PQ.len0 (h : PQ w0 w b p x y b' p' x' kb N c P) : Calls Try.prog 16 #[.pointer (some ⟨b, 0, none⟩)] w fun e w' => e = .returned (.int .i64 x.T.length) ∧ w' = w := by
  obtain ⟨O, tv, tv', ls, ws, lv, wv, h1, h2⟩ := h.ex
  obtain ⟨m, q⟩ := h1.a
  exact wa_len b m _ _ _ _ w q
theorem PQ.now1 (h : PQ w0 w b p x y b' p' x' kb N c P) : Calls Try.prog 26 #[.pointer (some ⟨p, 0, none⟩)] w fun e w' => e = .returned (.int .i64 y.n) ∧ w' = w := by
  obtain ⟨O, tv, tv', ls, ws, lv, wv, h1, h2⟩ := h.ex
  exact refNow_any p _ _ _ _ w h1.r
theorem PQ.len1 (h : PQ w0 w b p x y b' p' x' kb N c P) : Calls Try.prog 27 #[.pointer (some ⟨p, 0, none⟩)] w fun e w' => e = .returned (.int .i64 y.T.length) ∧ w' = w := by
  obtain ⟨O, tv, tv', ls, ws, lv, wv, h1, h2⟩ := h.ex
  exact refLen_any p _ _ _ _ w h1.r
/-- both are told to go on. -/
theorem PQ.adv0 (h : PQ w0 w b p x y b' p' x' kb N c P) (hl : x.l ≤ 9223372036854775807) (t : Int) :
    Calls Try.prog 14 #[.pointer (some ⟨b, 0, none⟩), .int .i64 t] w fun e w' => ∃ ad cap F, e = .returned (.slice ad F.length cap) ∧ ∃ T, Hid (Fired x.T (cnt x.n t) F T) ∧ Hid (PA w0 w' b p ⟨cnt x.n t, x.l, T⟩ y b' p' x' kb N c P (.slice ad F.length cap) F) := by
  obtain ⟨O, tv, tv', ls, ws, lv, wv, h1, h2⟩ := h.ex
  obtain ⟨m, q⟩ := h1.a
  refine (fa_advance h1.fam 0 q hl t).mono ?_
  rintro e w' ⟨ad, cap, F, rfl, T, K, H⟩
  have h3 := h1.t0 (z := ⟨cnt x.n t, x.l, T⟩) H.out.fa.fam H.out.fa.wa H.out.fa.keep
  have hf := h3.fam.own 7 (K := blkOf (.slice ad F.length cap)) (fun k hk => Or.inr ⟨RowS.lt H.out.row hk, (H.out.new k hk).1, (H.out.new k hk).2⟩)
  exact ⟨ad, cap, F, rfl, T, H.out.fired, _, tv, tv', ls, ws, lv, wv, h3.tz (by omega) hf, h2, H.out.row, fun k hk => by rw [updO_same]; exact hk⟩
theorem PA.adv1 {v : Value} {F : List Tm} (h : PA w0 w b p x y b' p' x' kb N c P v F) (hy : y.ok) (t : Int) :
    Calls Try.prog 23 #[.pointer (some ⟨p, 0, none⟩), .int .i64 t] w fun e w' => ∃ ad cap F2, e = .returned (.slice ad F2.length cap) ∧ ∃ T, Hid (Fired y.T (cnt y.n t) F2 T) ∧ Hid (PB w0 w' b p x ⟨cnt y.n t, y.l, T⟩ b' p' x' kb N c P v F (.slice ad F2.length cap) F2) := by
  obtain ⟨O, tv, tv', ls, ws, lv, wv, h1, h2, h3, h4⟩ := h.ex
  refine (refAdvance_any p y.n y.l y.T tv t hy.1 hy.2.1 hy.2.2.1 w h1.r).mono ?_
  rintro e w' ⟨ad, cap, F2, rfl, T, tv2, H⟩
  obtain ⟨h5, hk⟩ := h1.t1 (z := ⟨cnt y.n t, y.l, T⟩) H.out.rw_ H.out.turned
  have hs := h1.fam.below.size
  have hf := h5.fam.own 8 (K := blkOf (.slice ad F2.length cap)) (fun k hk => Or.inr ⟨RowS.lt H.out.row hk, by have := (H.out.new k hk).1; omega, fun j hj => by
    by_cases e : j = 1
    · subst e; rw [updO_same] at hj; exact (H.out.new k hk).2 hj
    · rw [updO_other _ e] at hj
      have := h1.fam.lt j k hj
      have := (H.out.new k hk).1
      omega⟩)
  exact ⟨ad, cap, F2, rfl, T, H.out.fired, _, tv2, tv', ls, ws, lv, wv, h5.tz (by omega) hf, h2, ⟨RowS.keep h3 fun g hg => hk 7 (by decide) g (h4 g hg), fun k hk => by rw [updO_other _ (by decide), updO_other _ (by decide)]; exact h4 k hk⟩, H.out.row, fun k hk => by rw [updO_same]; exact hk⟩
theorem PB.pass {v : Value} {F : List Tm} {v2 : Value} {F2 : List Tm} (h : PB w0 w b p x y b' p' x' kb N c P v F v2 F2) (hb : Below w.heap.size w w') : PB w0 w' b p x y b' p' x' kb N c P v F v2 F2 := by
  obtain ⟨O, tv, tv', ls, ws, lv, wv, h1, h2, ⟨h3, h4⟩, h5, h6⟩ := h.ex
  exact ⟨O, tv, tv', ls, ws, lv, wv, h1.pass hb, h2, ⟨RowS.below h3 hb, h4⟩, RowS.below h5 hb, h6⟩
theorem PB.same {v : Value} {F : List Tm} {v2 : Value} (h : PB w0 w b p x y b' p' x' kb N c P v F v2 F) (hl : F.length ≤ 1024) :
    Calls Try.prog 18 #[v, v2] w fun e w' => e = .returned (.bool true) ∧ Hid (PB w0 w' b p x y b' p' x' kb N c P v F v2 F) := by
  obtain ⟨O, tv, tv', ls, ws, lv, wv, h1, h2, ⟨h3, h4⟩, h5, h6⟩ := h.ex
  refine (same_any v v2 F w (PartF.of h3 (by omega)) (PartF.of h5 (by omega))).mono ?_
  rintro e w' ⟨rfl, q, rfl⟩
  exact ⟨rfl, h.pass (bdrewN w q)⟩
theorem getD_lo {ls : List Value} {v : Value} {j : Nat} (h : j < ls.length) : (ls ++ [v]).getD j nilS = ls.getD j nilS := by
  rw [List.getD_eq_getElem?_getD, List.getElem?_append_left h, ← List.getD_eq_getElem?_getD]
theorem getD_hi {ls : List Value} {v : Value} {j : Nat} (h : j = ls.length) : (ls ++ [v]).getD j nilS = v := by
  subst h; rw [List.getD_eq_getElem?_getD]; simp
theorem PB.take {a1 : Option Addr} {n1 c1 : Nat} {a2 : Option Addr} {n2 c2 : Nat} {F : List Tm} (h : PB w0 w b p x y b' p' x' kb N c P (.slice a1 n1 c1) F (.slice a2 n2 c2) F) (hl : F.length ≤ 1024) (hN : (N + 1) * 24 ≤ 140737488355328) :
    Calls Try.prog 24 #[.pointer (some ⟨kb, 0, none⟩), .slice a1 n1 c1, .slice a2 n2 c2] w fun e w' => e = .returned (.tuple #[]) ∧ Hid (PQ w0 w' b p x y b' p' x' kb (N + 1) c P) := by
  obtain ⟨O, tv, tv', ls, ws, lv, wv, h1, h2, ⟨h3, h4⟩, h5, h6⟩ := h.ex
  refine (take_book kb ls ws lv wv a1 n1 c1 a2 n2 c2 (by omega) w h1.bk).mono ?_
  rintro e w' ⟨rfl, lv', wv', H⟩
  have ht := H.out.turned
  rw [← h1.bkk] at ht
  obtain ⟨f, hk⟩ := h1.fam.turn 4 ht (fun k hK => H.out.bk.lt hK)
  have hr3 : RowF w' (.slice a1 n1 c1) F := RowS.keep h3 fun g hg => hk 7 (by decide) g (h4 g hg)
  have hr5 : RowF w' (.slice a2 n2 c2) F := RowS.keep h5 fun g hg => hk 8 (by decide) g (h6 g hg)
  obtain ⟨L, hL⟩ : ∃ L : Nat → Prop, L = fun k => O 5 k ∨ blkOf (.slice a1 n1 c1) k ∨ blkOf (.slice a2 n2 c2) k := ⟨_, rfl⟩
  have hfd := (f.drop 7).drop 8
  have f2 := hfd.own 5 (K := L) (fun k hK => by
    rw [hL] at hK
    have hno : ∀ (s : Nat), s = 7 ∨ s = 8 → O s k → ∀ j, ¬ updO (updO (updO O 4 (BKK kb lv' wv')) 7 fun _ => False) 8 (fun _ => False) j k := fun s hs ho j hj => by
      have hs4 : updO O 4 (BKK kb lv' wv') s k := by rw [updO_other _ (by omega)]; exact ho
      by_cases e8 : j = 8
      · subst e8; rw [updO_same] at hj; exact hj
      · rw [updO_other _ e8] at hj
        by_cases e7 : j = 7
        · subst e7; rw [updO_same] at hj; exact hj
        · rw [updO_other _ e7] at hj
          exact f.apart s j k (by omega) hs4 hj
    rcases hK with hK | hK | hK
    · refine Or.inl ?_
      rw [updO_other _ (by decide), updO_other _ (by decide), updO_other _ (by decide)]; exact hK
    · exact Or.inr ⟨RowS.lt hr3 hK, h1.fam.lo 7 k (h4 k hK), hno 7 (Or.inl rfl) (h4 k hK)⟩
    · exact Or.inr ⟨RowS.lt hr5 hK, h1.fam.lo 8 k (h6 k hK), hno 8 (Or.inr rfl) (h6 k hK)⟩)
  obtain ⟨O2, hO2⟩ : ∃ O2, O2 = updO (updO (updO (updO O 4 (BKK kb lv' wv')) 7 fun _ => False) 8 fun _ => False) 5 L := ⟨_, rfl⟩
  rw [← hO2] at f2
  have ho : ∀ j, j ≠ 4 → j ≠ 5 → j ≠ 7 → j ≠ 8 → O2 j = O j := fun j e4 e5 e7 e8 => by rw [hO2, updO_other _ e5, updO_other _ e8, updO_other _ e7, updO_other _ e4]
  have ho4 : O2 4 = BKK kb lv' wv' := by rw [hO2, updO_other _ (by decide), updO_other _ (by decide), updO_other _ (by decide), updO_same]
  have ho5 : O2 5 = L := by rw [hO2, updO_same]
  obtain ⟨m1, q1⟩ := h1.a
  obtain ⟨m2, q2⟩ := h1.a'
  have hlw := h1.bk.len
  refine ⟨rfl, O2, tv, tv', ls ++ [.slice a1 n1 c1], ws ++ [.slice a2 n2 c2], lv', wv', ⟨f2, ⟨m1, ?_⟩, h1.r.keep fun k hK => hk 1 (by decide) k (by rw [h1.rk]; exact hK), ?_, ⟨m2, ?_⟩, h1.r'.keep fun k hK => hk 3 (by decide) k (by rw [h1.rk']; exact hK), ?_, H.out.bk, ho4, fun m hm k hK => ?_, fun hc => ⟨fun j hj => ?_, fun i j hi hj hne k => ?_⟩, h1.hold.same h1.hown (hk 6 (by decide)), fun e he => ?_⟩, by simp; omega⟩
  · rw [ho 0 (by decide) (by decide) (by decide) (by decide)]; exact q1.keep (hk 0 (by decide))
  · rw [ho 1 (by decide) (by decide) (by decide) (by decide)]; exact h1.rk
  · rw [ho 2 (by decide) (by decide) (by decide) (by decide)]; exact q2.keep (hk 2 (by decide))
  · rw [ho 3 (by decide) (by decide) (by decide) (by decide)]; exact h1.rk'
  · rw [ho5, hL]
    rw [List.length_append, List.length_singleton] at hm
    by_cases e : m < ls.length
    · rw [getD_lo e, getD_lo (by omega)] at hK
      exact Or.inl (h1.own m e k hK)
    · rw [getD_hi (by omega), getD_hi (by omega)] at hK
      exact Or.inr hK
  · rw [List.length_append, List.length_singleton] at hj
    have hct := (h1.ct hc).keep (w' := w') fun m hm k hK => hk 5 (by decide) k (h1.own m hm k hK)
    by_cases e : j < ls.length
    · rw [getD_lo e, getD_lo (by omega)]
      exact hct.each j e
    · rw [getD_hi (by omega), getD_hi (by omega)]
      exact ⟨F, hr3, hr5, hl⟩
  · rw [List.length_append, List.length_singleton] at hi hj
    have hap : ∀ m, m < ls.length → blkOf (ls.getD m nilS) k → ¬ blkOf (.slice a1 n1 c1) k := fun m hm h7 h8 => h1.fam.apart 5 7 k (by decide) (h1.own m hm k (Or.inl h7)) (h4 k h8)
    by_cases e1 : i < ls.length
    · rw [getD_lo e1]
      by_cases e2 : j < ls.length
      · rw [getD_lo e2]; exact (h1.ct hc).apart i j e1 e2 hne k
      · rw [getD_hi (by omega)]; exact hap i e1
    · rw [getD_hi (by omega)]
      rw [getD_lo (by omega)]
      exact fun h7 h8 => hap j (by omega) h8 h7
  · rw [ho 6 (by decide) (by decide) (by decide) (by decide)]; exact h1.hown e he
end
end Go.Proofs.Ythgcjocjkeieaaa
