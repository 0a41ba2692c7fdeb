/-
  WheelOnce: how it stands.
-/
import Derived.Test.YthgcjocjkeieaaaWTG
import Derived.Test.YthgcjocjkeieaaaWOpen
namespace Go.Proofs.Ythgcjocjkeieaaa
open Go.RowKit
set_option linter.all false

/-! ### The book that the statement keeps -/
/-- A: the times by numbers; B: who is there; of the numbers up to last. -/
structure OnM (last : Int) (T : List Tm) (A B : List Int) : Prop where
  lenA : (A.length : Int) = last + 1
  lenB : B.length = A.length
  at_ : ∀ x ∈ T, nth A x.id.toNat = x.t
  there : ∀ i, i < B.length → nth B i = if hasT T i then 1 else 0
theorem OnM.start : OnM 0 [] [0] [0] := ⟨rfl, rfl, by simp, fun i hi => by
  have : i = 0 := by simp at hi; omega
  subst this; rfl⟩
theorem hasT_app {T : List Tm} {x : Tm} {a : Int} : hasT (T ++ [x]) a = (hasT T a || (x.id == a)) := by simp [hasT]
theorem OnM.arm {last now : Int} {T : List Tm} {A B : List Int} (h : OnM last T A B) (hi : ∀ x ∈ T, 1 ≤ x.id ∧ x.id ≤ last) (h0 : 0 ≤ last) (t tag : Int) : OnM (last + 1) (T ++ [⟨t, last + 1, tag⟩]) (A ++ [t]) (B ++ [1]) := by
  have hA := h.lenA
  refine ⟨by rw [List.length_append, List.length_singleton]; omega, by simp [h.lenB], fun x hx => ?_, fun i hil => ?_⟩
  · rcases List.mem_append.1 hx with hx | hx
    · have := hi x hx
      rw [nth_left (by omega)]
      exact h.at_ x hx
    · simp at hx
      subst hx
      rw [show (last + 1).toNat = A.length from by omega]
      exact nth_end A t
  · rw [List.length_append, List.length_singleton] at hil
    rw [hasT_app]
    by_cases e : i = B.length
    · subst e
      rw [nth_end]
      have : ((last + 1 == (B.length : Int)) = true) := by rw [beq_iff_eq, h.lenB]; omega
      simp only [this, Bool.or_true, if_true]
    · rw [nth_left (by omega), h.there i (by omega)]
      have : (last + 1 == (i : Int)) = false := by rw [beq_eq_false_iff_ne]; rw [h.lenB] at hil e; omega
      simp only [this, Bool.or_false]
theorem OnM.is {last : Int} {T : List Tm} {A B : List Int} (h : OnM last T A B) (hi : ∀ x ∈ T, 1 ≤ x.id ∧ x.id ≤ last) (a : Int) : (0 < a ∧ a < A.length ∧ nth B a.toNat = 1) ↔ hasT T a = true := by
  have hA := h.lenA
  constructor
  · rintro ⟨h1, h2, h3⟩
    rw [h.there a.toNat (by rw [h.lenB]; omega), Int.toNat_of_nonneg (by omega)] at h3
    by_cases e : hasT T a = true
    · exact e
    · rw [if_neg e] at h3; omega
  · intro e
    obtain ⟨x, hx, rfl⟩ := hasT_iff.1 e
    have := hi x hx
    refine ⟨by omega, by omega, ?_⟩
    rw [h.there _ (by rw [h.lenB]; omega), Int.toNat_of_nonneg (by omega), if_pos e]
theorem hasT_del {T : List Tm} {a b : Int} : hasT (del T a) b = (hasT T b && decide (b ≠ a)) := by
  rw [Bool.eq_iff_iff, Bool.and_eq_true, hasT_iff, hasT_iff, decide_eq_true_eq]
  constructor
  · rintro ⟨x, hx, rfl⟩
    obtain ⟨h1, h2⟩ := mem_del.1 hx
    exact ⟨⟨x, h1, rfl⟩, h2⟩
  · rintro ⟨⟨x, hx, rfl⟩, h2⟩
    exact ⟨x, mem_del.2 ⟨hx, h2⟩, rfl⟩
theorem OnM.del {last : Int} {T : List Tm} {A B : List Int} (h : OnM last T A B) (a : Nat) (ha : a < B.length) : OnM last (Go.Proofs.Ythgcjocjkeieaaa.del T a) A (B.set a 0) := by
  refine ⟨h.lenA, by rw [List.length_set]; exact h.lenB, fun x hx => h.at_ x (mem_del.1 hx).1, fun i hi => ?_⟩
  rw [List.length_set] at hi
  rw [nth_set _ _ _ _ ha, hasT_del]
  by_cases e : i = a
  · subst e; simp
  · rw [if_neg e, h.there i hi]
    have : ((i : Int) ≠ (a : Int)) := by omega
    simp [this]
theorem OnM.gone {last : Int} {T : List Tm} {A B : List Int} (h : OnM last T A B) {a : Int} (hn : hasT T a = false) : Go.Proofs.Ythgcjocjkeieaaa.del T a = T := del_none fun x hx e => by
  have : hasT T a = true := hasT_iff.2 ⟨x, hx, e⟩
  rw [hn] at this; simp at this
theorem del_len {T : List Tm} (hr : Rising T) {a : Int} (h : hasT T a = true) : (del T a).length + 1 = T.length := by
  obtain ⟨x, hx, rfl⟩ := hasT_iff.1 h
  obtain ⟨i, hi⟩ := List.getElem?_of_mem hx
  have hl := (List.getElem?_eq_some_iff.1 hi).1
  rw [del_idx hr hi, List.length_eraseIdx_of_lt hl]
  omega
/-- while what was told is gone through: j of F are struck off. -/
def strike : List Tm → List Tm → List Tm
  | T, [] => T
  | T, f :: r => strike (del T f.id) r
theorem strike_app : ∀ (T F : List Tm) (f : Tm), strike T (F ++ [f]) = del (strike T F) f.id
  | T, [], f => rfl
  | T, g :: r, f => by rw [List.cons_append]; exact strike_app (del T g.id) r f
theorem mem_strike : ∀ (F T : List Tm) (x : Tm), x ∈ strike T F ↔ x ∈ T ∧ ∀ f ∈ F, f.id ≠ x.id
  | [], T, x => by simp [strike]
  | g :: r, T, x => by
    rw [strike, mem_strike r (del T g.id) x, mem_del]
    constructor
    · rintro ⟨⟨h1, h2⟩, h3⟩
      exact ⟨h1, fun f hf => by
        rcases List.mem_cons.1 hf with rfl | hf
        · exact fun e => h2 e.symm
        · exact h3 f hf⟩
    · rintro ⟨h1, h2⟩
      exact ⟨⟨h1, fun e => h2 g (by simp) e.symm⟩, fun f hf => h2 f (by simp [hf])⟩
theorem strike_without : ∀ (F T : List Tm), strike T F = without T F
  | [], T => (without_nil T).symm
  | g :: r, T => by
    rw [strike, strike_without r]
    unfold without del
    rw [List.filter_filter]
    apply List.filter_congr
    intro x _
    rw [Bool.eq_iff_iff]
    simp only [Bool.and_eq_true, decide_eq_true_eq, List.mem_cons]
    constructor
    · rintro ⟨h1, h2⟩ f hf
      rcases hf with rfl | hf
      · exact fun e => h2 e.symm
      · exact h1 f hf
    · intro h
      exact ⟨fun f hf => h f (Or.inr hf), fun e => h g (Or.inl rfl) e.symm⟩
theorem strike_rising : ∀ (F T : List Tm), Rising T → Rising (strike T F)
  | [], T, h => h
  | g :: r, T, h => strike_rising r _ (h.del g.id)
theorem Fired.strike {T0 F T : List Tm} {e : Int} (h : Fired T0 e F T) (hr : Rising T0) : Go.Proofs.Ythgcjocjkeieaaa.strike T0 F = T := by
  rw [strike_without, h.left]
  unfold without
  apply List.filter_congr
  intro x hx
  rw [decide_eq_decide]
  constructor
  · intro h1
    rcases Int.lt_or_le e x.t with h2 | h2
    · exact h2
    · exact absurd rfl (h1 x ((h.mem x).2 ⟨hx, h2⟩))
  · intro h1 f hf he
    obtain ⟨h2, h3⟩ := (h.mem f).1 hf
    have := hr.one h2 hx he
    subst this
    omega
/-- the one that is looked at. -/
theorem Fired.at_ {T0 F T : List Tm} {e : Int} (h : Fired T0 e F T) (hr : Rising T0) {j : Nat} {x : Tm} (hx : F[j]? = some x) : x ∈ T0 ∧ x.t ≤ e ∧ x ∈ Go.Proofs.Ythgcjocjkeieaaa.strike T0 (F.take j) ∧ ∀ y, 0 < j → F[j - 1]? = some y → tlt y x := by
  obtain ⟨hjl, hjx⟩ := List.getElem?_eq_some_iff.1 hx
  have hm := (h.mem x).1 (List.mem_of_getElem? hx)
  have hp := List.pairwise_iff_getElem.1 h.sort
  refine ⟨hm.1, hm.2, (mem_strike _ _ _).2 ⟨hm.1, fun f hf he => ?_⟩, fun y h0 hy => ?_⟩
  · obtain ⟨k, hk, hkf⟩ := List.getElem_of_mem hf
    rw [List.length_take] at hk
    rw [List.getElem_take] at hkf
    have h1 := hp k j (by omega) hjl (by omega)
    rw [hkf, hjx] at h1
    have h2 := ((h.mem f).1 (List.mem_of_mem_take hf)).1
    have := hr.one h2 hm.1 he
    subst this
    exact tlt_irrefl _ h1
  · obtain ⟨hyl, hyy⟩ := List.getElem?_eq_some_iff.1 hy
    have h1 := hp (j - 1) j hyl hjl (by omega)
    rw [hyy, hjx] at h1
    exact h1

/-! ### Memory -/
structure ON (w0 w : World) (b : Nat) (now last : Int) (T : List Tm) (av tv : Value) (A B : List Int) (P : List (Nat × Obj)) (gv : Value) (G : List Tm) : Prop where
  ex : ∃ O, Fam w0 w O ∧ (∃ m, WA w b m now last T (O 0)) ∧ Row w 3 av (ints A) ∧ (∀ k, blkOf av k → O 1 k) ∧ Row w 3 tv (ints B) ∧ (∀ k, blkOf tv k → O 2 k) ∧ Holds w P ∧ (∀ p ∈ P, O 3 p.1) ∧ RowF w gv G ∧ ∀ k, blkOf gv k → O 4 k
section
variable {w0 w : World} {b : Nat} {now last : Int} {T : List Tm} {av tv : Value} {A B : List Int} {P : List (Nat × Obj)} {gv : Value} {G : List Tm}
theorem ON.below (h : ON w0 w b now last T av tv A B P gv G) : Below w0.heap.size w0 w := by obtain ⟨O, h1, _⟩ := h.ex; exact h1.below
theorem ON.wa (h : ON w0 w b now last T av tv A B P gv G) : ∃ m K, WA w b m now last T K := by obtain ⟨O, _, ⟨m, x⟩, _⟩ := h.ex; exact ⟨m, _, x⟩
theorem ON.rows (h : ON w0 w b now last T av tv A B P gv G) : Row w 3 av (ints A) ∧ Row w 3 tv (ints B) ∧ Holds w P ∧ RowF w gv G := by obtain ⟨O, _, _, h3, _, h5, _, h7, _, h9, _⟩ := h.ex; exact ⟨h3, h5, h7, h9⟩
theorem ON.pass {w' : World} (h : ON w0 w b now last T av tv A B P gv G) (hb : Below w.heap.size w w') : ON w0 w' b now last T av tv A B P gv G := by
  obtain ⟨O, h1, ⟨m, x⟩, h3, h4, h5, h6, h7, h8, h9, h10⟩ := h.ex
  exact ⟨O, (h1.pass hb).1, ⟨m, x.below hb⟩, h3.below hb, h4, h5.below hb, h6, h7.below hb, h8, RowS.below h9 hb, h10⟩
theorem ON.drewN (h : ON w0 w b now last T av tv A B P gv G) (q : Nat) : ON w0 (w.drewN q) b now last T av tv A B P gv G := h.pass (bdrewN w q)
theorem ON.clear (h : ON w0 w b now last T av tv A B P gv G) : ON w0 w b now last T av tv A B [] (.slice none 0 0) [] := by
  obtain ⟨O, h1, h2, h3, h4, h5, h6, h7, h8, h9, h10⟩ := h.ex
  exact ⟨O, h1, h2, h3, h4, h5, h6, Holds.nil _, by simp, RowS.nil _ _ _, fun k hk => absurd hk (blk_nil k)⟩
/-- owner i has turned: all others stand. -/
theorem ON.turn1 {w' : World} (O : Nat → Nat → Prop) (h3 : Row w 3 av (ints A)) (h4 : ∀ k, blkOf av k → O 1 k) (hk : ∀ k, O 1 k → w'.heap[k]? = w.heap[k]?) : Row w' 3 av (ints A) := h3.keep fun g hg => hk g (h4 g hg)
theorem ON.push (h : ON w0 w b now last T av tv A B P gv G) (o : Obj) : ON w0 (w.alloc o) b now last T av tv A B ((w.heap.size, o) :: P) gv G := by
  obtain ⟨O, h1, ⟨m, x⟩, h3, h4, h5, h6, h7, h8, h9, h10⟩ := h.ex
  have hb := balloc w o
  have hf := h1.add (w' := w.alloc o) 3 hb (K := fun k => O 3 k ∨ k = w.heap.size) (fun k hk => by
    rcases hk with hk | rfl
    · exact ⟨Or.inr hk, by have := h1.lt 3 k hk; simp; omega⟩
    · exact ⟨Or.inl (Nat.le_refl _), by simp⟩)
  refine ⟨updO O 3 _, hf.1, ⟨m, by rw [updO_other _ (by decide)]; exact x.below hb⟩, h3.below hb, fun k hk => by rw [updO_other _ (by decide)]; exact h4 k hk, h5.below hb, fun k hk => by rw [updO_other _ (by decide)]; exact h6 k hk, h7.push o, fun p hp => ?_, RowS.below h9 hb, fun k hk => by rw [updO_other _ (by decide)]; exact h10 k hk⟩
  rw [updO_same]
  rcases List.mem_cons.1 hp with rfl | hp
  · exact Or.inr rfl
  · exact Or.inl (h8 p hp)
theorem ON.of0 {O : Nat → Nat → Prop} {w' : World} {now' last' : Int} {T' : List Tm} {K : Nat → Prop} (f : FaI w0 O 0 w w' b now' last' T' K) (h3 : Row w 3 av (ints A)) (h4 : ∀ k, blkOf av k → O 1 k) (h5 : Row w 3 tv (ints B)) (h6 : ∀ k, blkOf tv k → O 2 k) (h7 : Holds w P) (h8 : ∀ p ∈ P, O 3 p.1) (h9 : RowF w gv G) (h10 : ∀ k, blkOf gv k → O 4 k) : ON w0 w' b now' last' T' av tv A B P gv G :=
  ⟨updO O 0 K, f.fam, by rw [updO_same]; exact f.wa, h3.keep fun g hg => f.keep 1 (by decide) g (h4 g hg), fun k hk => by rw [updO_other _ (by decide)]; exact h4 k hk, h5.keep fun g hg => f.keep 2 (by decide) g (h6 g hg), fun k hk => by rw [updO_other _ (by decide)]; exact h6 k hk, h7.same h8 (f.keep 3 (by decide)), fun p hp => by rw [updO_other _ (by decide)]; exact h8 p hp, RowS.keep h9 fun g hg => f.keep 4 (by decide) g (h10 g hg), fun k hk => by rw [updO_other _ (by decide)]; exact h10 k hk⟩
theorem ON.arm (h : ON w0 w b now last T av tv A B P gv G) (hl : last < 9223372036854775807) (t tag : Int) :
    Calls Try.prog 12 #[.pointer (some ⟨b, 0, none⟩), .int .i64 t, .int .i64 tag] w fun e w' => e = .returned (.tuple #[.int .i64 (armN T last), .int .i64 (armE T)]) ∧ Hid (ON w0 w' b now (armL T last) (armT T now last t tag) av tv A B P gv G) := by
  obtain ⟨O, h1, ⟨m, x⟩, h3, h4, h5, h6, h7, h8, h9, h10⟩ := h.ex
  refine (fa_arm h1 0 x hl t tag).mono ?_
  rintro e w' ⟨rfl, K, H⟩
  exact ⟨rfl, ON.of0 H.out h3 h4 h5 h6 h7 h8 h9 h10⟩
theorem ON.cancel (h : ON w0 w b now last T av tv A B P gv G) (hl : last ≤ 9223372036854775807) (a : Int) (ha : fits a) :
    Calls Try.prog 13 #[.pointer (some ⟨b, 0, none⟩), .int .i64 a] w fun e w' => e = .returned (.bool (hasT T a)) ∧ Hid (ON w0 w' b now last (del T a) av tv A B P gv G) := by
  obtain ⟨O, h1, ⟨m, x⟩, h3, h4, h5, h6, h7, h8, h9, h10⟩ := h.ex
  refine (fa_cancel h1 0 x hl a ha).mono ?_
  rintro e w' ⟨rfl, K, H⟩
  exact ⟨rfl, ON.of0 H.out h3 h4 h5 h6 h7 h8 h9 h10⟩
theorem ON.adv (h : ON w0 w b now last T av tv A B P gv G) (hl : last ≤ 9223372036854775807) (t : Int) :
    Calls Try.prog 14 #[.pointer (some ⟨b, 0, none⟩), .int .i64 t] w fun e w' => ∃ ad cap F, e = .returned (.slice ad F.length cap) ∧ ∃ T', Hid (Fired T (cnt now t) F T') ∧ Hid (ON w0 w' b (cnt now t) last T' av tv A B P (.slice ad F.length cap) F) := by
  obtain ⟨O, h1, ⟨m, x⟩, h3, h4, h5, h6, h7, h8, h9, h10⟩ := h.ex
  refine (fa_advance h1 0 x hl t).mono ?_
  rintro e w' ⟨ad, cap, F, rfl, T', K, H⟩
  refine ⟨ad, cap, F, rfl, T', H.out.fired, ?_⟩
  obtain ⟨O', k1, ⟨m', x'⟩, k3, k4, k5, k6, k7, k8, _⟩ := (ON.of0 (gv := .slice none 0 0) (G := []) H.out.fa h3 h4 h5 h6 h7 h8 (RowS.nil _ _ _) (fun k hk => absurd hk (blk_nil k))).ex
  have hO : Fam w0 w' (updO O 0 K) := H.out.fa.fam
  have hw := H.out.fa.wa
  have hf := hO.own 4 (K := blkOf (.slice ad F.length cap)) (fun k hk => Or.inr ⟨RowS.lt H.out.row hk, (H.out.new k hk).1, (H.out.new k hk).2⟩)
  refine ⟨updO (updO O 0 K) 4 _, hf, by rw [updO_other _ (by decide), updO_same]; exact hw, k3, fun k hk => ?_, k5, fun k hk => ?_, k7, fun p hp => ?_, H.out.row, fun k hk => by rw [updO_same]; exact hk⟩
  · rw [updO_other _ (by decide), updO_other _ (by decide)]; exact h4 k hk
  · rw [updO_other _ (by decide), updO_other _ (by decide)]; exact h6 k hk
  · rw [updO_other _ (by decide), updO_other _ (by decide)]; exact h8 p hp
theorem ON.next (h : ON w0 w b now last T av tv A B P gv G) (hl : last ≤ 9223372036854775807) :
    Calls Try.prog 15 #[.pointer (some ⟨b, 0, none⟩)] w fun e w' => e = .returned (.tuple #[.int .i64 (nxt T), .bool (decide (0 < T.length))]) ∧ Hid (ON w0 w' b now last T av tv A B P gv G) := by
  obtain ⟨m, K, x⟩ := h.wa
  refine (wa_next b m now last T K hl w x).mono ?_
  rintro e w' ⟨rfl, q, rfl⟩
  exact ⟨rfl, h.drewN q⟩
theorem ON.now_ (h : ON w0 w b now last T av tv A B P gv G) : Calls Try.prog 17 #[.pointer (some ⟨b, 0, none⟩)] w fun e w' => e = .returned (.int .i64 now) ∧ w' = w := by obtain ⟨m, K, x⟩ := h.wa; exact wa_now b m now last T K w x
theorem ON.len (h : ON w0 w b now last T av tv A B P gv G) : Calls Try.prog 16 #[.pointer (some ⟨b, 0, none⟩)] w fun e w' => e = .returned (.int .i64 T.length) ∧ w' = w := by obtain ⟨m, K, x⟩ := h.wa; exact wa_len b m now last T K w x
/-- 'append(at, t)'. -/
theorem row_app {w : World} {v : Value} {A : List Int} (h3 : Row w 3 v (ints A)) (t : Int) (hA : (A.length + 1) * 8 ≤ 140737488355328) :
    ∃ w' ad cap, (Builtin.append_ #[36, 36] 36 #[v, .slice (some ⟨w.heap.size, 0, none⟩) 1 1]).run Try.prog (w.alloc (.cells #[.int .i64 t] 3)) = .ok (.slice ad (A.length + 1) cap) w' ∧ Row w' 3 (.slice ad (A.length + 1) cap) (ints (A ++ [t])) ∧ Turned (blkOf v) w (blkOf (.slice ad (A.length + 1) cap)) w' := by
  have hb0 := balloc w (.cells #[.int .i64 t] 3)
  obtain ⟨v', w', hrun, hrow, hgr, hcase⟩ := append_one 36 36 3 _ 8 Try.underlying36 infoI rfl (h3.below hb0) (.int .i64 t) rfl w.heap.size (0, 0) (heap_new w _) (by rw [ints_len]; unfold maxLen; omega) (by rw [ints_len]; omega)
  rw [ints_len] at hcase
  have hform : ∃ ad cap, v' = .slice ad (A.length + 1) cap ∧ ∀ g, v'.ownBlock = some g → v.ownBlock = some g ∨ w.heap.size ≤ g := by
    rcases hcase with ⟨g, cap, h1, h2⟩ | ⟨g, cap, h1, h2, _⟩
    · exact ⟨_, _, h2, fun k hk => Or.inl (by rw [h1]; rw [h2] at hk; exact hk)⟩
    · refine ⟨_, _, h1, fun k hk => Or.inr ?_⟩
      rw [h1] at hk
      simp [Value.ownBlock] at hk
      have := hb0.size
      omega
  obtain ⟨ad, cap, rfl, hown⟩ := hform
  refine ⟨w', ad, cap, hrun, by rw [ints_app]; exact hrow, ⟨hgr.os.trans hb0.os, hgr.tape.trans hb0.tape, hgr.output.trans hb0.output, Nat.le_trans hb0.size hgr.size, fun k hk hkl => ?_⟩, fun k hk => hown k hk⟩
  exact (hgr.block k (by have := hb0.size; omega) (fun e => hk e.symm)).trans (hb0.block k hkl)
theorem Turned.wide {K L K' : Nat → Prop} {w w' : World} (h : Turned K w K' w') (hk : ∀ k, K k → L k) : Turned L w K' w' := ⟨h.only.mono hk, fun k hk' => (h.new k hk').imp (hk k) id⟩
theorem ON.appA (h : ON w0 w b now last T av tv A B P gv G) (t : Int) (hA : (A.length + 1) * 8 ≤ 140737488355328) :
    ∃ w' ad cap, (Builtin.append_ #[36, 36] 36 #[av, .slice (some ⟨w.heap.size, 0, none⟩) 1 1]).run Try.prog (w.alloc (.cells #[.int .i64 t] 3)) = .ok (.slice ad (A.length + 1) cap) w' ∧ ON w0 w' b now last T (.slice ad (A.length + 1) cap) tv (A ++ [t]) B P gv G := by
  obtain ⟨O, h1, ⟨m, x⟩, h3, h4, h5, h6, h7, h8, h9, h10⟩ := h.ex
  obtain ⟨w', ad, cap, hrun, hrow, ht⟩ := row_app h3 t hA
  have hf := h1.turn 1 (ht.wide h4) (fun k hk => hrow.lt hk)
  exact ⟨w', ad, cap, hrun, updO O 1 _, hf.1, ⟨m, by rw [updO_other _ (by decide)]; exact x.keep (hf.2 0 (by decide))⟩, hrow, fun k hk => by rw [updO_same]; exact hk, h5.keep fun g hg => hf.2 2 (by decide) g (h6 g hg), fun k hk => by rw [updO_other _ (by decide)]; exact h6 k hk, h7.same h8 (hf.2 3 (by decide)), fun p hp => by rw [updO_other _ (by decide)]; exact h8 p hp, RowS.keep h9 fun g hg => hf.2 4 (by decide) g (h10 g hg), fun k hk => by rw [updO_other _ (by decide)]; exact h10 k hk⟩
theorem ON.appB (h : ON w0 w b now last T av tv A B P gv G) (t : Int) (hA : (B.length + 1) * 8 ≤ 140737488355328) :
    ∃ w' ad cap, (Builtin.append_ #[36, 36] 36 #[tv, .slice (some ⟨w.heap.size, 0, none⟩) 1 1]).run Try.prog (w.alloc (.cells #[.int .i64 t] 3)) = .ok (.slice ad (B.length + 1) cap) w' ∧ ON w0 w' b now last T av (.slice ad (B.length + 1) cap) A (B ++ [t]) P gv G := by
  obtain ⟨O, h1, ⟨m, x⟩, h3, h4, h5, h6, h7, h8, h9, h10⟩ := h.ex
  obtain ⟨w', ad, cap, hrun, hrow, ht⟩ := row_app h5 t hA
  have hf := h1.turn 2 (ht.wide h6) (fun k hk => hrow.lt hk)
  exact ⟨w', ad, cap, hrun, updO O 2 _, hf.1, ⟨m, by rw [updO_other _ (by decide)]; exact x.keep (hf.2 0 (by decide))⟩, h3.keep fun g hg => hf.2 1 (by decide) g (h4 g hg), fun k hk => by rw [updO_other _ (by decide)]; exact h4 k hk, hrow, fun k hk => by rw [updO_same]; exact hk, h7.same h8 (hf.2 3 (by decide)), fun p hp => by rw [updO_other _ (by decide)]; exact h8 p hp, RowS.keep h9 fun g hg => hf.2 4 (by decide) g (h10 g hg), fun k hk => by rw [updO_other _ (by decide)]; exact h10 k hk⟩
/-- 'there[a] = 0'. -/
theorem ON.setB {g n cap : Nat} (h : ON w0 w b now last T av (.slice (some ⟨g, 0, none⟩) n cap) A B P gv G) {a : Nat} (ha : a < B.length) : ON w0 (w.setCell ⟨g, a, none⟩ (.int .i64 0)) b now last T av (.slice (some ⟨g, 0, none⟩) n cap) A (B.set a 0) P gv G := by
  obtain ⟨O, h1, ⟨m, x⟩, h3, h4, h5, h6, h7, h8, h9, h10⟩ := h.ex
  obtain ⟨_, hr⟩ := h5.setI ha 0
  have hg : O 2 g := h6 g rfl
  have ht : Turned (O 2) w (O 2) (w.setCell ⟨g, a, none⟩ (.int .i64 0)) := ⟨Only.of_but (But.setCell g w a _) hg, fun k hk => Or.inl hk⟩
  have hf := h1.turn 2 ht (fun k hk => by have := h1.lt 2 k hk; simpa [World.setCell] using this)
  exact ⟨updO O 2 _, hf.1, ⟨m, by rw [updO_other _ (by decide)]; exact x.keep (hf.2 0 (by decide))⟩, h3.keep fun g hg => hf.2 1 (by decide) g (h4 g hg), fun k hk => by rw [updO_other _ (by decide)]; exact h4 k hk, hr, fun k hk => by rw [updO_same]; exact h6 k hk, h7.same h8 (hf.2 3 (by decide)), fun p hp => by rw [updO_other _ (by decide)]; exact h8 p hp, RowS.keep h9 fun g hg => hf.2 4 (by decide) g (h10 g hg), fun k hk => by rw [updO_other _ (by decide)]; exact h10 k hk⟩
end
end Go.Proofs.Ythgcjocjkeieaaa
