/-
  Two wheels beside each other, and a list that grows.
-/
import Derived.Test.YthgcjocjkeieaaaWFam
import Derived.Deep.AppendSrc
namespace Go.Proofs.Ythgcjocjkeieaaa
open Go.RowKit
set_option linter.all false

theorem cellsF_append (L F : List Tm) : cellsF (L ++ F) = cellsF L ++ cellsF F := by simp [cellsF]
theorem cellsF_one (F : List Tm) : ∀ u ∈ cellsF F, u.oneCell' = true := fun u hu => by
  obtain ⟨x, _, hx⟩ := List.mem_flatMap.1 hu
  simp [tmC] at hx
  rcases hx with rfl | rfl | rfl <;> rfl
/-- 'append(l, m...)'. -/
theorem append_f {w : World} {lv mv : Value} {L F : List Tm} (h : RowF w lv L) (k : RowF w mv F) (hl : L.length + F.length ≤ 1048576) :
    ∃ ad cap w', (Builtin.append_ #[41, 41] 41 #[lv, mv]).run Try.prog w = .ok (.slice ad (L ++ F).length cap) w' ∧ RowF w' (.slice ad (L ++ F).length cap) (L ++ F) ∧ w.grownBy w' lv.ownBlock ∧ ∀ g, (Value.slice ad (L ++ F).length cap).ownBlock = some g → lv.ownBlock = some g ∨ w.heap.size ≤ g := by
  obtain ⟨i, hi, hz0, hz1, hz2⟩ := info_sz infoF
  have hml : 1048577 ≤ maxLen := by unfold maxLen; omega
  rcases k.2 with ⟨rfl, h0⟩ | ⟨g, cap, cur, rfl, _, hg, hn, hm, hs, ht⟩
  · have hF : F = [] := List.eq_nil_of_length_eq_zero h0
    subst hF
    rw [List.append_nil]
    obtain ⟨ad, cap, rfl, _⟩ := RowS.form h
    have hle : L.length ≤ cap := by
      rcases h.2 with ⟨h1, h2⟩ | ⟨g, c2, cur, h1, _, _, h2, _⟩
      · omega
      · simp only [Value.slice.injEq] at h1; omega
    exact ⟨ad, cap, w, run_append_nothing w _ _ _ _ i Try.underlying41 hi ad L.length cap hle _ (Src.ofNil w Try.underlying41 0), h, grown_refl _ _, fun g hg => Or.inl hg⟩
  · obtain ⟨v', w', hrun, hrow, hgr, hown⟩ := append_s 41 41 44 _ 3 24 Try.underlying41 infoF rfl (by decide) h ⟨g, 0, none⟩ F.length cap (cellsF F) (cellsF_len F) (fun j u hj => by
      rw [show (⟨g, 0, none⟩ : Addr).add j = ⟨g, j, none⟩ from by unfold Addr.add; split <;> simp_all]
      exact RowS.cell k hj) (cellsF_one F) (by omega) (by omega)
    rw [← cellsF_append, ← List.length_append] at hrow
    obtain ⟨ad, c2, rfl, _⟩ := RowS.form hrow
    exact ⟨ad, c2, w', hrun, hrow, hgr, hown⟩

/-! ### A wheel that owner i has -/
structure FaI (w0 : World) (O : Nat → Nat → Prop) (i : Nat) (w w' : World) (b : Nat) (now last : Int) (T : List Tm) (K : Nat → Prop) : Prop where
  fam : Fam w0 w' (updO O i K)
  wa : ∃ m, WA w' b m now last T K
  keep : ∀ j, j ≠ i → ∀ k, O j k → w'.heap[k]? = w.heap[k]?
theorem fa_arm {w0 w : World} {O : Nat → Nat → Prop} (f : Fam w0 w O) (i : Nat) {b m : Nat} {now last : Int} {T : List Tm} (x : WA w b m now last T (O i)) (hl : last < 9223372036854775807) (t tag : Int) :
    Calls Try.prog 12 #[.pointer (some ⟨b, 0, none⟩), .int .i64 t, .int .i64 tag] w fun e w' => e = .returned (.tuple #[.int .i64 (armN T last), .int .i64 (armE T)]) ∧ ∃ K', Hid (FaI w0 O i w w' b now (armL T last) (armT T now last t tag) K') := by
  refine (wa_arm b m now last T (O i) t tag hl w x).mono ?_
  rintro e w' ⟨rfl, K', H⟩
  have h := f.turn i H.out.2 (fun k hk => H.out.1.lt hk)
  exact ⟨rfl, K', h.1, ⟨m, H.out.1⟩, h.2⟩
theorem fa_cancel {w0 w : World} {O : Nat → Nat → Prop} (f : Fam w0 w O) (i : Nat) {b m : Nat} {now last : Int} {T : List Tm} (x : WA w b m now last T (O i)) (hl : last ≤ 9223372036854775807) (a : Int) (ha : fits a) :
    Calls Try.prog 13 #[.pointer (some ⟨b, 0, none⟩), .int .i64 a] w fun e w' => e = .returned (.bool (hasT T a)) ∧ ∃ K', Hid (FaI w0 O i w w' b now last (del T a) K') := by
  refine (wa_cancel b m now last T (O i) a ha hl w x).mono ?_
  rintro e w' ⟨rfl, K', H⟩
  have h := f.turn i H.out.2 (fun k hk => H.out.1.lt hk)
  exact ⟨rfl, K', h.1, ⟨m, H.out.1⟩, h.2⟩
/-- .. an Advance: the list is nobody's yet. -/
structure FaA (w0 : World) (O : Nat → Nat → Prop) (i : Nat) (w w' : World) (b : Nat) (e last : Int) (T0 : List Tm) (v : Value) (F T : List Tm) (K : Nat → Prop) : Prop where
  fa : FaI w0 O i w w' b e last T K
  fired : Fired T0 e F T
  row : RowF w' v F
  new : ∀ g, v.ownBlock = some g → w0.heap.size ≤ g ∧ ∀ j, ¬ updO O i K j g
theorem fa_advance {w0 w : World} {O : Nat → Nat → Prop} (f : Fam w0 w O) (i : Nat) {b m : Nat} {now last : Int} {T0 : List Tm} (x : WA w b m now last T0 (O i)) (hl : last ≤ 9223372036854775807) (t : Int) :
    Calls Try.prog 14 #[.pointer (some ⟨b, 0, none⟩), .int .i64 t] w fun en w' => ∃ ad cap F, en = .returned (.slice ad F.length cap) ∧ ∃ T K', Hid (FaA w0 O i w w' b (cnt now t) last T0 (.slice ad F.length cap) F T K') := by
  refine (wa_advance b m now last T0 (O i) t hl w x).mono ?_
  rintro e w' ⟨ad, cap, F, rfl, T, K', H⟩
  have h := f.turn i H.out.turned (fun k hk => H.out.wa.lt hk)
  refine ⟨ad, cap, F, rfl, T, K', ⟨h.1, ⟨m, H.out.wa⟩, h.2⟩, H.out.fired, H.out.row, fun g hg => ?_⟩
  obtain ⟨h1, h2⟩ := H.out.new g hg
  refine ⟨by have := f.below.size; omega, fun j hj => ?_⟩
  by_cases e : j = i
  · subst e; rw [updO_same] at hj; exact h2 hj
  · rw [updO_other _ e] at hj
    have := f.lt j g hj
    omega
theorem Fired.len {T0 F T : List Tm} {e : Int} (h : Fired T0 e F T) (hr : Rising T0) : F.length ≤ T0.length := by
  have hn : F.map Tm.id |>.Nodup := by
    rw [List.Nodup, List.pairwise_map]
    refine h.sort.imp_of_mem fun {a b} ha hb hab e => ?_
    have := hr.one ((h.mem a).1 ha).1 ((h.mem b).1 hb).1 e
    subst this
    exact tlt_irrefl _ hab
  have := nodup_len (F.map Tm.id) (T0.map Tm.id) hn (fun a ha => by
    obtain ⟨x, hx, rfl⟩ := List.mem_map.1 ha
    exact List.mem_map.2 ⟨x, ((h.mem x).1 hx).1, rfl⟩)
  simpa using this
/-- two wheels, of owners 0 and 1. -/
structure Two (w0 w : World) (O : Nat → Nat → Prop) (b1 b2 : Nat) (n1 l1 : Int) (T1 : List Tm) (n2 l2 : Int) (T2 : List Tm) : Prop where
  fam : Fam w0 w O
  a : ∃ m, WA w b1 m n1 l1 T1 (O 0)
  b : ∃ m, WA w b2 m n2 l2 T2 (O 1)
theorem Two.pass {w0 w w' : World} {O : Nat → Nat → Prop} {b1 b2 : Nat} {n1 l1 : Int} {T1 : List Tm} {n2 l2 : Int} {T2 : List Tm} (h : Two w0 w O b1 b2 n1 l1 T1 n2 l2 T2) (hb : Below w.heap.size w w') : Two w0 w' O b1 b2 n1 l1 T1 n2 l2 T2 := by
  obtain ⟨m1, x1⟩ := h.a
  obtain ⟨m2, x2⟩ := h.b
  exact ⟨(h.fam.pass hb).1, ⟨m1, x1.below hb⟩, ⟨m2, x2.below hb⟩⟩
theorem Two.of1 {w0 w w' : World} {O : Nat → Nat → Prop} {b1 b2 : Nat} {n1 l1 : Int} {T1 : List Tm} {n2 l2 : Int} {T2 : List Tm} (h : Two w0 w O b1 b2 n1 l1 T1 n2 l2 T2) {n l : Int} {T : List Tm} {K : Nat → Prop} (f : FaI w0 O 0 w w' b1 n l T K) : Two w0 w' (updO O 0 K) b1 b2 n l T n2 l2 T2 := by
  obtain ⟨m2, x2⟩ := h.b
  refine ⟨f.fam, by rw [updO_same]; exact f.wa, ⟨m2, ?_⟩⟩
  rw [updO_other _ (by decide)]
  exact x2.keep (f.keep 1 (by decide))
theorem Two.of2 {w0 w w' : World} {O : Nat → Nat → Prop} {b1 b2 : Nat} {n1 l1 : Int} {T1 : List Tm} {n2 l2 : Int} {T2 : List Tm} (h : Two w0 w O b1 b2 n1 l1 T1 n2 l2 T2) {n l : Int} {T : List Tm} {K : Nat → Prop} (f : FaI w0 O 1 w w' b2 n l T K) : Two w0 w' (updO O 1 K) b1 b2 n1 l1 T1 n l T := by
  obtain ⟨m1, x1⟩ := h.a
  refine ⟨f.fam, ⟨m1, ?_⟩, by rw [updO_same]; exact f.wa⟩
  rw [updO_other _ (by decide)]
  exact x1.keep (f.keep 0 (by decide))
/-- owner 2 or more has turned. -/
theorem Two.of3 {w0 w w' : World} {O : Nat → Nat → Prop} {b1 b2 : Nat} {n1 l1 : Int} {T1 : List Tm} {n2 l2 : Int} {T2 : List Tm} (h : Two w0 w O b1 b2 n1 l1 T1 n2 l2 T2) {i : Nat} (hi : 2 ≤ i) {K : Nat → Prop} (f : Fam w0 w' (updO O i K)) (hk : ∀ j, j ≠ i → ∀ k, O j k → w'.heap[k]? = w.heap[k]?) : Two w0 w' (updO O i K) b1 b2 n1 l1 T1 n2 l2 T2 := by
  obtain ⟨m1, x1⟩ := h.a
  obtain ⟨m2, x2⟩ := h.b
  refine ⟨f, ⟨m1, ?_⟩, ⟨m2, ?_⟩⟩
  · rw [updO_other _ (by omega)]; exact x1.keep (hk 0 (by omega))
  · rw [updO_other _ (by omega)]; exact x2.keep (hk 1 (by omega))
end Go.Proofs.Ythgcjocjkeieaaa
