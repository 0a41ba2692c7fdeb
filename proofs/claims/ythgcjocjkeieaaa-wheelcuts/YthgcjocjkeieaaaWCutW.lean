/-
  WheelCuts, walked.
-/
import Derived.Test.YthgcjocjkeieaaaWTG
import Derived.Test.YthgcjocjkeieaaaWOpen
namespace Go.Proofs.Ythgcjocjkeieaaa
open Go.RowKit
set_option linter.all false

theorem Fired.comp {T F1 T1 F2 T2 : List Tm} {e1 e2 : Int} (h : Fired T e1 F1 T1) (k : Fired T1 e2 F2 T2) (he : e1 ≤ e2) : Fired T e2 (F1 ++ F2) T2 := by
  have hm1 : ∀ x, x ∈ T1 ↔ x ∈ T ∧ e1 < x.t := fun x => by rw [h.left]; simp
  refine ⟨fun x => ?_, ?_, ?_⟩
  · rw [List.mem_append, h.mem, k.mem, hm1]
    constructor
    · rintro (⟨h1, h2⟩ | ⟨⟨h1, _⟩, h2⟩)
      · exact ⟨h1, by omega⟩
      · exact ⟨h1, h2⟩
    · rintro ⟨h1, h2⟩
      by_cases h3 : x.t ≤ e1
      · exact Or.inl ⟨h1, h3⟩
      · exact Or.inr ⟨⟨h1, by omega⟩, h2⟩
  · rw [List.pairwise_append]
    refine ⟨h.sort, k.sort, fun a ha b hb => Or.inl ?_⟩
    have h1 := ((h.mem a).1 ha).2
    have h2 := ((hm1 b).1 ((k.mem b).1 hb).1).2
    omega
  · rw [k.left, h.left, List.filter_filter]
    apply List.filter_congr
    intro x _
    rw [Bool.eq_iff_iff]
    simp only [Bool.and_eq_true, decide_eq_true_eq]
    omega
theorem Fired.none {T : List Tm} {n : Int} (h : ∀ x ∈ T, n < x.t) : Fired T n [] T := by
  refine ⟨fun x => ⟨fun hx => by simp at hx, fun ⟨h1, h2⟩ => by have := h x h1; omega⟩, List.Pairwise.nil, ?_⟩
  rw [List.filter_eq_self.2 (fun x hx => by simpa using h x hx)]
/-- a stop at or ahead of the end. -/
theorem cnt_stop {n e s to : Int} (h0 : n ≤ 1125899906842624) (h1 : n ≤ e) (h2 : e ≤ cnt n to) (hs : s ≤ to) : e ≤ cnt e s ∧ cnt e s ≤ cnt n to := by unfold cnt at *; omega
theorem cnt_end {n e to : Int} (h0 : n ≤ 1125899906842624) (h1 : n ≤ e) (h2 : e ≤ cnt n to) : cnt e to = cnt n to := by unfold cnt at *; omega
/-- how it stands between the stops: the second wheel has gone on to e, and L is what it told. -/
structure StI (w0 w : World) (b1 b2 : Nat) (n l : Int) (T : List Tm) (to e : Int) (lv : Value) (L : List Tm) : Prop where
  ex : ∃ T2, TG w0 w b1 b2 n l T e l T2 lv L [] ∧ (L = [] ∧ T2 = T ∧ e = n ∨ Fired T e L T2) ∧ n ≤ e ∧ e ≤ cnt n to
theorem StI.len {w0 w : World} {b1 b2 : Nat} {n l : Int} {T : List Tm} {to e : Int} {lv : Value} {L : List Tm} (h : StI w0 w b1 b2 n l T to e lv L) : L.length + 0 ≤ 1024 ∧ T.length ≤ 1024 ∧ n ≤ 1125899906842624 ∧ Rising T := by
  obtain ⟨T2, hg, hF, _⟩ := h.ex
  obtain ⟨m, K, x⟩ := hg.a
  have hi := x.inv
  refine ⟨?_, x.len, hi.2.1, hi.2.2.1⟩
  rcases hF with ⟨rfl, _⟩ | hF
  · simp
  · have := hF.len hi.2.2.1; have := x.len; omega
/-- one stop more, or the end. -/
theorem StI.go {w0 w : World} {b1 b2 : Nat} {n l : Int} {T : List Tm} {to e : Int} {lv : Value} {L : List Tm} (h : StI w0 w b1 b2 n l T to e lv L) (hl : l ≤ 9223372036854775807) (s : Int) (hs : s ≤ to) :
    Calls Try.prog 14 #[.pointer (some ⟨b2, 0, none⟩), .int .i64 s] w fun en w1 => ∃ (ad : Option Addr) (cap : Nat) (F : List Tm), en = .returned (.slice ad F.length cap) ∧ ∃ (ad2 : Option Addr) (cap2 : Nat) (L2 : List Tm) (w2 : World), (Builtin.append_ #[41, 41] 41 #[lv, .slice ad F.length cap]).run Try.prog w1 = .ok (.slice ad2 L2.length cap2) w2 ∧ Hid (StI w0 w2 b1 b2 n l T to (cnt e s) (.slice ad2 L2.length cap2) L2 ∧ Fired T (cnt e s) L2 (T.filter fun x => decide (cnt e s < x.t))) := by
  obtain ⟨_, hTl, hn, hR⟩ := h.len
  obtain ⟨T2, hg, hF, h1, h2⟩ := h.ex
  have hc := cnt_stop hn h1 h2 hs
  have hcm := (cnt_le (t := s) (now := e) (by unfold cnt at h2; omega))
  refine (hg.adv2 hl s).mono ?_
  rintro en w1 ⟨ad, cap, F, rfl, T', HF, HA⟩
  have hcomp : Fired T (cnt e s) (L ++ F) T' := by
    rcases hF with ⟨rfl, rfl, rfl⟩ | hF
    · exact HF.out
    · exact hF.comp HF.out hc.1
  have hlen := hcomp.len hR
  obtain ⟨ad2, cap2, w2, hrun, hT⟩ := HA.out.append (by rw [← List.length_append]; omega)
  refine ⟨ad, cap, F, rfl, ad2, cap2, L ++ F, w2, hrun, ⟨T', hT, Or.inr hcomp, by omega, hc.2⟩, ?_⟩
  have := hcomp.left
  rw [← this]; exact hcomp
/-- the first wheel goes to the end at once. -/
theorem StI.all {w0 w : World} {b1 b2 : Nat} {n l : Int} {T : List Tm} {to : Int} {lv : Value} {L : List Tm} (h : StI w0 w b1 b2 n l T to (cnt n to) lv L) (hF : Fired T (cnt n to) L (T.filter fun x => decide (cnt n to < x.t))) (hl : l ≤ 9223372036854775807) :
    Calls Try.prog 14 #[.pointer (some ⟨b1, 0, none⟩), .int .i64 to] w fun en w1 => ∃ ad cap, en = .returned (.slice ad L.length cap) ∧ ∃ S, Hid (TA w0 w1 b1 b2 (cnt n to) l S (cnt n to) l S lv L [] (.slice ad L.length cap) L) := by
  obtain ⟨T2, hg, hF2, _⟩ := h.ex
  refine (hg.adv1 hl to).mono ?_
  rintro en w1 ⟨ad, cap, F, rfl, S, HF, HA⟩
  obtain ⟨e1, e2⟩ := HF.out.eq hF
  have e3 : T2 = S := by
    rcases hF2 with ⟨rfl, rfl, e⟩ | hF2
    · rw [e2]
      have := hF.mem
      symm
      refine List.filter_eq_self.2 fun x hx => ?_
      rcases Int.lt_or_le (cnt n to) x.t with h3 | h3
      · simpa using h3
      · exact absurd ((this x).2 ⟨hx, h3⟩) (by simp)
    · rw [hF2.left, e2]
  subst e1
  subst e3
  exact ⟨ad, cap, rfl, _, HA.out⟩
end Go.Proofs.Ythgcjocjkeieaaa
