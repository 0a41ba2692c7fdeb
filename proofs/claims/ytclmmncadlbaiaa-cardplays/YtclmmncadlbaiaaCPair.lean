/-
  A card beside the document's: what each call does to both.
-/
import Derived.Test.YtclmmncadlbaiaaCRefR
import Derived.Test.YtclmmncadlbaiaaBOwned
import Derived.Test.YtclmmncadlbaiaaBLent
namespace Go.Proofs.Ytclmmncadlbaiaa
open Go.RowKit
set_option linter.all false

/-- how often something was counted: at most n. -/
def CS.small (S : CS) (n : Nat) : Prop := S.ci ≤ n ∧ S.cd ≤ n ∧ S.co ≤ n
theorem CS.small.mono {S : CS} {n m : Nat} (h : S.small n) (hm : n ≤ m) : S.small m := ⟨Nat.le_trans h.1 hm, Nat.le_trans h.2.1 hm, Nat.le_trans h.2.2 hm⟩
theorem RefTo.same {w : World} {D : Nat → Prop} {x g cr h ct : Nat} {S : CS} (y : RefB w D x g cr h ct S) : RefTo w w D x g cr h ct S := ⟨D, y, fun k hk => Or.inl hk, Only.refl _ _⟩
theorem RefTo.below {w w' : World} {D : Nat → Prop} {x g cr h ct : Nat} {S : CS} (y : RefB w D x g cr h ct S) (hb : Below w.heap.size w w') : RefTo w w' D x g cr h ct S := ⟨D, y.below hb, fun k hk => Or.inl hk, Only.of_below hb⟩
theorem give_two (S : CS) (i : Int) (n : Nat) (hs : S.small n) : ∃ (z : Int) (S' : CS), S'.small n ∧
    (∀ (c g h : Nat) (w : World), CardW w c g h S → Calls Try.prog 17 #[.pointer (some ⟨c, 0, none⟩), .int .i64 i] w fun e w' => e = .returned (.int .i64 z) ∧ CardW w' c g h S' ∧ Only (CardK c g h) w w') ∧
    (∀ (D : Nat → Prop) (x g cr h ct : Nat) (w : World), RefB w D x g cr h ct S → Calls Try.prog 32 #[.pointer (some ⟨x, 0, none⟩), .int .i64 i] w fun e w' => e = .returned (.int .i64 z) ∧ RefTo w w' D x g cr h ct S') := by
  by_cases hi : hasB S.R.length i = true
  · have h2 : 0 ≤ i ∧ i < S.R.length := by simpa [hasB] using hi
    obtain ⟨j, rfl⟩ : ∃ j : Nat, i = j := ⟨i.toNat, by omega⟩
    have hj : j < S.R.length := by omega
    obtain ⟨p, hp⟩ : ∃ p, S.R[j]? = some p := ⟨_, List.getElem?_eq_getElem hj⟩
    cases hb : p.b with
    | true =>
      refine ⟨41, S, hs, fun c g h w x => (give_owner c g h S j p w x hp hb).mono ?_, fun D x g cr h ct w y => (refGive_owner D x g cr h ct S j p w y hp hb).mono ?_⟩
      · rintro e w' ⟨rfl, rfl⟩; exact ⟨rfl, x, Only.refl _ _⟩
      · rintro e w' ⟨rfl, rfl⟩; exact ⟨rfl, RefTo.same y⟩
    | false =>
      exact ⟨0, S.given j, hs, fun c g h w x => give_yes c g h S j p w x hp hb, fun D x g cr h ct w y => refGive_yes D x g cr h ct S j p w y hp hb⟩
  · have h2 : hasB S.R.length i = false := by simpa using hi
    refine ⟨40, S, hs, fun c g h w x => (give_ring c g h S i w x h2).mono ?_, fun D x g cr h ct w y => (refGive_ring D x g cr h ct S i w y h2).mono ?_⟩
    · rintro e w' ⟨rfl, rfl⟩; exact ⟨rfl, x, Only.refl _ _⟩
    · rintro e w' ⟨rfl, rfl⟩; exact ⟨rfl, RefTo.same y⟩
theorem lay_two (S : CS) (i : Int) (zs : List Int) (l n : Nat) (hl : l = zs.length) (hm : l ≤ 140737488351232) (hs : S.small n) : ∃ (z : Int) (S' : CS), S'.small n ∧
    (∀ (c g h : Nat) (a : Option Addr) (cc : Nat) (w : World), CardW w c g h S → Part.ok w ⟨a, cc, zs⟩ → Calls Try.prog 18 #[.pointer (some ⟨c, 0, none⟩), .int .i64 i, .slice a l cc] w fun e w' => e = .returned (.int .i64 z) ∧ CardW w' c g h S' ∧ Only (CardK c g h) w w') ∧
    (∀ (D : Nat → Prop) (x g cr h ct : Nat) (a : Option Addr) (cc : Nat) (w : World), RefB w D x g cr h ct S → Part.ok w ⟨a, cc, zs⟩ → Calls Try.prog 33 #[.pointer (some ⟨x, 0, none⟩), .int .i64 i, .slice a l cc] w fun e w' => e = .returned (.int .i64 z) ∧ RefTo w w' D x g cr h ct S') := by
  by_cases hi : hasB S.T.length i = true
  · by_cases hw : l < 60 ∨ 1514 < l
    · refine ⟨if l < 60 then 5 else 2, S, hs, fun c g h a cc w x ok => ?_, fun D x g cr h ct a cc w y ok => (refLay_len D x g cr h ct S i a l cc w y hi hw (by omega)).mono ?_⟩
      · by_cases h60 : l < 60
        · rw [if_pos h60]
          refine (lay_short c g h S i a l cc w x hi h60).mono ?_
          rintro e w' ⟨rfl, rfl⟩; exact ⟨rfl, x, Only.refl _ _⟩
        · rw [if_neg h60]
          refine (lay_long c g h S i a l cc w x hi (by omega) (by omega)).mono ?_
          rintro e w' ⟨rfl, rfl⟩; exact ⟨rfl, x, Only.refl _ _⟩
      · rintro e w' ⟨rfl, rfl⟩; exact ⟨rfl, RefTo.same y⟩
    · have h2 : 0 ≤ i ∧ i < S.T.length := by simpa [hasB] using hi
      obtain ⟨j, rfl⟩ : ∃ j : Nat, i = j := ⟨i.toNat, by omega⟩
      have hj : j < S.T.length := by omega
      obtain ⟨p, hp⟩ : ∃ p, S.T[j]? = some p := ⟨_, List.getElem?_eq_getElem hj⟩
      cases hb : p.b with
      | true =>
        refine ⟨41, S, hs, fun c g h a cc w x ok => (lay_owner c g h S j p a l cc w x hp hb (by omega) (by omega)).mono ?_, fun D x g cr h ct a cc w y ok => (refLay_owner D x g cr h ct S j p a l cc w y hp hb (by omega) (by omega)).mono ?_⟩
        · rintro e w' ⟨rfl, rfl⟩; exact ⟨rfl, x, Only.refl _ _⟩
        · rintro e w' ⟨rfl, rfl⟩; exact ⟨rfl, RefTo.same y⟩
      | false =>
        subst hl
        exact ⟨0, S.laid j zs, hs, fun c g h a cc w x ok => lay_yes c g h S j p ⟨a, cc, zs⟩ w x ok hp hb (by simp only; omega) (by simp only; omega), fun D x g cr h ct a cc w y ok => refLay_yes D x g cr h ct S j p ⟨a, cc, zs⟩ w y ok hp hb (by simp only; omega) (by simp only; omega)⟩
  · have h2 : hasB S.T.length i = false := by simpa using hi
    refine ⟨40, S, hs, fun c g h a cc w x ok => (lay_ring c g h S i _ w x h2).mono ?_, fun D x g cr h ct a cc w y ok => (refLay_ring D x g cr h ct S i _ w y h2).mono ?_⟩
    · rintro e w' ⟨rfl, rfl⟩; exact ⟨rfl, x, Only.refl _ _⟩
    · rintro e w' ⟨rfl, rfl⟩; exact ⟨rfl, RefTo.same y⟩
theorem arrive_two (S : CS) (zs : List Int) (l n : Nat) (hl : l = zs.length) (hm : l ≤ 140737488351232) (hs : S.small n) (hn : n < 4611686018427387904) (hr : S.nr < S.R.length) : ∃ (z : Bool) (S' : CS), S'.small (n + 1) ∧
    (∀ (c g h : Nat) (a : Option Addr) (cc : Nat) (w : World), CardW w c g h S → Part.ok w ⟨a, cc, zs⟩ → Calls Try.prog 15 #[.pointer (some ⟨c, 0, none⟩), .slice a l cc] w fun e w' => e = .returned (.bool z) ∧ CardW w' c g h S' ∧ Only (CardK c g h) w w') ∧
    (∀ (D : Nat → Prop) (x g cr h ct : Nat) (a : Option Addr) (cc : Nat) (w : World), RefB w D x g cr h ct S → Part.ok w ⟨a, cc, zs⟩ → Calls Try.prog 24 #[.pointer (some ⟨x, 0, none⟩), .slice a l cc] w fun e w' => e = .returned (.bool z) ∧ RefTo w w' D x g cr h ct S') := by
  by_cases hw : l = 0 ∨ 1514 < l
  · refine ⟨false, S, hs.mono (by omega), fun c g h a cc w x ok => (arrive_len _ a l cc w hw (by omega)).mono ?_, fun D x g cr h ct a cc w y ok => (refArrive_len _ a l cc w hw (by omega)).mono ?_⟩
    · rintro e w' ⟨rfl, rfl⟩; exact ⟨rfl, x, Only.refl _ _⟩
    · rintro e w' ⟨rfl, rfl⟩; exact ⟨rfl, RefTo.same y⟩
  · obtain ⟨p, hp⟩ : ∃ p, S.R[S.nr]? = some p := ⟨_, List.getElem?_eq_getElem hr⟩
    have h1 := hs.1
    have h2 := hs.2.1
    have h3 := hs.2.2
    cases hb : p.b with
    | false =>
      exact ⟨false, S.drop, ⟨by simp only [CS.drop]; omega, by simp only [CS.drop]; omega, by simp only [CS.drop]; omega⟩, fun c g h a cc w x ok => arrive_full c g h S p a l cc w x (by omega) (by omega) hp hb (by omega), fun D x g cr h ct a cc w y ok => refArrive_full D x g cr h ct S p a l cc w y (by omega) (by omega) hp hb (by omega)⟩
    | true =>
      subst hl
      exact ⟨true, S.came zs, ⟨by simp only [CS.came]; omega, by simp only [CS.came]; omega, by simp only [CS.came]; omega⟩, fun c g h a cc w x ok => arrive_yes c g h S p ⟨a, cc, zs⟩ w x ok (by simp only; omega) (by simp only; omega) hp hb (by omega), fun D x g cr h ct a cc w y ok => refArrive_yes D x g cr h ct S p ⟨a, cc, zs⟩ w y ok (by simp only; omega) (by simp only; omega) hp hb (by omega)⟩
theorem plOk {w : World} {g : Nat} {ps : List Pl} {j : Nat} {p : Pl} (h : RingAt w g ps) (hp : ps[j]? = some p) : p.ok := by
  obtain ⟨C, _, _, h3⟩ := h
  exact (h3 _ _ hp).2.2.2
/-- bytes in new memory, or none. -/
def NewRow (K : Nat → Prop) (w w' : World) (a : Option Addr) (l c : Nat) (zs : List Int) : Prop := l = zs.length ∧ Row w' 5 (.slice a l c) (u8s zs) ∧ (∀ b, (Value.slice a l c).ownBlock = some b → w.heap.size ≤ b) ∧ zs.length ≤ 1514 ∧ (∀ z, z ∈ zs → 0 ≤ z ∧ z ≤ 255) ∧ Only K w w'
theorem NewRow.nil {K : Nat → Prop} {w w' : World} (h : Only K w w') : NewRow K w w' none 0 0 [] := ⟨rfl, Row.nil _ _, by simp [Value.ownBlock], by simp, by simp, h⟩
theorem NewRow.of {K : Nat → Prop} {w w' : World} {g : Nat} {zs : List Int} (h1 : w.heap.size ≤ g) (h2 : w'.heap[g]? = some (.cells (u8s zs).toArray 5 (0, 0))) (h3 : zs.length ≤ 1514) (hz : ∀ z, z ∈ zs → 0 ≤ z ∧ z ≤ 255) (ho : Only K w w') : NewRow K w w' (some ⟨g, 0, none⟩) zs.length zs.length zs := by
  have := Row.of_heap h2 (by rw [u8s_len]; unfold maxLen; omega)
  rw [u8s_len] at this
  exact ⟨rfl, this, fun b hb => by simp [Value.ownBlock] at hb; omega, h3, hz, ho⟩
theorem depart_two (S : CS) (n : Nat) (hs : S.small n) (hn : n < 4611686018427387904) (hr : S.nt < S.T.length) : ∃ (z : Bool) (zs : List Int) (S' : CS), S'.small (n + 1) ∧
    (∀ (c g h : Nat) (w : World), CardW w c g h S → Calls Try.prog 19 #[.pointer (some ⟨c, 0, none⟩)] w fun e w' => ∃ a l cc, e = .returned (.tuple #[.slice a l cc, .bool z]) ∧ CardW w' c g h S' ∧ NewRow (CardK c g h) w w' a l cc zs) ∧
    (∀ (D : Nat → Prop) (x g cr h ct : Nat) (w : World), RefB w D x g cr h ct S → Calls Try.prog 26 #[.pointer (some ⟨x, 0, none⟩)] w fun e w' => ∃ a l c, e = .returned (.tuple #[.slice a l c, .bool z]) ∧ l = zs.length ∧ Part.ok w' ⟨a, c, zs⟩ ∧ RefTo w w' D x g cr h ct S') := by
  obtain ⟨p, hp⟩ : ∃ p, S.T[S.nt]? = some p := ⟨_, List.getElem?_eq_getElem hr⟩
  have h1 := hs.1
  have h2 := hs.2.1
  have h3 := hs.2.2
  cases hb : p.b with
  | false =>
    refine ⟨false, [], S, hs.mono (by omega), fun c g h w x => (depart_no c g h S p w x hp hb).mono ?_, fun D x g cr h ct w y => (refDepart_no D x g cr h ct S p w y hp hb).mono ?_⟩
    · rintro e w' ⟨rfl, hb'⟩; exact ⟨none, 0, 0, rfl, x.below hb', NewRow.nil (Only.of_below hb')⟩
    · rintro e w' ⟨rfl, hb'⟩; exact ⟨none, 0, 0, rfl, rfl, Part.nil_ok _, RefTo.below y hb'⟩
  | true =>
    refine ⟨true, p.zs, S.gone, ⟨by simp only [CS.gone]; omega, by simp only [CS.gone]; omega, by simp only [CS.gone]; omega⟩, fun c g h w x => (depart_yes c g h S p w x hp hb (by omega)).mono ?_, fun D x g cr h ct w y => (refDepart_yes D x g cr h ct S p w y hp hb (by omega)).mono ?_⟩
    · rintro e w' ⟨v, rfl, hx, g', rfl, h4, h5, h6⟩
      have hpo := plOk x.tx hp
      exact ⟨_, _, _, rfl, hx, NewRow.of h4 h5 hpo.1 hpo.2 h6⟩
    · rintro e w' ⟨a, c, rfl, h4, h5⟩; exact ⟨a, _, c, rfl, rfl, h4, h5⟩
/-- what Rx and Tx tell, at both. -/
theorem show_two (ps : List Pl) (i : Int) : ∃ (b : Bool) (zs : List Int) (n : Int),
    (∀ (w w' : World) (e : Ending), (∀ (j : Nat) (p : Pl), ps[j]? = some p → p.ok) → shownE ps i w e w' → ∃ a l c, e = .returned (.tuple #[.agg #[.bool b, .slice a l c], .int .i64 n]) ∧ NewRow (fun _ => False) w w' a l c zs) ∧
    (∀ (w w' : World) (e : Ending), refShownE ps i w e w' → ∃ a l c, e = .returned (.tuple #[.agg #[.bool b, .slice a l c], .int .i64 n]) ∧ l = zs.length ∧ (∀ k, (Value.slice a l c).ownBlock = some k → w.heap.size ≤ k) ∧ Part.ok w' ⟨a, c, zs⟩ ∧ Below w.heap.size w w') := by
  by_cases hi : hasB ps.length i = true
  · have h2 : 0 ≤ i ∧ i < ps.length := by simpa [hasB] using hi
    obtain ⟨j, rfl⟩ : ∃ j : Nat, i = j := ⟨i.toNat, by omega⟩
    have hj : j < ps.length := by omega
    obtain ⟨p, hp⟩ : ∃ p, ps[j]? = some p := ⟨_, List.getElem?_eq_getElem hj⟩
    refine ⟨p.b, p.zs, 0, ?_, ?_⟩
    · rintro w w' e hpo ⟨b, a, l, c, n, rfl, h | h⟩
      · obtain ⟨j', p', hj', hp', rfl, rfl, g, hv, h3, h4, h5⟩ := h
        have : j' = j := by omega
        subst this
        rw [hp] at hp'
        simp only [Option.some.injEq] at hp'
        subst hp'
        rw [hv]
        exact ⟨_, _, _, rfl, NewRow.of h3 h4 (hpo _ _ hp).1 (hpo _ _ hp).2 (Only.of_below h5)⟩
      · rw [hi] at h; exact absurd h.1 (by simp)
    · rintro w w' e ⟨b, a, l, c, n, rfl, h | h⟩
      · obtain ⟨j', p', hj', hp', rfl, rfl, h3, h4, h7, h5, h6⟩ := h
        have : j' = j := by omega
        subst this
        rw [hp] at hp'
        simp only [Option.some.injEq] at hp'
        subst hp'
        exact ⟨a, l, c, rfl, h3, h7, h5, h6⟩
      · rw [hi] at h; exact absurd h.1 (by simp)
  · refine ⟨false, [], 40, ?_, ?_⟩
    · rintro w w' e hpo ⟨b, a, l, c, n, rfl, h | h⟩
      · obtain ⟨j', p', rfl, hp', _⟩ := h
        have := (List.getElem?_eq_some_iff.1 hp').1
        exact absurd (by simp [hasB]; omega) hi
      · obtain ⟨_, rfl, hv, rfl, hb⟩ := h
        rw [hv]
        exact ⟨none, 0, 0, rfl, NewRow.nil (Only.of_below hb)⟩
    · rintro w w' e ⟨b, a, l, c, n, rfl, h | h⟩
      · obtain ⟨j', p', rfl, hp', _⟩ := h
        have := (List.getElem?_eq_some_iff.1 hp').1
        exact absurd (by simp [hasB]; omega) hi
      · obtain ⟨_, rfl, rfl, rfl, rfl, rfl, hb⟩ := h
        exact ⟨none, 0, 0, rfl, rfl, by simp [Value.ownBlock], Part.nil_ok _, hb⟩
end Go.Proofs.Ytclmmncadlbaiaa
