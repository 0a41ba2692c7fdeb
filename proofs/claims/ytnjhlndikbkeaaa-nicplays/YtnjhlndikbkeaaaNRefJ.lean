import Derived.Test.YtnjhlndikbkeaaaCRefR
import Derived.Test.YtnjhlndikbkeaaaBOwned
import Derived.Test.YtnjhlndikbkeaaaBLent
import Derived.Test.YtnjhlndikbkeaaaNNew
import Derived.Test.YtnjhlndikbkeaaaFMineW
import Derived.Deep.RegionHeld3
/-
  A card beside the document's: what each call does to both.
-/
namespace Go.Proofs.Ytnjhlndikbkeaaa
open Go.RowKit
set_option linter.all false

/-- how often something was counted: at most n. -/
def CS.small (S : CS) (n : Nat) : Prop := S.ci ≤ n ∧ S.cd ≤ n ∧ S.co ≤ n
theorem CS.small.mono {S : CS} {n m : Nat} (h : S.small n) (hm : n ≤ m) : S.small m := ⟨Nat.le_trans h.1 hm, Nat.le_trans h.2.1 hm, Nat.le_trans h.2.2 hm⟩
theorem RefTo.same {w : World} {D : Nat → Prop} {x g cr h ct : Nat} {S : CS} (y : RefB w D x g cr h ct S) : RefTo w w D x g cr h ct S := ⟨D, y, fun k hk => Or.inl hk, Only.refl _ _⟩
theorem RefTo.below {w w' : World} {D : Nat → Prop} {x g cr h ct : Nat} {S : CS} (y : RefB w D x g cr h ct S) (hb : Below w.heap.size w w') : RefTo w w' D x g cr h ct S := ⟨D, y.below hb, fun k hk => Or.inl hk, Only.of_below hb⟩
theorem give_two (S : CS) (i : Int) (n : Nat) (hs : S.small n) : ∃ (z : Int) (S' : CS), S'.small n ∧
    (∀ (c g h : Nat) (w : World), CardW w c g h S → Calls Try.prog 49 #[.pointer (some ⟨c, 0, none⟩), .int .i64 i] w fun e w' => e = .returned (.int .i64 z) ∧ CardW w' c g h S' ∧ Only (CardK c g h) w w') ∧
    (∀ (D : Nat → Prop) (x g cr h ct : Nat) (w : World), RefB w D x g cr h ct S → Calls Try.prog 54 #[.pointer (some ⟨x, 0, none⟩), .int .i64 i] w fun e w' => e = .returned (.int .i64 z) ∧ RefTo w w' D x g cr h ct S') := by
  by_cases hi : hasB S.R.length i = true
  · have h2 : 0 ≤ i ∧ i < S.R.length := by simpa [hasB] using hi
    obtain ⟨j, rfl⟩ : ∃ j : Nat, i = j := ⟨i.toNat, by omega⟩
    have hj : j < S.R.length := by omega
    obtain ⟨p, hp⟩ : ∃ p, S.R[j]? = some p := ⟨_, List.getElem?_eq_getElem hj⟩
    cases hb : p.b with
    | true =>
      refine ⟨41, S, hs, fun c g h w x => (give_owner c g h S j p w x hp hb).mono ?_, fun D x g cr h ct w y => (refGive_owner D x g cr h ct S j p w y hp hb).mono ?_⟩
      · rintro e w' ⟨rfl, rfl⟩; exact ⟨rfl, x, Only.refl _ _⟩
      · rintro e w' ⟨rfl, rfl⟩; exact ⟨rfl, RefTo.same y⟩
    | false =>
      exact ⟨0, S.given j, hs, fun c g h w x => give_yes c g h S j p w x hp hb, fun D x g cr h ct w y => refGive_yes D x g cr h ct S j p w y hp hb⟩
  · have h2 : hasB S.R.length i = false := by simpa using hi
    refine ⟨40, S, hs, fun c g h w x => (give_ring c g h S i w x h2).mono ?_, fun D x g cr h ct w y => (refGive_ring D x g cr h ct S i w y h2).mono ?_⟩
    · rintro e w' ⟨rfl, rfl⟩; exact ⟨rfl, x, Only.refl _ _⟩
    · rintro e w' ⟨rfl, rfl⟩; exact ⟨rfl, RefTo.same y⟩
theorem lay_two (S : CS) (i : Int) (zs : List Int) (l n : Nat) (hl : l = zs.length) (hm : l ≤ 140737488351232) (hs : S.small n) : ∃ (z : Int) (S' : CS), S'.small n ∧
    (∀ (c g h : Nat) (a : Option Addr) (cc : Nat) (w : World), CardW w c g h S → Part.ok w ⟨a, cc, zs⟩ → Calls Try.prog 63 #[.pointer (some ⟨c, 0, none⟩), .int .i64 i, .slice a l cc] w fun e w' => e = .returned (.int .i64 z) ∧ CardW w' c g h S' ∧ Only (CardK c g h) w w') ∧
    (∀ (D : Nat → Prop) (x g cr h ct : Nat) (a : Option Addr) (cc : Nat) (w : World), RefB w D x g cr h ct S → Part.ok w ⟨a, cc, zs⟩ → Calls Try.prog 64 #[.pointer (some ⟨x, 0, none⟩), .int .i64 i, .slice a l cc] w fun e w' => e = .returned (.int .i64 z) ∧ RefTo w w' D x g cr h ct S') := by
  by_cases hi : hasB S.T.length i = true
  · by_cases hw : l < 60 ∨ 1514 < l
    · refine ⟨if l < 60 then 5 else 2, S, hs, fun c g h a cc w x ok => ?_, fun D x g cr h ct a cc w y ok => (refLay_len D x g cr h ct S i a l cc w y hi hw (by omega)).mono ?_⟩
      · by_cases h60 : l < 60
        · rw [if_pos h60]
          refine (lay_short c g h S i a l cc w x hi h60).mono ?_
          rintro e w' ⟨rfl, rfl⟩; exact ⟨rfl, x, Only.refl _ _⟩
        · rw [if_neg h60]
          refine (lay_long c g h S i a l cc w x hi (by omega) (by omega)).mono ?_
          rintro e w' ⟨rfl, rfl⟩; exact ⟨rfl, x, Only.refl _ _⟩
      · rintro e w' ⟨rfl, rfl⟩; exact ⟨rfl, RefTo.same y⟩
    · have h2 : 0 ≤ i ∧ i < S.T.length := by simpa [hasB] using hi
      obtain ⟨j, rfl⟩ : ∃ j : Nat, i = j := ⟨i.toNat, by omega⟩
      have hj : j < S.T.length := by omega
      obtain ⟨p, hp⟩ : ∃ p, S.T[j]? = some p := ⟨_, List.getElem?_eq_getElem hj⟩
      cases hb : p.b with
      | true =>
        refine ⟨41, S, hs, fun c g h a cc w x ok => (lay_owner c g h S j p a l cc w x hp hb (by omega) (by omega)).mono ?_, fun D x g cr h ct a cc w y ok => (refLay_owner D x g cr h ct S j p a l cc w y hp hb (by omega) (by omega)).mono ?_⟩
        · rintro e w' ⟨rfl, rfl⟩; exact ⟨rfl, x, Only.refl _ _⟩
        · rintro e w' ⟨rfl, rfl⟩; exact ⟨rfl, RefTo.same y⟩
      | false =>
        subst hl
        exact ⟨0, S.laid j zs, hs, fun c g h a cc w x ok => lay_yes c g h S j p ⟨a, cc, zs⟩ w x ok hp hb (by simp only; omega) (by simp only; omega), fun D x g cr h ct a cc w y ok => refLay_yes D x g cr h ct S j p ⟨a, cc, zs⟩ w y ok hp hb (by simp only; omega) (by simp only; omega)⟩
  · have h2 : hasB S.T.length i = false := by simpa using hi
    refine ⟨40, S, hs, fun c g h a cc w x ok => (lay_ring c g h S i _ w x h2).mono ?_, fun D x g cr h ct a cc w y ok => (refLay_ring D x g cr h ct S i _ w y h2).mono ?_⟩
    · rintro e w' ⟨rfl, rfl⟩; exact ⟨rfl, x, Only.refl _ _⟩
    · rintro e w' ⟨rfl, rfl⟩; exact ⟨rfl, RefTo.same y⟩
theorem arrive_two (S : CS) (zs : List Int) (l n : Nat) (hl : l = zs.length) (hm : l ≤ 140737488351232) (hs : S.small n) (hn : n < 4611686018427387904) (hr : S.nr < S.R.length) : ∃ (z : Bool) (S' : CS), S'.small (n + 1) ∧
    (∀ (c g h : Nat) (a : Option Addr) (cc : Nat) (w : World), CardW w c g h S → Part.ok w ⟨a, cc, zs⟩ → Calls Try.prog 14 #[.pointer (some ⟨c, 0, none⟩), .slice a l cc] w fun e w' => e = .returned (.bool z) ∧ CardW w' c g h S' ∧ Only (CardK c g h) w w') ∧
    (∀ (D : Nat → Prop) (x g cr h ct : Nat) (a : Option Addr) (cc : Nat) (w : World), RefB w D x g cr h ct S → Part.ok w ⟨a, cc, zs⟩ → Calls Try.prog 26 #[.pointer (some ⟨x, 0, none⟩), .slice a l cc] w fun e w' => e = .returned (.bool z) ∧ RefTo w w' D x g cr h ct S') := by
  by_cases hw : l = 0 ∨ 1514 < l
  · refine ⟨false, S, hs.mono (by omega), fun c g h a cc w x ok => (arrive_len _ a l cc w hw (by omega)).mono ?_, fun D x g cr h ct a cc w y ok => (refArrive_len _ a l cc w hw (by omega)).mono ?_⟩
    · rintro e w' ⟨rfl, rfl⟩; exact ⟨rfl, x, Only.refl _ _⟩
    · rintro e w' ⟨rfl, rfl⟩; exact ⟨rfl, RefTo.same y⟩
  · obtain ⟨p, hp⟩ : ∃ p, S.R[S.nr]? = some p := ⟨_, List.getElem?_eq_getElem hr⟩
    have h1 := hs.1
    have h2 := hs.2.1
    have h3 := hs.2.2
    cases hb : p.b with
    | false =>
      exact ⟨false, S.drop, ⟨by simp only [CS.drop]; omega, by simp only [CS.drop]; omega, by simp only [CS.drop]; omega⟩, fun c g h a cc w x ok => arrive_full c g h S p a l cc w x (by omega) (by omega) hp hb (by omega), fun D x g cr h ct a cc w y ok => refArrive_full D x g cr h ct S p a l cc w y (by omega) (by omega) hp hb (by omega)⟩
    | true =>
      subst hl
      exact ⟨true, S.came zs, ⟨by simp only [CS.came]; omega, by simp only [CS.came]; omega, by simp only [CS.came]; omega⟩, fun c g h a cc w x ok => arrive_yes c g h S p ⟨a, cc, zs⟩ w x ok (by simp only; omega) (by simp only; omega) hp hb (by omega), fun D x g cr h ct a cc w y ok => refArrive_yes D x g cr h ct S p ⟨a, cc, zs⟩ w y ok (by simp only; omega) (by simp only; omega) hp hb (by omega)⟩
theorem plOk {w : World} {g : Nat} {ps : List Pl} {j : Nat} {p : Pl} (h : RingAt w g ps) (hp : ps[j]? = some p) : p.ok := by
  obtain ⟨C, _, _, h3⟩ := h
  exact (h3 _ _ hp).2.2.2
/-- bytes in new memory, or none. -/
def NewRow (K : Nat → Prop) (w w' : World) (a : Option Addr) (l c : Nat) (zs : List Int) : Prop := l = zs.length ∧ Row w' 5 (.slice a l c) (u8s zs) ∧ (∀ b, (Value.slice a l c).ownBlock = some b → w.heap.size ≤ b) ∧ zs.length ≤ 1514 ∧ (∀ z, z ∈ zs → 0 ≤ z ∧ z ≤ 255) ∧ Only K w w'
theorem NewRow.nil {K : Nat → Prop} {w w' : World} (h : Only K w w') : NewRow K w w' none 0 0 [] := ⟨rfl, Row.nil _ _, by simp [Value.ownBlock], by simp, by simp, h⟩
theorem NewRow.of {K : Nat → Prop} {w w' : World} {g : Nat} {zs : List Int} (h1 : w.heap.size ≤ g) (h2 : w'.heap[g]? = some (.cells (u8s zs).toArray 5 (0, 0))) (h3 : zs.length ≤ 1514) (hz : ∀ z, z ∈ zs → 0 ≤ z ∧ z ≤ 255) (ho : Only K w w') : NewRow K w w' (some ⟨g, 0, none⟩) zs.length zs.length zs := by
  have := Row.of_heap h2 (by rw [u8s_len]; unfold maxLen; omega)
  rw [u8s_len] at this
  exact ⟨rfl, this, fun b hb => by simp [Value.ownBlock] at hb; omega, h3, hz, ho⟩
theorem depart_two (S : CS) (n : Nat) (hs : S.small n) (hn : n < 4611686018427387904) (hr : S.nt < S.T.length) : ∃ (z : Bool) (zs : List Int) (S' : CS), S'.small (n + 1) ∧
    (∀ (c g h : Nat) (w : World), CardW w c g h S → Calls Try.prog 17 #[.pointer (some ⟨c, 0, none⟩)] w fun e w' => ∃ a l cc, e = .returned (.tuple #[.slice a l cc, .bool z]) ∧ CardW w' c g h S' ∧ NewRow (CardK c g h) w w' a l cc zs) ∧
    (∀ (D : Nat → Prop) (x g cr h ct : Nat) (w : World), RefB w D x g cr h ct S → Calls Try.prog 27 #[.pointer (some ⟨x, 0, none⟩)] w fun e w' => ∃ a l c, e = .returned (.tuple #[.slice a l c, .bool z]) ∧ l = zs.length ∧ Part.ok w' ⟨a, c, zs⟩ ∧ RefTo w w' D x g cr h ct S') := by
  obtain ⟨p, hp⟩ : ∃ p, S.T[S.nt]? = some p := ⟨_, List.getElem?_eq_getElem hr⟩
  have h1 := hs.1
  have h2 := hs.2.1
  have h3 := hs.2.2
  cases hb : p.b with
  | false =>
    refine ⟨false, [], S, hs.mono (by omega), fun c g h w x => (depart_no c g h S p w x hp hb).mono ?_, fun D x g cr h ct w y => (refDepart_no D x g cr h ct S p w y hp hb).mono ?_⟩
    · rintro e w' ⟨rfl, hb'⟩; exact ⟨none, 0, 0, rfl, x.below hb', NewRow.nil (Only.of_below hb')⟩
    · rintro e w' ⟨rfl, hb'⟩; exact ⟨none, 0, 0, rfl, rfl, Part.nil_ok _, RefTo.below y hb'⟩
  | true =>
    refine ⟨true, p.zs, S.gone, ⟨by simp only [CS.gone]; omega, by simp only [CS.gone]; omega, by simp only [CS.gone]; omega⟩, fun c g h w x => (depart_yes c g h S p w x hp hb (by omega)).mono ?_, fun D x g cr h ct w y => (refDepart_yes D x g cr h ct S p w y hp hb (by omega)).mono ?_⟩
    · rintro e w' ⟨v, rfl, hx, g', rfl, h4, h5, h6⟩
      have hpo := plOk x.tx hp
      exact ⟨_, _, _, rfl, hx, NewRow.of h4 h5 hpo.1 hpo.2 h6⟩
    · rintro e w' ⟨a, c, rfl, h4, h5⟩; exact ⟨a, _, c, rfl, rfl, h4, h5⟩
/-- what Rx and Tx tell, at both. -/
theorem show_two (ps : List Pl) (i : Int) : ∃ (b : Bool) (zs : List Int) (n : Int),
    (∀ (w w' : World) (e : Ending), (∀ (j : Nat) (p : Pl), ps[j]? = some p → p.ok) → shownE ps i w e w' → ∃ a l c, e = .returned (.tuple #[.agg #[.bool b, .slice a l c], .int .i64 n]) ∧ NewRow (fun _ => False) w w' a l c zs) ∧
    (∀ (w w' : World) (e : Ending), refShownE ps i w e w' → ∃ a l c, e = .returned (.tuple #[.agg #[.bool b, .slice a l c], .int .i64 n]) ∧ l = zs.length ∧ (∀ k, (Value.slice a l c).ownBlock = some k → w.heap.size ≤ k) ∧ Part.ok w' ⟨a, c, zs⟩ ∧ Below w.heap.size w w') := by
  by_cases hi : hasB ps.length i = true
  · have h2 : 0 ≤ i ∧ i < ps.length := by simpa [hasB] using hi
    obtain ⟨j, rfl⟩ : ∃ j : Nat, i = j := ⟨i.toNat, by omega⟩
    have hj : j < ps.length := by omega
    obtain ⟨p, hp⟩ : ∃ p, ps[j]? = some p := ⟨_, List.getElem?_eq_getElem hj⟩
    refine ⟨p.b, p.zs, 0, ?_, ?_⟩
    · rintro w w' e hpo ⟨b, a, l, c, n, rfl, h | h⟩
      · obtain ⟨j', p', hj', hp', rfl, rfl, g, hv, h3, h4, h5⟩ := h
        have : j' = j := by omega
        subst this
        rw [hp] at hp'
        simp only [Option.some.injEq] at hp'
        subst hp'
        rw [hv]
        exact ⟨_, _, _, rfl, NewRow.of h3 h4 (hpo _ _ hp).1 (hpo _ _ hp).2 (Only.of_below h5)⟩
      · rw [hi] at h; exact absurd h.1 (by simp)
    · rintro w w' e ⟨b, a, l, c, n, rfl, h | h⟩
      · obtain ⟨j', p', hj', hp', rfl, rfl, h3, h4, h7, h5, h6⟩ := h
        have : j' = j := by omega
        subst this
        rw [hp] at hp'
        simp only [Option.some.injEq] at hp'
        subst hp'
        exact ⟨a, l, c, rfl, h3, h7, h5, h6⟩
      · rw [hi] at h; exact absurd h.1 (by simp)
  · refine ⟨false, [], 40, ?_, ?_⟩
    · rintro w w' e hpo ⟨b, a, l, c, n, rfl, h | h⟩
      · obtain ⟨j', p', rfl, hp', _⟩ := h
        have := (List.getElem?_eq_some_iff.1 hp').1
        exact absurd (by simp [hasB]; omega) hi
      · obtain ⟨_, rfl, hv, rfl, hb⟩ := h
        rw [hv]
        exact ⟨none, 0, 0, rfl, NewRow.nil (Only.of_below hb)⟩
    · rintro w w' e ⟨b, a, l, c, n, rfl, h | h⟩
      · obtain ⟨j', p', rfl, hp', _⟩ := h
        have := (List.getElem?_eq_some_iff.1 hp').1
        exact absurd (by simp [hasB]; omega) hi
      · obtain ⟨_, rfl, rfl, rfl, rfl, rfl, hb⟩ := h
        exact ⟨none, 0, 0, rfl, rfl, by simp [Value.ownBlock], Part.nil_ok _, hb⟩
end Go.Proofs.Ytnjhlndikbkeaaa

/-
  The document's driver in memory; New, Stats; Give at the tail, Rx at the tail.
-/
namespace Go.Proofs.Ytnjhlndikbkeaaa
open Go.RowKit
set_option linter.all false

def NS.rbox (N : NS) (own : Mac) (x : Nat) : Array Value := #[.pointer (some ⟨x, 0, none⟩), .int .u8 own.b0, .int .u8 own.b1, .int .u8 own.b2, .int .u8 own.b3, .int .u8 own.b4, .int .u8 own.b5, .int .i64 N.rt, .int .i64 N.tt, .int .i64 N.tk, .int .i64 N.th, .int .i64 N.sn, .int .i64 N.rf]
structure RNicC (w : World) (y : Nat) (own : Mac) (x : Nat) (N : NS) : Prop where
  c0 : w.cell? ⟨y, 0, none⟩ = some (.pointer (some ⟨x, 0, none⟩))
  c1 : w.cell? ⟨y, 1, none⟩ = some (.int .u8 own.b0)
  c2 : w.cell? ⟨y, 2, none⟩ = some (.int .u8 own.b1)
  c3 : w.cell? ⟨y, 3, none⟩ = some (.int .u8 own.b2)
  c4 : w.cell? ⟨y, 4, none⟩ = some (.int .u8 own.b3)
  c5 : w.cell? ⟨y, 5, none⟩ = some (.int .u8 own.b4)
  c6 : w.cell? ⟨y, 6, none⟩ = some (.int .u8 own.b5)
  c7 : w.cell? ⟨y, 7, none⟩ = some (.int .i64 N.rt)
  c8 : w.cell? ⟨y, 8, none⟩ = some (.int .i64 N.tt)
  c9 : w.cell? ⟨y, 9, none⟩ = some (.int .i64 N.tk)
  c10 : w.cell? ⟨y, 10, none⟩ = some (.int .i64 N.th)
  c11 : w.cell? ⟨y, 11, none⟩ = some (.int .i64 N.sn)
  c12 : w.cell? ⟨y, 12, none⟩ = some (.int .i64 N.rf)
  fz : ∀ j, w.frozen? ⟨y, j, none⟩ = false
  lt : y < w.heap.size
theorem rnicC {w : World} {y : Nat} {own : Mac} {x : Nat} {N : NS} (h : w.heap[y]? = some (.cells (N.rbox own x) 90 (0, 0))) : RNicC w y own x N :=
  ⟨cellHeap h 0 rfl, cellHeap h 1 rfl, cellHeap h 2 rfl, cellHeap h 3 rfl, cellHeap h 4 rfl, cellHeap h 5 rfl, cellHeap h 6 rfl, cellHeap h 7 rfl, cellHeap h 8 rfl, cellHeap h 9 rfl, cellHeap h 10 rfl, cellHeap h 11 rfl, cellHeap h 12 rfl, fun j => frozen_of_heap h j, heap_lt h⟩
/-- the document's driver and its card. -/
structure RNicW (w : World) (y : Nat) (own : Mac) (D : Nat → Prop) (x g cr h ct n m : Nat) (S : CS) (N : NS) : Prop where
  box : w.heap[y]? = some (.cells (N.rbox own x) 90 (0, 0))
  ref : RefB w D x g cr h ct S
  yr : ¬ RefK D x g h y
  ln : S.R.length = n
  lm : S.T.length = m
  rt : N.rt < n
  tt : N.tt < m
def RNicK (D : Nat → Prop) (y x g h k : Nat) : Prop := k = y ∨ RefK D x g h k
section
variable {w w' : World} {y : Nat} {own : Mac} {D : Nat → Prop} {x g cr h ct n m : Nat} {S S' : CS} {N N' : NS}
theorem RNicW.lt (r : RNicW w y own D x g cr h ct n m S N) : ∀ k, RNicK D y x g h k → k < w.heap.size := fun k hk => by
  rcases hk with rfl | hk
  · exact heap_lt r.box
  · exact r.ref.lt k hk
theorem RNicW.keep (r : RNicW w y own D x g cr h ct n m S N) (hs : w.heap.size ≤ w'.heap.size) (hk : ∀ k, RNicK D y x g h k → w'.heap[k]? = w.heap[k]?) : RNicW w' y own D x g cr h ct n m S N :=
  ⟨(hk y (Or.inl rfl)).trans r.box, r.ref.keep hs fun k hk' => hk k (Or.inr hk'), r.yr, r.ln, r.lm, r.rt, r.tt⟩
theorem RNicW.below (r : RNicW w y own D x g cr h ct n m S N) (hb : Below w.heap.size w w') : RNicW w' y own D x g cr h ct n m S N := r.keep hb.size fun k hk => hb.block k (r.lt k hk)
theorem RNicW.rtl (r : RNicW w y own D x g cr h ct n m S N) : N.rt < S.R.length := by rw [r.ln]; exact r.rt
/-- its box is written. -/
theorem RNicW.boxTo (r : RNicW w y own D x g cr h ct n m S N) (hb : w'.heap[y]? = some (.cells (N'.rbox own x) 90 (0, 0))) (ho : But y w w') (h1 : N'.rt < n) (h2 : N'.tt < m) : RNicW w' y own D x g cr h ct n m S N' :=
  ⟨hb, r.ref.keep ho.size fun k hk => ho.block k (fun e => r.yr (e ▸ hk)) (r.ref.lt k hk), r.yr, r.ln, r.lm, h1, h2⟩
end
set_option maxRecDepth 20000 in
set_option maxHeartbeats 1000000 in
/-- Give, where it is the driver's: only the ring of descriptors turns. -/
theorem refGive_g (D : Nat → Prop) (x g cr h ct : Nat) (S : CS) (j : Nat) (p : Pl) (w : World) (y : RefB w D x g cr h ct S) (hp : S.R[j]? = some p) (hb : p.b = false) :
    Calls Try.prog 54 #[.pointer (some ⟨x, 0, none⟩), .int .i64 j] w fun e w' => e = .returned (.int .i64 0) ∧ RefB w' D x g cr h ct (S.given j) ∧ But g w w' := by
  have h0 := (rboxC y.box).c0
  have hcb := desc_b y.rx hp
  rw [hb] at hcb
  obtain ⟨pt, hd, _⟩ := desc_d y.rx hp
  have hj : j < S.R.length := (List.getElem?_eq_some_iff.1 hp).1
  have hj2 : (j : Int) < S.R.length := by omega
  have hj3 : ¬ (j : Int) < 0 := by omega
  have HY := hid y
  obtain ⟨C, hC, hsz, hpl⟩ := y.rx
  have hfz := fun q => frozen_of_heap hC q
  have HC := hid hC
  have HSZ := hid hsz
  have HPL := hid hpl
  clear y hp hb hC hsz hpl
  go_enter Try.func54, Try.ntmps54
  go_wp2
  go_ret
  have hg2 := heap_setCell (j := j * 2 + 1) (v := .slice none 0 0) (heap_setCell (j := j * 2) (v := .bool true) HC.out)
  have old : ∀ k, k ≠ g → ((w.setCell ⟨g, j * 2, none⟩ (.bool true)).setCell ⟨g, j * 2 + 1, none⟩ (.slice none 0 0)).heap[k]? = w.heap[k]? := fun k hk => by
    rw [Below.heap_setCell _ _ _ _ (by simpa using hk), Below.heap_setCell _ _ _ _ (by simpa using hk)]
  refine ⟨rfl, ⟨?_, ?_, ?_, by simpa [CS.given] using HY.out.r1, by simpa [CS.given] using HY.out.r2, HY.out.t1, HY.out.t2, HY.out.gh, HY.out.xg, HY.out.xh, ?_⟩, (But.setCell _ _ _ _).trans (But.setCell _ _ _ _)⟩
  · rw [← rbox_given]; exact (old x HY.out.xg).trans HY.out.box
  · exact DescAt.put (pt := Part.nil) HSZ.out HPL.out hj hg2 (fun k hk => ⟨old k (HY.out.dd k hk).2.1, hk⟩) (Part.nil_ok _) (Or.inl rfl) (by simp [Pl.ok, Part.nil])
  · exact HY.out.tx.keep (old h HY.out.gh.symm) (fun k hk => ⟨old k (HY.out.dd k hk).2.1, hk⟩)
  · exact fun k hk => ⟨(HY.out.dd k hk).1, (HY.out.dd k hk).2.1, (HY.out.dd k hk).2.2.1, by have := (HY.out.dd k hk).2.2.2; simpa [World.setCell] using this⟩
/-- Rx at the tail. -/
theorem rrx_tail {w : World} {y : Nat} {own : Mac} {D : Nat → Prop} {x g cr h ct n m : Nat} {S : CS} {N : NS} (r : RNicW w y own D x g cr h ct n m S N) (b : Bool) (zs : List Int) (hp : S.R[N.rt]? = some ⟨b, zs⟩) :
    Calls Try.prog 34 #[.pointer (some ⟨x, 0, none⟩), .int .i64 N.rt] w fun e w' => ∃ a l c, e = .returned (.tuple #[.agg #[.bool b, .slice a l c], .int .i64 0]) ∧ l = zs.length ∧ Part.ok w' ⟨a, c, zs⟩ ∧ Below w.heap.size w w' ∧ Pl.ok ⟨b, zs⟩ ∧ (∀ k, (Value.slice a l c).ownBlock = some k → w.heap.size ≤ k) := by
  refine (refRx_any D x g cr h ct S _ w r.ref).mono ?_
  rintro e w' ⟨b', a, l, c, k, rfl, hs⟩
  rcases hs with ⟨j, p, hj, hp', rfl, rfl, hl, hok, hnk, hpt, hb⟩ | ⟨h1, _⟩
  · have : j = N.rt := by omega
    subst this
    rw [hp] at hp'
    simp only [Option.some.injEq] at hp'
    subst hp'
    exact ⟨a, l, c, rfl, hl, hpt, hb, hok, hnk⟩
  · have := r.rtl
    simp [hasB] at h1
    omega
set_option maxHeartbeats 1000000 in
theorem rnew_no (own : Mac) (w : World) :
    Calls Try.prog 10 #[.pointer none, own.val] w fun e w' => e = .returned (.pointer none) ∧ Below w.heap.size w w' := by
  unfold Mac.val
  go_enter Try.func10, Try.ntmps10
  go_wp2
  go_ret
  exact ⟨rfl, balloc w _⟩
set_option maxHeartbeats 1000000 in
theorem rnew_yes (own : Mac) (D : Nat → Prop) (x g cr h ct n m : Nat) (S : CS) (w : World) (r : RefB w D x g cr h ct S) (hn : S.R.length = n) (hm : S.T.length = m) :
    Calls Try.prog 10 #[.pointer (some ⟨x, 0, none⟩), own.val] w fun e w' => ∃ y, e = .returned (.pointer (some ⟨y, 0, none⟩)) ∧ RNicW w' y own D x g cr h ct n m S NS.new ∧ w.heap.size ≤ y ∧ Below w.heap.size w w' := by
  have HR := hid r
  have h1 := r.r1
  have h2 := r.t1
  clear r
  unfold Mac.val
  go_enter Try.func10, Try.ntmps10
  go_wp2
  go_ret
  have hb : Below w.heap.size w ((w.alloc (.cells #[.int .u8 own.b0, .int .u8 own.b1, .int .u8 own.b2, .int .u8 own.b3, .int .u8 own.b4, .int .u8 own.b5] 24)).alloc (.cells (NS.new.rbox own x) 90)) := bpush (balloc w _) _
  have hbox := heap_new (w.alloc (.cells #[.int .u8 own.b0, .int .u8 own.b1, .int .u8 own.b2, .int .u8 own.b3, .int .u8 own.b4, .int .u8 own.b5] 24)) (.cells (NS.new.rbox own x) 90)
  rw [World.size_alloc] at hbox
  exact ⟨w.heap.size + 1, rfl, ⟨hbox, HR.out.below hb, fun e => by have := HR.out.lt _ e; omega, hn, hm, by simp only [NS.new]; omega, by simp only [NS.new]; omega⟩, by omega, hb⟩
set_option maxHeartbeats 1000000 in
theorem rstats_any {y : Nat} {own : Mac} {D : Nat → Prop} {x g cr h ct n m : Nat} {S : CS} {N : NS} (w : World) (r : RNicW w y own D x g cr h ct n m S N) :
    Calls Try.prog 37 #[.pointer (some ⟨y, 0, none⟩)] w fun e w' => e = .returned (.agg #[.int .i64 N.tk, .int .i64 N.th, .int .i64 N.sn, .int .i64 N.rf]) ∧ Below w.heap.size w w' := by
  have c := rnicC r.box
  have c9 := c.c9
  have c10 := c.c10
  have c11 := c.c11
  have c12 := c.c12
  have hl := c.lt
  clear r c
  go_enter Try.func37, Try.ntmps37
  go_wp2
  exact bodyPost_ret (v := .agg #[.int .i64 N.tk, .int .i64 N.th, .int .i64 N.sn, .int .i64 N.rf]) (by simp [results, Try.results37, go_sem]) rfl ⟨rfl, balloc w _⟩
end Go.Proofs.Ytnjhlndikbkeaaa

/-
  The document's Mine.
-/
namespace Go.Proofs.Ytnjhlndikbkeaaa
open Go.RowKit
set_option linter.all false

theorem mine_start0 (w : World) (A B : Array Value) (t t' : TypeId) : (∀ o, ((w.alloc (.cells A t)).alloc (.cells B t')).cell? ⟨w.heap.size, o, none⟩ = A[o]?) ∧ (∀ o, ((w.alloc (.cells A t)).alloc (.cells B t')).cell? ⟨w.heap.size + 1, o, none⟩ = B[o]?) ∧ Below w.heap.size w ((w.alloc (.cells A t)).alloc (.cells B t')) ∧ w.heap.size + 1 < ((w.alloc (.cells A t)).alloc (.cells B t')).heap.size := by
  have h0 : ((w.alloc (.cells A t)).alloc (.cells B t')).heap[w.heap.size]? = some (.cells A t) := by rw [heap_old _ _ (by simp)]; exact heap_new _ _
  have h1 : ((w.alloc (.cells A t)).alloc (.cells B t')).heap[w.heap.size + 1]? = some (.cells B t') := by have := heap_new (w.alloc (.cells A t)) (.cells B t'); rwa [World.size_alloc] at this
  exact ⟨fun o => cell_of_heap h0 o, fun o => cell_of_heap h1 o, (bpush (bpush (Below.refl _ _) _) _), heap_lt h1⟩

set_option maxRecDepth 20000 in
set_option maxHeartbeats 2000000 in
theorem refMine_any (own d s : Mac) (k : Int) (a : Option Addr) (l c : Nat) (w : World) (ho : own.ok) (hd : d.ok) (hs : s.ok) :
    Calls Try.prog 16 #[own.val, frameV d s k (.slice a l c)] w fun e w' => e = .returned (.bool (mineB own d s)) ∧ Below w.heap.size w w' := by
  have HG : Hid (∀ w, Calls Try.prog 44 #[s.val] w fun e w' => e = .returned (.bool (s.b0 % 2 == 1)) ∧ Below w.heap.size w w') := fun w => refGroup_any s w hs
  have HE : Hid (∀ w, Calls Try.prog 45 #[] w fun e w' => e = .returned everyMac.val ∧ Below w.heap.size w w') := refEveryone_any
  have q1 := mac_eq d own hd ho
  have q2 := mac_eq d everyMac hd every_ok
  have HM : Hid (mineB own d s = (!(s.b0 % 2 == 1) && (decide (d = own) || decide (d = everyMac)))) := rfl
  generalize mineB own d s = R at *
  generalize (s.b0 % 2 == 1) = G at *
  generalize decide (d = own) = E1 at *
  generalize decide (d = everyMac) = E2 at *
  obtain ⟨d0, d1, d2, d3, d4, d5⟩ := d
  obtain ⟨s0, s1, s2, s3, s4, s5⟩ := s
  obtain ⟨o0, o1, o2, o3, o4, o5⟩ := own
  simp only [Mac.val, frameV, everyMac] at *
  clear ho hd hs
  have HM' : Hid (R = (!G && (E1 || E2))) := HM
  clear HM
  cases G <;> cases E1 <;> cases E2
  all_goals
    go_enter Try.func16, Try.ntmps16
    go_wp2_with fail
    refine (HG.out _).mono ?_
    rintro e w1 ⟨rfl, hb1⟩
    have k1 := mine_keep (mine_start0 _ _ _ _ _) hb1
    clear hb1
    go_wp2_with fail
    refine (HE.out _).mono ?_
    rintro e w2 ⟨rfl, hb2⟩
    obtain ⟨hc1, hc2, hb3, hlt⟩ := mine_keep k1 hb2
    have HB := hid hb3
    have hlt0 : w.heap.size < w2.heap.size := by omega
    clear k1 hb2 hb3
    go_wp2
    go_ret
    exact ⟨ret_bool (by rw [HM'.out]; rfl), bpush HB.out _⟩
end Go.Proofs.Ytnjhlndikbkeaaa

/-
  The document's Poll.
-/
namespace Go.Proofs.Ytnjhlndikbkeaaa
open Go.RowKit
set_option linter.all false

theorem cut5 {α β γ δ ε : Type} {G : Prop} {H : α → β → γ → δ → ε → Prop} (P : α → β → γ → δ → ε → Prop) (h1 : (∀ a b c d e, H a b c d e → P a b c d e) → G) (h2 : ∀ a b c d e, H a b c d e → P a b c d e) : G := h1 h2
theorem cut1 {α : Type} {G : Prop} {H : α → Prop} (P : α → Prop) (h1 : (∀ a, H a → P a) → G) (h2 : ∀ a, H a → P a) : G := h1 h2
/-- a descriptor of the document's that was looked at: its box in memory. -/
structure RSawI (wr W : World) (gd : Nat) (b : Bool) (zs : List Int) (a : Option Addr) (l c : Nat) : Prop where
  bel : Below wr.heap.size wr W
  box : W.heap[gd]? = some (.cells #[.bool b, .slice a l c] 80 (0, 0))
  dat : Part.ok W ⟨a, c, zs⟩
  len : l = zs.length
theorem rsaw_a {wr w3 : World} {b : Bool} {zs : List Int} {a : Option Addr} {l c : Nat} (hb : Below wr.heap.size wr w3) (hd : Part.ok w3 ⟨a, c, zs⟩) (hl : l = zs.length) :
    RSawI wr (w3.alloc (.cells #[.bool b, .slice a l c] 80)) w3.heap.size b zs a l c :=
  ⟨bpush hb _, heap_new _ _, Part.ok_below hd (balloc w3 _), hl⟩
theorem rsaw_b {wr w3 : World} {b : Bool} {zs : List Int} {a : Option Addr} {l c : Nat} (hb : Below wr.heap.size wr w3) (hd : Part.ok w3 ⟨a, c, zs⟩) (hl : l = zs.length) (hg : w3.heap[wr.heap.size]? = some (.cells #[.bool false, .slice none 0 0] 80 (0, 0))) (hn : ∀ k, (Value.slice a l c).ownBlock = some k → wr.heap.size + 1 ≤ k) :
    RSawI wr ((w3.setCell ⟨wr.heap.size, 0, none⟩ (.bool b)).setCell ⟨wr.heap.size, 1, none⟩ (.slice a l c)) wr.heap.size b zs a l c :=
  ⟨bset (bset hb (Nat.le_refl _) _ _) (Nat.le_refl _) _ _, heap_setCell (heap_setCell hg), Part.ok_but (g := wr.heap.size) hd (Or.inr fun b' o' e => by have := hn b' (by simp only at e; rw [e]; rfl); omega) ((But.setCell _ _ _ _).trans (But.setCell _ _ _ _)), hl⟩
theorem rbox_took (N : NS) (own : Mac) (x : Nat) : (N.rbox own x).setIfInBounds 9 (.int .i64 (N.tk + 1 : Nat)) = N.took.rbox own x := by simp [NS.rbox, NS.took]
theorem rbox_threw (N : NS) (own : Mac) (x : Nat) : (N.rbox own x).setIfInBounds 10 (.int .i64 (N.th + 1 : Nat)) = N.threw.rbox own x := by simp [NS.rbox, NS.threw]
theorem rbox_on (N : NS) (own : Mac) (x n : Nat) : (N.rbox own x).setIfInBounds 7 (.int .i64 ((N.rt + 1) % n : Nat)) = (N.on n).rbox own x := by simp [NS.rbox, NS.on]
/-- the document's Poll under way. -/
structure RPollI (w wr : World) (y : Nat) (own : Mac) (D : Nat → Prop) (x g cr h ct n m : Nat) (S : CS) (N : NS) (k Z : Nat) (v : Value) (i : Nat) : Prop where
  ex : ∃ (S' : CS) (N' : NS) (fs : List (List Int × Value)), RNicW wr y own D x g cr h ct n m S' N' ∧ Frs w.heap.size wr v fs ∧ Only (RNicK D y x g h) w wr ∧ N'.tk + N'.th + free S'.R ≤ Z ∧ fs.length + free S'.R ≤ 64 ∧ pollF own k S N = (fs.map Prod.fst ++ (pollF own (k - i) S' N').1, (pollF own (k - i) S' N').2)
def RPollE (y : Nat) (own : Mac) (D : Nat → Prop) (x g cr h ct n m : Nat) (S : CS) (N : NS) (k : Nat) (w : World) (e : Ending) (w' : World) : Prop :=
  ∃ (v : Value) (fs : List (List Int × Value)), e = .returned v ∧ fs.map Prod.fst = (pollF own k S N).1 ∧ RNicW w' y own D x g cr h ct n m (pollF own k S N).2.1 (pollF own k S N).2.2 ∧ Frs w.heap.size w' v fs ∧ Only (RNicK D y x g h) w w'
/-- Give at the tail, the turn behind it. -/
theorem rgive_tail {w : World} {y : Nat} {own : Mac} {D : Nat → Prop} {x g cr h ct n m : Nat} {S : CS} {N : NS} (r : RNicW w y own D x g cr h ct n m S N) {t : Nat} (hr : t = N.rt) (zs : List Int) (hp : S.R[t]? = some ⟨false, zs⟩) :
    Calls Try.prog 54 #[.pointer (some ⟨x, 0, none⟩), .int .i64 t] w.drew fun e w' => e = .returned (.int .i64 0) ∧ RNicW w' y own D x g cr h ct n m (S.given N.rt) N ∧ But g w w' := by
  subst hr
  refine (refGive_g D x g cr h ct S N.rt _ w.drew (r.ref.keep (Nat.le_refl _) fun _ _ => rfl) hp rfl).mono ?_
  rintro e w' ⟨rfl, h3, h4⟩
  have h5 : But g w w' := ⟨h4.os, h4.tape, h4.output, h4.size, h4.block⟩
  exact ⟨rfl, ⟨(h5.block y (fun e => r.yr (Or.inr (Or.inl e))) (heap_lt r.box)).trans r.box, h3, r.yr, by simpa [CS.given] using r.ln, r.lm, r.rt, r.tt⟩, h5⟩
set_option maxRecDepth 20000 in
set_option maxHeartbeats 8000000 in
theorem rpoll_any (y : Nat) (own : Mac) (D : Nat → Prop) (x g cr h ct n m : Nat) (S : CS) (N : NS) (b : Int) (Z : Nat) (w : World) (r : RNicW w y own D x g cr h ct n m S N) (ho : own.ok) (hb : b ≤ 9223372036854775807) (hz : N.tk + N.th + free S.R ≤ Z) (hZ : Z < 4611686018427387904) :
    Calls Try.prog 28 #[.pointer (some ⟨y, 0, none⟩), .int .i64 b] w (RPollE y own D x g cr h ct n m S N b.toNat w) := by
  have HX := hid r
  have HO := hid ho
  have c0 := (rnicC r.box).c0
  have HRG : Hid (Calls Try.prog 32 #[.pointer (some ⟨x, 0, none⟩)] w fun e w' => e = .returned (.tuple #[.int .i64 n, .int .i64 m]) ∧ Below w.heap.size w w') := by
    have := refRings_any D x g cr h ct S w r.ref
    rw [r.ln, r.lm] at this
    exact this
  have hn64 : n ≤ 64 := by rw [← r.ln]; exact r.ref.r2
  have hn0 : 0 < n := by have := r.rt; omega
  have HI0 : Hid (∀ W, Below w.heap.size w W → RPollI w W y own D x g cr h ct n m S N b.toNat Z (.slice none 0 0) 0) := fun W hb => ⟨S, N, [], r.below hb, Frs.nil _ _, Only.of_below hb, hz, by have := free_le S.R; have := r.ref.r2; simp; omega, by simp⟩
  clear r ho hz
  go_enter Try.func28, Try.ntmps28
  go_wp2_with fail
  refine HRG.out.mono ?_
  rintro e w0 ⟨rfl, hb0⟩
  replace HI0 := hid (HI0.out w0 hb0)
  clear hb0 HRG c0
  go_wp2_with fail
  go_loopw [5, 8] (fun tv iv wr => ∃ (i : Nat) (a : Option Addr) (l cc : Nat), tv = .slice a l cc ∧ iv = .int .i64 i ∧ (i : Int) ≤ max b 0 ∧ Hid (RPollI w wr y own D x g cr h ct n m S N b.toNat Z (.slice a l cc) i)) (fun _ iv _ => b.toNat - (intOf iv).toNat)
  case atStart => exact ⟨0, none, 0, 0, rfl, rfl, by omega, HI0⟩
  case round =>
    obtain ⟨i, a, l, cc, rfl, rfl, hi, HI⟩ := hrel
    clear HI0
    by_cases hlt : (i : Int) < b
    · obtain ⟨⟨S1, N1, fs, hx1, hf1, ho1, hz1, hy1, hp1⟩⟩ := HI.out
      obtain ⟨⟨pb, zs⟩, hp⟩ : ∃ p, S1.R[N1.rt]? = some p := ⟨_, List.getElem?_eq_getElem hx1.rtl⟩
      have HX1 := hid hx1
      have HF1 := hid hf1
      have HO1 := hid ho1
      have HP1 := hid hp1
      have HP := hid hp
      clear hx1 hf1 ho1 hp1 hp
      have HXA : Hid (∀ W, Below wr.heap.size wr W → RNicW W y own D x g cr h ct n m S1 N1) := fun W hb => HX1.out.below hb
      have HSC : Hid (∀ W, Below wr.heap.size wr W → W.cell? ⟨y, 0, none⟩ = some (.pointer (some ⟨x, 0, none⟩)) ∧ W.cell? ⟨y, 7, none⟩ = some (.int .i64 N1.rt)) := fun W hb => ⟨(rnicC (HXA.out W hb).box).c0, (rnicC (HXA.out W hb).box).c7⟩
      have hql : y < wr.heap.size := heap_lt HX1.out.box
      go_wp2_with fail
      apply cut5 (H := fun W gd a3 l3 c3 => Hid (RSawI wr W gd pb zs a3 l3 c3 ∧ Pl.ok ⟨pb, zs⟩))
      · intro hcut
        go_region_held3 (fun z => z.cell? ⟨y, 0, none⟩ = some (.pointer (some ⟨x, 0, none⟩)) ∧ z.cell? ⟨y, 7, none⟩ = some (.int .i64 N1.rt)) (first | exact HSC.out _ (Below.refl _ _).drew | exact HSC.out _ ((Below.refl _ _).drew.alloc (Nat.le_refl _) _) | exact HS3.out | exact HSC.out _ (bpush HB3.out _) | exact HSC.out _ (bset (bset HB3.out (Nat.le_refl _) _ _) (Nat.le_refl _) _ _) | go_keep | fail) (first
          | (go_at_call 34; refine (rrx_tail (w := wr.drew) (HXA.out _ (Below.refl _ _).drew) pb zs HP.out).mono ?_; rintro e w3 ⟨a3, l3, c3, rfl, hl3, hp3, hb3, hok3, hg3⟩; have HS3 := hid (HSC.out w3 (bstep (Below.refl _ _).drew hb3)); have HB3 := hid (bstep (Below.refl wr.heap.size wr).drew hb3); have HD3 := hid hp3; have HL3 := hid hl3; have HOK3 := hid hok3; have hql3 : y < w3.heap.size := (by have := hb3.size; simp at this; omega); clear hb3 hp3 hl3 hg3 hok3)
          | (go_at_call 34; refine (rrx_tail (w := wr.drew.alloc (.cells #[.bool false, .slice none 0 0] 80)) (HXA.out _ ((Below.refl _ _).drew.alloc (Nat.le_refl _) _)) pb zs HP.out).mono ?_; rintro e w3 ⟨a3, l3, c3, rfl, hl3, hp3, hb3, hok3, hg3⟩; have HB3 := hid (bstep ((Below.refl wr.heap.size wr).drew.alloc (Nat.le_refl _) _) hb3); have HS3 := hid (HSC.out w3 HB3.out); have HD3 := hid hp3; have HL3 := hid hl3; have HN3 := hid hg3; have HOK3 := hid hok3; have HG3 : Hid (w3.heap[wr.heap.size]? = some (.cells #[.bool false, .slice none 0 0] 80 (0, 0))) := (hb3.block wr.heap.size (by simp)).trans (heap_new wr.drew _); have hd0 : w3.cell? ⟨wr.heap.size, 0, none⟩ = some (.bool false) := cellHeap HG3.out 0 rfl; have hd1 : w3.cell? ⟨wr.heap.size, 1, none⟩ = some (.slice none 0 0) := cellHeap HG3.out 1 rfl; have hdf : ∀ j, w3.frozen? ⟨wr.heap.size, j, none⟩ = false := (fun j => frozen_of_heap HG3.out j); have hgl3 : wr.heap.size < w3.heap.size := heap_lt HG3.out; have hql3 : y < w3.heap.size := (by omega); clear hb3 hp3 hl3 hg3 hok3)
          | fail)
        · have HW := hid (And.intro (rsaw_a (b := pb) HB3.out HD3.out HL3.out) HOK3.out)
          clear HS3 HB3 HD3 HL3 hql3 HOK3
          generalize w3.alloc _ = W at *
          generalize w3.heap.size = gd at *
          exact hcut W gd a3 l3 c3 HW
        · have HW := hid (And.intro (rsaw_b (b := pb) HB3.out HD3.out HL3.out HG3.out (fun k hk => by have := HN3.out k hk; simp at this; omega)) HOK3.out)
          clear HS3 HB3 HD3 HL3 HN3 HG3 hd0 hd1 hdf hgl3 HOK3
          exact hcut _ _ _ _ _ HW
      intro W gd a3 l3 c3 HWP
      have HW := hid HWP.out.1
      have HPLO := hid HWP.out.2
      clear HWP
      have hc0 : W.cell? ⟨gd, 0, none⟩ = some (.bool pb) := cellHeap HW.out.box 0 rfl
      have hc1 : W.cell? ⟨gd, 1, none⟩ = some (.slice a3 l3 c3) := cellHeap HW.out.box 1 rfl
      have hgdl : gd < W.heap.size := heap_lt HW.out.box
      have hb1 : b.toNat - i = (b.toNat - (i + 1)) + 1 := by omega
      cases pb with
      | true =>
        go_wp2_with fail
        go_ret
        have hp1 := HP1.out
        rw [hb1] at hp1
        simp only [pollF, HP.out, if_true, List.append_nil] at hp1
        exact ⟨_, fs, rfl, by rw [hp1], by rw [hp1]; exact HXA.out W HW.out.bel, HF1.out.keep fun k _ hk => HW.out.bel.block k hk, HO1.out.trans (Only.of_below HW.out.bel)⟩
      | false =>
        have HOPN : Hid (Calls Try.prog 15 #[.slice a3 l3 c3] W fun e w'' => ∃ a n c, e = .returned (.tuple #[frameV (openR zs).d (openR zs).s (openR zs).k (.slice a n c), .int .i64 (openR zs).er]) ∧ Ans W w'' (openR zs).ys a n c) := by
          have := refOpen_u ⟨a3, c3, zs⟩ W HW.out.dat (by have := HPLO.out.1; simp only at this ⊢; omega)
          unfold Hid
          rw [HW.out.len]
          exact this
        have hzo := openR_ok zs HPLO.out.2
        have HMI : Hid (∀ a l c' W, Calls Try.prog 16 #[own.val, frameV (openR zs).d (openR zs).s (openR zs).k (.slice a l c')] W fun e w'' => e = .returned (.bool (mineB own (openR zs).d (openR zs).s)) ∧ Below W.heap.size W w'') := fun a l c' W => refMine_any own _ _ _ a l c' W HO.out hzo.1 hzo.2.1
        have HGB : Hid (goodB own zs = (decide ((openR zs).er = 0) && mineB own (openR zs).d (openR zs).s)) := rfl
        obtain ⟨GB, hGB⟩ : ∃ GB, GB = goodB own zs := ⟨_, rfl⟩
        have HGE := hid hGB
        rw [← hGB] at HGB
        obtain ⟨R, hR⟩ : ∃ R, R = openR zs := ⟨_, rfl⟩
        have HRE := hid hR
        rw [← hR] at HOPN HMI HGB
        obtain ⟨MB, hMB⟩ : ∃ MB, MB = mineB own R.d R.s := ⟨_, rfl⟩
        rw [← hMB] at HMI HGB
        clear hzo hGB hR hMB
        obtain ⟨⟨d0, d1, d2, d3, d4, d5⟩, ⟨s0, s1, s2, s3, s4, s5⟩, kk, ys, er⟩ := R
        simp only [frameV, Mac.val] at HOPN HMI HGB
        go_wp2_with fail
        refine HOPN.out.mono ?_
        rintro e w5 ⟨fa, fl, fc, rfl, hrow, hnew, hb5⟩
        have HROW := hid (hrow.below (balloc w5 (.cells #[.int .u8 d0, .int .u8 d1, .int .u8 d2, .int .u8 d3, .int .u8 d4, .int .u8 d5, .int .u8 s0, .int .u8 s1, .int .u8 s2, .int .u8 s3, .int .u8 s4, .int .u8 s5, .int .i64 kk, .slice fa fl fc] 51)))
        have HNEW := hid hnew
        have HB5 : Hid (Below wr.heap.size wr (w5.alloc (.cells #[.int .u8 d0, .int .u8 d1, .int .u8 d2, .int .u8 d3, .int .u8 d4, .int .u8 d5, .int .u8 s0, .int .u8 s1, .int .u8 s2, .int .u8 s3, .int .u8 s4, .int .u8 s5, .int .i64 kk, .slice fa fl fc] 51))) := bpush (bstep HW.out.bel hb5) _
        have HWS := hid HW.out.bel.size
        have HW5 := hid hb5.size
        have HFB := hid (heap_new w5 (.cells #[.int .u8 d0, .int .u8 d1, .int .u8 d2, .int .u8 d3, .int .u8 d4, .int .u8 d5, .int .u8 s0, .int .u8 s1, .int .u8 s2, .int .u8 s3, .int .u8 s4, .int .u8 s5, .int .i64 kk, .slice fa fl fc] 51))
        clear hrow hnew hb5 HOPN
        have HS9 : Hid (∀ z, Below (w5.alloc (.cells #[.int .u8 d0, .int .u8 d1, .int .u8 d2, .int .u8 d3, .int .u8 d4, .int .u8 d5, .int .u8 s0, .int .u8 s1, .int .u8 s2, .int .u8 s3, .int .u8 s4, .int .u8 s5, .int .i64 kk, .slice fa fl fc] 51)).heap.size (w5.alloc (.cells #[.int .u8 d0, .int .u8 d1, .int .u8 d2, .int .u8 d3, .int .u8 d4, .int .u8 d5, .int .u8 s0, .int .u8 s1, .int .u8 s2, .int .u8 s3, .int .u8 s4, .int .u8 s5, .int .i64 kk, .slice fa fl fc] 51)) z → z.cell? ⟨y, 1, none⟩ = some (.int .u8 own.b0) ∧ z.cell? ⟨y, 2, none⟩ = some (.int .u8 own.b1) ∧ z.cell? ⟨y, 3, none⟩ = some (.int .u8 own.b2) ∧ z.cell? ⟨y, 4, none⟩ = some (.int .u8 own.b3) ∧ z.cell? ⟨y, 5, none⟩ = some (.int .u8 own.b4) ∧ z.cell? ⟨y, 6, none⟩ = some (.int .u8 own.b5) ∧ z.cell? ⟨w5.heap.size, 0, none⟩ = some (.int .u8 d0) ∧ z.cell? ⟨w5.heap.size, 1, none⟩ = some (.int .u8 d1) ∧ z.cell? ⟨w5.heap.size, 2, none⟩ = some (.int .u8 d2) ∧ z.cell? ⟨w5.heap.size, 3, none⟩ = some (.int .u8 d3) ∧ z.cell? ⟨w5.heap.size, 4, none⟩ = some (.int .u8 d4) ∧ z.cell? ⟨w5.heap.size, 5, none⟩ = some (.int .u8 d5) ∧ z.cell? ⟨w5.heap.size, 6, none⟩ = some (.int .u8 s0) ∧ z.cell? ⟨w5.heap.size, 7, none⟩ = some (.int .u8 s1) ∧ z.cell? ⟨w5.heap.size, 8, none⟩ = some (.int .u8 s2) ∧ z.cell? ⟨w5.heap.size, 9, none⟩ = some (.int .u8 s3) ∧ z.cell? ⟨w5.heap.size, 10, none⟩ = some (.int .u8 s4) ∧ z.cell? ⟨w5.heap.size, 11, none⟩ = some (.int .u8 s5) ∧ z.cell? ⟨w5.heap.size, 12, none⟩ = some (.int .i64 kk) ∧ z.cell? ⟨w5.heap.size, 13, none⟩ = some (.slice fa fl fc)) := fun z hb => by
          have cc := rnicC (HXA.out z (bstep HB5.out hb)).box
          have ff := kept HFB.out hb
          exact ⟨cc.c1, cc.c2, cc.c3, cc.c4, cc.c5, cc.c6, cellHeap ff 0 rfl, cellHeap ff 1 rfl, cellHeap ff 2 rfl, cellHeap ff 3 rfl, cellHeap ff 4 rfl, cellHeap ff 5 rfl, cellHeap ff 6 rfl, cellHeap ff 7 rfl, cellHeap ff 8 rfl, cellHeap ff 9 rfl, cellHeap ff 10 rfl, cellHeap ff 11 rfl, cellHeap ff 12 rfl, cellHeap ff 13 rfl⟩
        have hy5 : y < (w5.alloc (.cells #[.int .u8 d0, .int .u8 d1, .int .u8 d2, .int .u8 d3, .int .u8 d4, .int .u8 d5, .int .u8 s0, .int .u8 s1, .int .u8 s2, .int .u8 s3, .int .u8 s4, .int .u8 s5, .int .i64 kk, .slice fa fl fc] 51)).heap.size := heap_lt (HXA.out _ HB5.out).box
        have hw5 : w5.heap.size < (w5.alloc (.cells #[.int .u8 d0, .int .u8 d1, .int .u8 d2, .int .u8 d3, .int .u8 d4, .int .u8 d5, .int .u8 s0, .int .u8 s1, .int .u8 s2, .int .u8 s3, .int .u8 s4, .int .u8 s5, .int .i64 kk, .slice fa fl fc] 51)).heap.size := heap_lt HFB.out
        go_wp2_with fail
        generalize w5.alloc (.cells #[.int .u8 d0, .int .u8 d1, .int .u8 d2, .int .u8 d3, .int .u8 d4, .int .u8 d5, .int .u8 s0, .int .u8 s1, .int .u8 s2, .int .u8 s3, .int .u8 s4, .int .u8 s5, .int .i64 kk, .slice fa fl fc] 51) = W5 at *
        generalize w5.heap.size = gf at *
        apply cut1 (H := fun W6 => Hid (Below W5.heap.size W5 W6))
        · intro hcut
          go_region_held3 (fun z => z.cell? ⟨y, 1, none⟩ = some (.int .u8 own.b0) ∧ z.cell? ⟨y, 2, none⟩ = some (.int .u8 own.b1) ∧ z.cell? ⟨y, 3, none⟩ = some (.int .u8 own.b2) ∧ z.cell? ⟨y, 4, none⟩ = some (.int .u8 own.b3) ∧ z.cell? ⟨y, 5, none⟩ = some (.int .u8 own.b4) ∧ z.cell? ⟨y, 6, none⟩ = some (.int .u8 own.b5) ∧ z.cell? ⟨gf, 0, none⟩ = some (.int .u8 d0) ∧ z.cell? ⟨gf, 1, none⟩ = some (.int .u8 d1) ∧ z.cell? ⟨gf, 2, none⟩ = some (.int .u8 d2) ∧ z.cell? ⟨gf, 3, none⟩ = some (.int .u8 d3) ∧ z.cell? ⟨gf, 4, none⟩ = some (.int .u8 d4) ∧ z.cell? ⟨gf, 5, none⟩ = some (.int .u8 d5) ∧ z.cell? ⟨gf, 6, none⟩ = some (.int .u8 s0) ∧ z.cell? ⟨gf, 7, none⟩ = some (.int .u8 s1) ∧ z.cell? ⟨gf, 8, none⟩ = some (.int .u8 s2) ∧ z.cell? ⟨gf, 9, none⟩ = some (.int .u8 s3) ∧ z.cell? ⟨gf, 10, none⟩ = some (.int .u8 s4) ∧ z.cell? ⟨gf, 11, none⟩ = some (.int .u8 s5) ∧ z.cell? ⟨gf, 12, none⟩ = some (.int .i64 kk) ∧ z.cell? ⟨gf, 13, none⟩ = some (.slice fa fl fc)) (first | exact HS9.out _ (Below.refl _ _).drew | exact HS9.out _ HB6.out | go_keep | fail) (first
            | (go_at_call 16; refine (HMI.out _ _ _ _).mono ?_; rintro e w6 ⟨rfl, hb6⟩; have HB6 := hid (bstep (Below.refl W5.heap.size W5).drew hb6); clear hb6)
            | fail)
          all_goals exact hcut _ HB6
        intro W6 HB6
        obtain ⟨v1, v2, v3, v4, v5, v6, f0, f1, f2, f3, f4, f5, f6, f7, f8, f9, f10, f11, f12, f13⟩ := HS9.out W6 HB6.out
        clear v1 v2 v3 v4 v5 v6 HS9 HMI
        have HF5 : Hid (Frs w.heap.size W6 (.slice a l cc) fs) := (HF1.out.keep fun k _ hk => HB5.out.block k hk).keep fun k _ hk => HB6.out.block k hk
        have HX6 := hid (HXA.out W6 (bstep HB5.out HB6.out))
        have HO6 : Hid (Only (RNicK D y x g h) w W6) := HO1.out.trans (Only.of_below (bstep HB5.out HB6.out))
        have HR6 := hid (HROW.out.below HB6.out)
        have hlow : ∀ k, RNicK D y x g h k → k < w.heap.size := HX.out.lt
        have hylow : y < w.heap.size := hlow y (Or.inl rfl)
        have hglow : g < w.heap.size := hlow g (Or.inr (Or.inr (Or.inl rfl)))
        have hwr : w.heap.size ≤ wr.heap.size := HO1.out.size
        have hlen5 : l = fs.length := by
          obtain ⟨a9, c9, e9⟩ := HF1.out.form
          simp only [Value.slice.injEq] at e9
          exact e9.2.1
        subst hlen5
        have hw6 : gf < W6.heap.size := by have := HB6.out.size; omega
        have hn9 : (N1.rt + 1) % n < n := Nat.mod_lt _ hn0
        have HN9 := hid hn9
        have h61 : ¬ n = 0 := by omega
        have h62 : ((N1.rt : Int) + 1).tmod n = ((N1.rt + 1) % n : Nat) := by rw [Int.tmod_eq_emod_of_nonneg (by omega)]; rfl
        have h63 : ((N1.rt : Int) + 1) % (n : Int) = ((N1.rt + 1) % n : Nat) := rfl
        have HRT := hid (HX1.out.rt)
        have hrt2 : N1.rt < 64 := by have := HX1.out.rt; omega
        obtain ⟨RT, hRT⟩ : ∃ RT, RT = (N1.rt + 1) % n := ⟨_, rfl⟩
        rw [← hRT] at h62 h63
        have HRTE := hid hRT
        clear hn9 hRT HB5 HROW
        by_cases hgood : er = 0 ∧ MB = true
        · obtain ⟨rfl, rfl⟩ := hgood
          have hgb : goodB own zs = true := by rw [← HGE.out, HGB.out]; simp
          have HGT := hid hgb
          have hRR : openR zs = ⟨⟨d0, d1, d2, d3, d4, d5⟩, ⟨s0, s1, s2, s3, s4, s5⟩, kk, ys, 0⟩ := HRE.out.symm
          have hrow : Row W6 5 (.slice fa fl fc) (u8s (openR zs).ys) := by rw [hRR]; exact HR6.out
          obtain ⟨g7, cp7, w7, hrun, hf7, hb7, hk7⟩ := HF5.out.push zs (.slice fa fl fc) hrow (fun b' hb' => by have := HNEW.out b' hb'; have := HWS.out; omega) (fun p hp b' hb' e => by have h9 := HNEW.out b' hb'; have h8 := (HF1.out.dat p hp).1.lt e; have := HWS.out; omega) (by omega) HO6.out.size
          rw [hRR] at hrun
          simp only [frameC] at hrun
          have HRUN := hid hrun
          have HX7 : Hid (RNicW w7 y own D x g cr h ct n m S1 N1) := HX6.out.keep hb7.size fun k hk => hk7 k (HX6.out.lt k hk) (fun e => by have := (HF5.out.lo e).1; have := hlow k hk; omega)
          have HF7 := hid hf7
          have HO7 : Hid (Only (RNicK D y x g h) w w7) := ⟨hb7.os.trans HO6.out.os, hb7.tape.trans HO6.out.tape, hb7.output.trans HO6.out.output, Nat.le_trans HO6.out.size hb7.size, fun k hk hl => (hb7.block k hl).trans (HO6.out.block k hk hl)⟩
          have k9 := (rnicC HX7.out.box).c9
          have kf := (rnicC HX7.out.box).fz
          have klt := (rnicC HX7.out.box).lt
          clear hrun hrow hf7 hb7 hk7 hRR
          go_wp2_with (first
            | (at_builtin; refine wpList_append_run _ rfl (.tmp 58) (.tmp 60) 58 58 rfl _ _ rfl rfl HRUN.out ?_))
          have HX8 : Hid (RNicW (w7.setCell ⟨y, 9, none⟩ (.int .i64 ((N1.tk : Int) + 1))) y own D x g cr h ct n m S1 (N1.saw true)) := HX7.out.boxTo (by rw [show N1.saw true = N1.took from rfl, ← rbox_took]; exact heap_setCell HX7.out.box) (But.setCell _ _ _ _) HX7.out.rt HX7.out.tt
          have HF8 : Hid (Frs w.heap.size (w7.setCell ⟨y, 9, none⟩ (.int .i64 ((N1.tk : Int) + 1))) (.slice (some ⟨g7, 0, none⟩) (fs.length + 1) cp7) (fs ++ [(zs, .slice fa fl fc)])) := HF7.out.keep fun k h1 h2 => Below.heap_setCell _ _ _ _ (by simp; omega)
          have HO8 : Hid (Only (RNicK D y x g h) w (w7.setCell ⟨y, 9, none⟩ (.int .i64 ((N1.tk : Int) + 1)))) := HO7.out.trans (Only.of_but (But.setCell _ _ _ _) (Or.inl rfl))
          clear k9 kf klt
          generalize (w7.setCell ⟨y, 9, none⟩ (.int .i64 ((N1.tk : Int) + 1))) = W8 at *
          have HSC8 : Hid (W8.drew.cell? ⟨y, 0, none⟩ = some (.pointer (some ⟨x, 0, none⟩)) ∧ W8.drew.cell? ⟨y, 7, none⟩ = some (.int .i64 N1.rt)) := ⟨(rnicC HX8.out.box).c0, (rnicC HX8.out.box).c7⟩
          have hyl8 : y < W8.heap.size := heap_lt HX8.out.box
          go_region_held3 (fun z => z.cell? ⟨y, 0, none⟩ = some (.pointer (some ⟨x, 0, none⟩)) ∧ z.cell? ⟨y, 7, none⟩ = some (.int .i64 N1.rt)) (first | exact HSC8.out | exact HS9.out | go_keep | fail) (first
            | (go_at_call 54; refine (rgive_tail HX8.out rfl zs HP.out).mono ?_; rintro e w9 ⟨rfl, hx9, hb9⟩; have HS9 : Hid (w9.cell? ⟨y, 0, none⟩ = some (.pointer (some ⟨x, 0, none⟩)) ∧ w9.cell? ⟨y, 7, none⟩ = some (.int .i64 N1.rt)) := ⟨(rnicC hx9.box).c0, (rnicC hx9.box).c7⟩; have HX9 := hid hx9; have HB9 := hid hb9; clear hx9 hb9)
            | fail)
          have q7 : w9.cell? ⟨y, 7, none⟩ = some (.int .i64 N1.rt) := HS9.out.2
          have qf := (rnicC HX9.out.box).fz
          have ql := (rnicC HX9.out.box).lt
          go_wp2_with fail
          go_roundw
          case rel =>
            have hbox := heap_setCell (j := 7) (v := .int .i64 (((N1.saw true).rt + 1) % n : Nat)) HX9.out.box
            rw [rbox_on] at hbox
            have hrte : ((N1.saw true).rt + 1) % n = RT := HRTE.out.symm
            rw [hrte] at hbox
            refine ⟨i + 1, _, _, cp7, rfl, by go_num, by omega, ⟨S1.given N1.rt, (N1.saw true).on n, fs ++ [(zs, .slice fa fl fc)], HX9.out.boxTo hbox (But.setCell _ _ _ _) HN9.out HX9.out.tt, (HF8.out.keep fun k h1 h2 => HB9.out.block k (by omega) h2).keep fun k h1 h2 => Below.heap_setCell _ _ _ _ (by simp; omega), (HO8.out.trans (Only.of_but HB9.out (Or.inr (Or.inr (Or.inl rfl))))).trans (Only.of_but (But.setCell _ _ _ _) (Or.inl rfl)), ?_, ?_, ?_⟩⟩
            · have := free_given HP.out rfl
              simp only [NS.saw, NS.took, NS.on, CS.given]
              simp
              omega
            · have := free_given HP.out rfl
              simp only [CS.given, List.length_append, List.length_singleton]
              omega
            · have hp1 := HP1.out
              rw [hb1, pollF_step _ _ _ _ _ HP.out, HGT.out, HX1.out.ln] at hp1
              rw [hp1]
              simp
          case measure => simp [intOf]; omega
        · have hgb : goodB own zs = false := by
            rw [← HGE.out, HGB.out]
            by_cases h1 : er = 0
            · cases MB with
              | false => simp
              | true => exact absurd ⟨h1, rfl⟩ hgood
            · simp [h1]
          have HGT := hid hgb
          have k10 := (rnicC HX6.out.box).c10
          have kf := (rnicC HX6.out.box).fz
          have klt := (rnicC HX6.out.box).lt
          have hcase : er = 0 ∧ MB = false ∨ ¬ er = 0 := by
            by_cases h1 : er = 0
            · cases MB with
              | false => exact Or.inl ⟨h1, rfl⟩
              | true => exact absurd ⟨h1, rfl⟩ hgood
            · exact Or.inr h1
          clear hgood f0 f1 f2 f3 f4 f5 f6 f7 f8 f9 f10 f11 f12 f13
          rcases hcase with ⟨rfl, rfl⟩ | her
          · go_wp2_with fail
            have HX8 : Hid (RNicW (W6.setCell ⟨y, 10, none⟩ (.int .i64 ((N1.th : Int) + 1))) y own D x g cr h ct n m S1 (N1.saw false)) := HX6.out.boxTo (by rw [show N1.saw false = N1.threw from rfl, ← rbox_threw]; exact heap_setCell HX6.out.box) (But.setCell _ _ _ _) HX6.out.rt HX6.out.tt
            have HF8 : Hid (Frs w.heap.size (W6.setCell ⟨y, 10, none⟩ (.int .i64 ((N1.th : Int) + 1))) (.slice a fs.length cc) (fs)) := HF5.out.keep fun k h1 h2 => Below.heap_setCell _ _ _ _ (by simp; omega)
            have HO8 : Hid (Only (RNicK D y x g h) w (W6.setCell ⟨y, 10, none⟩ (.int .i64 ((N1.th : Int) + 1)))) := HO6.out.trans (Only.of_but (But.setCell _ _ _ _) (Or.inl rfl))
            clear k10 kf klt
            generalize (W6.setCell ⟨y, 10, none⟩ (.int .i64 ((N1.th : Int) + 1))) = W8 at *
            have HSC8 : Hid (W8.drew.cell? ⟨y, 0, none⟩ = some (.pointer (some ⟨x, 0, none⟩)) ∧ W8.drew.cell? ⟨y, 7, none⟩ = some (.int .i64 N1.rt)) := ⟨(rnicC HX8.out.box).c0, (rnicC HX8.out.box).c7⟩
            have hyl8 : y < W8.heap.size := heap_lt HX8.out.box
            go_region_held3 (fun z => z.cell? ⟨y, 0, none⟩ = some (.pointer (some ⟨x, 0, none⟩)) ∧ z.cell? ⟨y, 7, none⟩ = some (.int .i64 N1.rt)) (first | exact HSC8.out | exact HS9.out | go_keep | fail) (first
              | (go_at_call 54; refine (rgive_tail HX8.out rfl zs HP.out).mono ?_; rintro e w9 ⟨rfl, hx9, hb9⟩; have HS9 : Hid (w9.cell? ⟨y, 0, none⟩ = some (.pointer (some ⟨x, 0, none⟩)) ∧ w9.cell? ⟨y, 7, none⟩ = some (.int .i64 N1.rt)) := ⟨(rnicC hx9.box).c0, (rnicC hx9.box).c7⟩; have HX9 := hid hx9; have HB9 := hid hb9; clear hx9 hb9)
              | fail)
            have q7 : w9.cell? ⟨y, 7, none⟩ = some (.int .i64 N1.rt) := HS9.out.2
            have qf := (rnicC HX9.out.box).fz
            have ql := (rnicC HX9.out.box).lt
            go_wp2_with fail
            go_roundw
            case rel =>
              have hbox := heap_setCell (j := 7) (v := .int .i64 (((N1.saw false).rt + 1) % n : Nat)) HX9.out.box
              rw [rbox_on] at hbox
              have hrte : ((N1.saw false).rt + 1) % n = RT := HRTE.out.symm
              rw [hrte] at hbox
              refine ⟨i + 1, _, _, cc, rfl, by go_num, by omega, ⟨S1.given N1.rt, (N1.saw false).on n, fs, HX9.out.boxTo hbox (But.setCell _ _ _ _) HN9.out HX9.out.tt, (HF8.out.keep fun k h1 h2 => HB9.out.block k (by omega) h2).keep fun k h1 h2 => Below.heap_setCell _ _ _ _ (by simp; omega), (HO8.out.trans (Only.of_but HB9.out (Or.inr (Or.inr (Or.inl rfl))))).trans (Only.of_but (But.setCell _ _ _ _) (Or.inl rfl)), ?_, ?_, ?_⟩⟩
              · have := free_given HP.out rfl
                simp only [NS.saw, NS.threw, NS.on, CS.given]
                simp
                omega
              · have := free_given HP.out rfl
                simp only [CS.given, List.length_append, List.length_singleton]
                omega
              · have hp1 := HP1.out
                rw [hb1, pollF_step _ _ _ _ _ HP.out, HGT.out, HX1.out.ln] at hp1
                rw [hp1]
                simp
            case measure => simp [intOf]; omega
          · have her2 : (er == (0 : Int)) = false := by simpa using her
            go_wp2_with fail
            have HX8 : Hid (RNicW (W6.setCell ⟨y, 10, none⟩ (.int .i64 ((N1.th : Int) + 1))) y own D x g cr h ct n m S1 (N1.saw false)) := HX6.out.boxTo (by rw [show N1.saw false = N1.threw from rfl, ← rbox_threw]; exact heap_setCell HX6.out.box) (But.setCell _ _ _ _) HX6.out.rt HX6.out.tt
            have HF8 : Hid (Frs w.heap.size (W6.setCell ⟨y, 10, none⟩ (.int .i64 ((N1.th : Int) + 1))) (.slice a fs.length cc) (fs)) := HF5.out.keep fun k h1 h2 => Below.heap_setCell _ _ _ _ (by simp; omega)
            have HO8 : Hid (Only (RNicK D y x g h) w (W6.setCell ⟨y, 10, none⟩ (.int .i64 ((N1.th : Int) + 1)))) := HO6.out.trans (Only.of_but (But.setCell _ _ _ _) (Or.inl rfl))
            clear k10 kf klt
            generalize (W6.setCell ⟨y, 10, none⟩ (.int .i64 ((N1.th : Int) + 1))) = W8 at *
            have HSC8 : Hid (W8.drew.cell? ⟨y, 0, none⟩ = some (.pointer (some ⟨x, 0, none⟩)) ∧ W8.drew.cell? ⟨y, 7, none⟩ = some (.int .i64 N1.rt)) := ⟨(rnicC HX8.out.box).c0, (rnicC HX8.out.box).c7⟩
            have hyl8 : y < W8.heap.size := heap_lt HX8.out.box
            go_region_held3 (fun z => z.cell? ⟨y, 0, none⟩ = some (.pointer (some ⟨x, 0, none⟩)) ∧ z.cell? ⟨y, 7, none⟩ = some (.int .i64 N1.rt)) (first | exact HSC8.out | exact HS9.out | go_keep | fail) (first
              | (go_at_call 54; refine (rgive_tail HX8.out rfl zs HP.out).mono ?_; rintro e w9 ⟨rfl, hx9, hb9⟩; have HS9 : Hid (w9.cell? ⟨y, 0, none⟩ = some (.pointer (some ⟨x, 0, none⟩)) ∧ w9.cell? ⟨y, 7, none⟩ = some (.int .i64 N1.rt)) := ⟨(rnicC hx9.box).c0, (rnicC hx9.box).c7⟩; have HX9 := hid hx9; have HB9 := hid hb9; clear hx9 hb9)
              | fail)
            have q7 : w9.cell? ⟨y, 7, none⟩ = some (.int .i64 N1.rt) := HS9.out.2
            have qf := (rnicC HX9.out.box).fz
            have ql := (rnicC HX9.out.box).lt
            go_wp2_with fail
            go_roundw
            case rel =>
              have hbox := heap_setCell (j := 7) (v := .int .i64 (((N1.saw false).rt + 1) % n : Nat)) HX9.out.box
              rw [rbox_on] at hbox
              have hrte : ((N1.saw false).rt + 1) % n = RT := HRTE.out.symm
              rw [hrte] at hbox
              refine ⟨i + 1, _, _, cc, rfl, by go_num, by omega, ⟨S1.given N1.rt, (N1.saw false).on n, fs, HX9.out.boxTo hbox (But.setCell _ _ _ _) HN9.out HX9.out.tt, (HF8.out.keep fun k h1 h2 => HB9.out.block k (by omega) h2).keep fun k h1 h2 => Below.heap_setCell _ _ _ _ (by simp; omega), (HO8.out.trans (Only.of_but HB9.out (Or.inr (Or.inr (Or.inl rfl))))).trans (Only.of_but (But.setCell _ _ _ _) (Or.inl rfl)), ?_, ?_, ?_⟩⟩
              · have := free_given HP.out rfl
                simp only [NS.saw, NS.threw, NS.on, CS.given]
                simp
                omega
              · have := free_given HP.out rfl
                simp only [CS.given, List.length_append, List.length_singleton]
                omega
              · have hp1 := HP1.out
                rw [hb1, pollF_step _ _ _ _ _ HP.out, HGT.out, HX1.out.ln] at hp1
                rw [hp1]
                simp
            case measure => simp [intOf]; omega
    · go_wp2_with fail
      go_ret
      obtain ⟨⟨S1, N1, fs, hx1, hf1, ho1, hz1, hy1, hp1⟩⟩ := HI.out
      have h0 : b.toNat - i = 0 := by omega
      rw [h0] at hp1
      simp only [pollF, List.append_nil] at hp1
      exact ⟨_, fs, rfl, by rw [hp1], by rw [hp1]; exact hx1, hf1, ho1⟩
end Go.Proofs.Ytnjhlndikbkeaaa

/-
  The document's Send.
-/
namespace Go.Proofs.Ytnjhlndikbkeaaa
open Go.RowKit
set_option linter.all false

theorem rbox_ton (N : NS) (own : Mac) (x m : Nat) : (N.rbox own x).setIfInBounds 8 (.int .i64 ((N.tt + 1) % m : Nat)) = (N.ton m).rbox own x := by simp [NS.rbox, NS.ton]
theorem rbox_sent (N : NS) (own : Mac) (x : Nat) : (N.rbox own x).setIfInBounds 11 (.int .i64 (N.sn + 1 : Nat)) = N.sent.rbox own x := by simp [NS.rbox, NS.sent]
theorem rbox_refd (N : NS) (own : Mac) (x : Nat) : (N.rbox own x).setIfInBounds 12 (.int .i64 (N.rf + 1 : Nat)) = N.refd.rbox own x := by simp [NS.rbox, NS.refd]
theorem RNicW.ttl {w : World} {y : Nat} {own : Mac} {D : Nat → Prop} {x g cr h ct n m : Nat} {S : CS} {N : NS} (r : RNicW w y own D x g cr h ct n m S N) : N.tt < S.T.length := by rw [r.lm]; exact r.tt
/-- Tx at the tail. -/
theorem rtx_tail {w : World} {y : Nat} {own : Mac} {D : Nat → Prop} {x g cr h ct n m : Nat} {S : CS} {N : NS} (r : RNicW w y own D x g cr h ct n m S N) (b : Bool) (zs : List Int) (hp : S.T[N.tt]? = some ⟨b, zs⟩) :
    Calls Try.prog 36 #[.pointer (some ⟨x, 0, none⟩), .int .i64 N.tt] w fun e w' => ∃ a l c, e = .returned (.tuple #[.agg #[.bool b, .slice a l c], .int .i64 0]) ∧ l = zs.length ∧ Part.ok w' ⟨a, c, zs⟩ ∧ Below w.heap.size w w' ∧ (∀ k, (Value.slice a l c).ownBlock = some k → w.heap.size ≤ k) := by
  refine (refTx_any D x g cr h ct S _ w r.ref).mono ?_
  rintro e w' ⟨b', a, l, c, k, rfl, hs⟩
  rcases hs with ⟨j, p, hj, hp', rfl, rfl, hl, hok, hnk, hpt, hb⟩ | ⟨h1, _⟩
  · have : j = N.tt := by omega
    subst this
    rw [hp] at hp'
    simp only [Option.some.injEq] at hp'
    subst hp'
    exact ⟨a, l, c, rfl, hl, hpt, hb, hnk⟩
  · have := r.ttl
    simp [hasB] at h1
    omega
/-- what a call has made of the document's driver. -/
def RNTo (w w' : World) (y : Nat) (own : Mac) (D : Nat → Prop) (x g cr h ct n m : Nat) (S' : CS) (N' : NS) : Prop := ∃ D' : Nat → Prop, RNicW w' y own D' x g cr h ct n m S' N' ∧ (∀ k, D' k → D k ∨ w.heap.size ≤ k) ∧ Only (RNicK D y x g h) w w'
/-- the same, beside a new value that is none of its. -/
def RNTv (w w' : World) (y : Nat) (own : Mac) (D : Nat → Prop) (x g cr h ct n m : Nat) (S' : CS) (N' : NS) (v : Value) : Prop := ∃ D' : Nat → Prop, RNicW w' y own D' x g cr h ct n m S' N' ∧ (∀ k, D' k → D k ∨ w.heap.size ≤ k) ∧ Only (RNicK D y x g h) w w' ∧ ∀ b, v.ownBlock = some b → ¬ RNicK D' y x g h b
/-- Lay at the tail. -/
theorem rlay_tail {w0 w : World} {y : Nat} {own : Mac} {D : Nat → Prop} {x g cr h ct n m : Nat} {S : CS} {N : NS} (r0 : RNicW w0 y own D x g cr h ct n m S N) (hb0 : Below w0.heap.size w0 w) {t : Nat} (hr : t = N.tt) (ps : List Int) (hp : S.T[t]? = some ⟨false, ps⟩) (a : Option Addr) (l cc : Nat) (zs : List Int) (hok : Row w 5 (.slice a l cc) (u8s zs)) (hz : ∀ z, z ∈ zs → 0 ≤ z ∧ z ≤ 255) (h1 : 60 ≤ zs.length) (h2 : zs.length ≤ 1514) (hnew : ∀ b, (Value.slice a l cc).ownBlock = some b → w0.heap.size ≤ b) :
    Calls Try.prog 64 #[.pointer (some ⟨x, 0, none⟩), .int .i64 t, .slice a l cc] w.drew fun e w' => e = .returned (.int .i64 0) ∧ RNTv w0 w' y own D x g cr h ct n m (S.laid N.tt zs) N (.slice a l cc) ∧ Row w' 5 (.slice a l cc) (u8s zs) := by
  subst hr
  have r := r0.below hb0
  have hok0 := hok
  obtain ⟨pt, hv, rfl, hpk⟩ := hok.part hz
  have hlk := r0.ref.lt
  have hcall : Calls Try.prog 64 #[.pointer (some ⟨x, 0, none⟩), .int .i64 N.tt, .slice a l cc] w.drew fun e w' => e = .returned (.int .i64 0) ∧ RefTo w.drew w' D x g cr h ct (S.laid N.tt pt.zs) := by
    rw [hv]
    exact refLay_yes D x g cr h ct S N.tt _ pt w.drew (r.ref.keep (Nat.le_refl _) fun _ _ => rfl) (Part.ok_drewN hpk 1) hp rfl h1 h2
  refine hcall.mono ?_
  rintro e w' ⟨rfl, D', h3, h4, h5⟩
  have hs := hb0.size
  have h6 : Only (RefK D x g h) w w' := ⟨h5.os, h5.tape, h5.output, h5.size, h5.block⟩
  refine ⟨rfl, ⟨D', ⟨(h6.block y r.yr (heap_lt r.box)).trans r.box, h3, fun hk => ?_, r.ln, by simpa [CS.laid] using r.lm, r.rt, r.tt⟩, fun k hk => (h4 k hk).imp id (fun h7 => by simp at h7; omega), (Only.of_below hb0).trans (h6.mono fun k hk => Or.inr hk), fun b hb hk => ?_⟩, hok0.keep fun b hb => h6.block b (fun hk => by have := hlk b hk; have := hnew b hb; omega) (hok0.lt hb)⟩
  · rcases hk with hk | hk | hk | hk
    · exact r.yr (Or.inl hk)
    · exact r.yr (Or.inr (Or.inl hk))
    · exact r.yr (Or.inr (Or.inr (Or.inl hk)))
    · rcases h4 y hk with h7 | h7
      · exact r.yr (Or.inr (Or.inr (Or.inr h7)))
      · have := heap_lt r.box; simp at h7; omega
  · have hb1 := hnew b hb
    have hb2 := hok0.lt hb
    rcases hk with hk | hk | hk | hk | hk
    · have := heap_lt r0.box; omega
    · have := hlk x (Or.inl rfl); omega
    · have := hlk g (Or.inr (Or.inl rfl)); omega
    · have := hlk h (Or.inr (Or.inr (Or.inl rfl))); omega
    · rcases h4 b hk with h7 | h7
      · have := hlk b (Or.inr (Or.inr (Or.inr h7))); omega
      · simp at h7; omega
theorem RNTv.to {w w' : World} {y : Nat} {own : Mac} {D : Nat → Prop} {x g cr h ct n m : Nat} {S : CS} {N : NS} {v : Value} (t : RNTv w w' y own D x g cr h ct n m S N v) : RNTo w w' y own D x g cr h ct n m S N := by
  obtain ⟨D', r, hd, hw, _⟩ := t
  exact ⟨D', r, hd, hw⟩
theorem RNTv.box {w w1 w' : World} {y : Nat} {own : Mac} {D : Nat → Prop} {x g cr h ct n m : Nat} {S : CS} {N N' : NS} {v : Value} (t : RNTv w w1 y own D x g cr h ct n m S N v) (hb : w'.heap[y]? = some (.cells (N'.rbox own x) 90 (0, 0))) (ho : But y w1 w') (h1 : N'.rt < n) (h2 : N'.tt < m) : RNTv w w' y own D x g cr h ct n m S N' v := by
  obtain ⟨D', r, hd, hw, hv⟩ := t
  exact ⟨D', r.boxTo hb ho h1 h2, hd, hw.trans (Only.of_but ho (Or.inl rfl)), hv⟩
theorem RNTo.nil {w w' : World} {y : Nat} {own : Mac} {D : Nat → Prop} {x g cr h ct n m : Nat} {S : CS} {N : NS} (t : RNTo w w' y own D x g cr h ct n m S N) : RNTv w w' y own D x g cr h ct n m S N (.slice none 0 0) := by
  obtain ⟨D', r, hd, hw⟩ := t
  exact ⟨D', r, hd, hw, by simp [Value.ownBlock]⟩
theorem RNTo.box {w w1 w' : World} {y : Nat} {own : Mac} {D : Nat → Prop} {x g cr h ct n m : Nat} {S : CS} {N N' : NS} (t : RNTo w w1 y own D x g cr h ct n m S N) (hb : w'.heap[y]? = some (.cells (N'.rbox own x) 90 (0, 0))) (ho : But y w1 w') (h1 : N'.rt < n) (h2 : N'.tt < m) : RNTo w w' y own D x g cr h ct n m S N' := by
  obtain ⟨D', r, hd, hw⟩ := t
  exact ⟨D', r.boxTo hb ho h1 h2, hd, hw.trans (Only.of_but ho (Or.inl rfl))⟩
theorem RNTo.same {w w' : World} {y : Nat} {own : Mac} {D : Nat → Prop} {x g cr h ct n m : Nat} {S : CS} {N : NS} (r : RNicW w y own D x g cr h ct n m S N) (hb : Below w.heap.size w w') : RNTo w w' y own D x g cr h ct n m S N := ⟨D, r.below hb, fun k hk => Or.inl hk, Only.of_below hb⟩
theorem RNTo.at {w w' : World} {y : Nat} {own : Mac} {D : Nat → Prop} {x g cr h ct n m : Nat} {S : CS} {N : NS} (t : RNTo w w' y own D x g cr h ct n m S N) : w'.heap[y]? = some (.cells (N.rbox own x) 90 (0, 0)) ∧ N.rt < n ∧ N.tt < m := by
  obtain ⟨D', r, _⟩ := t
  exact ⟨r.box, r.rt, r.tt⟩
structure RSentI (w w' : World) (y : Nat) (own : Mac) (D : Nat → Prop) (x g cr h ct n m : Nat) (S : CS) (N : NS) (a : Option Addr) (l cc : Nat) (zs : List Int) : Prop where
  nic : RNTv w w' y own D x g cr h ct n m S N (.slice a l cc)
  row : Row w' 5 (.slice a l cc) (u8s zs)
  new : ∀ b, (Value.slice a l cc).ownBlock = some b → w.heap.size ≤ b
set_option maxRecDepth 20000 in
set_option maxHeartbeats 8000000 in
theorem rsend_any (y : Nat) (own : Mac) (D : Nat → Prop) (x g cr h ct n m : Nat) (S : CS) (N : NS) (d : Mac) (k : Int) (pt : Part) (w : World) (r : RNicW w y own D x g cr h ct n m S N) (ho : own.ok) (hd : d.ok) (hok : pt.ok w) (hl : pt.zs.length ≤ 140737488351232) (h1 : N.sn < 4611686018427387904) (h2 : N.rf < 4611686018427387904) :
    Calls Try.prog 57 #[.pointer (some ⟨y, 0, none⟩), sendV d k pt.val] w fun e w' => ∃ a l cc, e = .returned (.tuple #[.slice a l cc, .int .i64 (sendE k pt.zs S N)]) ∧ RSentI w w' y own D x g cr h ct n m (sendS own d k pt.zs S N) (sendN k pt.zs S N) a l cc (sendL own d k pt.zs S N) := by
  have HX := hid r
  have HRG : Hid (∀ W D' (S' : CS), S'.R.length = n → S'.T.length = m → RefB W D' x g cr h ct S' → Calls Try.prog 32 #[.pointer (some ⟨x, 0, none⟩)] W fun e w' => e = .returned (.tuple #[.int .i64 n, .int .i64 m]) ∧ Below W.heap.size W w') := fun W D' S' e1 e2 q => by
    have := refRings_any D' x g cr h ct S' W q
    rw [e1, e2] at this
    exact this
  have hm64 : m ≤ 64 := by rw [← r.lm]; exact r.ref.t2
  have hm0 : 0 < m := by have := r.tt; omega
  have HSL : Hid (∀ W, Below w.heap.size w W → Calls Try.prog 19 #[frameV d own k pt.val] W fun e w'' => ∃ a n c, e = .returned (.tuple #[.slice a n c, .int .i64 (sealE k pt.zs)]) ∧ Ans W w'' (sealB d own k pt.zs) a n c) := fun W hb => refSeal_u d own k pt W hd ho hl (Part.ok_below hok hb)
  have HBD := hid (sealB_bd d own k pt.zs hd ho hok.1)
  obtain ⟨⟨pb, ps⟩, hp⟩ : ∃ p, S.T[N.tt]? = some p := ⟨_, List.getElem?_eq_getElem r.ttl⟩
  have HP := hid hp
  have hfull : fullB S N = pb := by unfold fullB; simp [List.getD_eq_getElem?_getD, hp]
  have HE : Hid (sendE k pt.zs S N = if sealE k pt.zs = 0 then (if pb then 3 else 0) else sealE k pt.zs) := by unfold Hid sendE; rw [hfull]
  have HSS : Hid (sendS own d k pt.zs S N = if sendE k pt.zs S N = 0 then S.laid N.tt (sealB d own k pt.zs) else S) := rfl
  have HSN : Hid (sendN k pt.zs S N = if sendE k pt.zs S N = 0 then (N.ton m).sent else N.refd) := by unfold Hid sendN; rw [r.lm]
  have HSL2 : Hid (sendL own d k pt.zs S N = if sendE k pt.zs S N = 0 then sealB d own k pt.zs else []) := rfl
  have HYL : Hid (sealE k pt.zs = 0 → 60 ≤ (sealB d own k pt.zs).length ∧ (sealB d own k pt.zs).length ≤ 1514) := fun h0 => by
    unfold sealE at h0
    unfold sealB
    split at h0
    · simp at h0
    · rename_i h3
      rw [if_neg h3]
      split at h0
      · simp at h0
      · rename_i h4
        rw [if_neg h4, sealL_len]
        omega
  have hE : sealE k pt.zs = 0 ∨ ¬ sealE k pt.zs = 0 := Classical.em _
  generalize sendE k pt.zs S N = EE at *
  generalize sendS own d k pt.zs S N = SS at *
  generalize sendN k pt.zs S N = NN at *
  generalize sendL own d k pt.zs S N = LL at *
  generalize sealE k pt.zs = E at *
  generalize sealB d own k pt.zs = Y at *
  obtain ⟨d0, d1, d2, d3, d4, d5⟩ := d
  obtain ⟨pa, pc, pz⟩ := pt
  simp only [sendV, frameV, Part.val] at *
  generalize pz.length = pl at *
  have hyl := heap_lt r.box
  have HXA : Hid (∀ W, Below w.heap.size w W → RNicW W y own D x g cr h ct n m S N) := fun W hb => HX.out.below hb
  have HS1 : Hid (∀ z, Below (w.alloc (.cells #[.int .u8 d0, .int .u8 d1, .int .u8 d2, .int .u8 d3, .int .u8 d4, .int .u8 d5, .int .i64 k, .slice pa pl pc] 45)).heap.size (w.alloc (.cells #[.int .u8 d0, .int .u8 d1, .int .u8 d2, .int .u8 d3, .int .u8 d4, .int .u8 d5, .int .i64 k, .slice pa pl pc] 45)) z → z.cell? ⟨y, 1, none⟩ = some (.int .u8 own.b0) ∧ z.cell? ⟨y, 2, none⟩ = some (.int .u8 own.b1) ∧ z.cell? ⟨y, 3, none⟩ = some (.int .u8 own.b2) ∧ z.cell? ⟨y, 4, none⟩ = some (.int .u8 own.b3) ∧ z.cell? ⟨y, 5, none⟩ = some (.int .u8 own.b4) ∧ z.cell? ⟨y, 6, none⟩ = some (.int .u8 own.b5) ∧ z.cell? ⟨w.heap.size, 0, none⟩ = some (.int .u8 d0) ∧ z.cell? ⟨w.heap.size, 1, none⟩ = some (.int .u8 d1) ∧ z.cell? ⟨w.heap.size, 2, none⟩ = some (.int .u8 d2) ∧ z.cell? ⟨w.heap.size, 3, none⟩ = some (.int .u8 d3) ∧ z.cell? ⟨w.heap.size, 4, none⟩ = some (.int .u8 d4) ∧ z.cell? ⟨w.heap.size, 5, none⟩ = some (.int .u8 d5) ∧ z.cell? ⟨w.heap.size, 6, none⟩ = some (.int .i64 k) ∧ z.cell? ⟨w.heap.size, 7, none⟩ = some (.slice pa pl pc)) := fun z hb => by
    have cc := rnicC (HXA.out z (bstep (balloc w _) hb)).box
    have ff := kept (heap_new w (.cells #[.int .u8 d0, .int .u8 d1, .int .u8 d2, .int .u8 d3, .int .u8 d4, .int .u8 d5, .int .i64 k, .slice pa pl pc] 45)) hb
    exact ⟨cc.c1, cc.c2, cc.c3, cc.c4, cc.c5, cc.c6, cellHeap ff 0 rfl, cellHeap ff 1 rfl, cellHeap ff 2 rfl, cellHeap ff 3 rfl, cellHeap ff 4 rfl, cellHeap ff 5 rfl, cellHeap ff 6 rfl, cellHeap ff 7 rfl⟩
  clear r hd ho hok hp hfull hl
  go_enter Try.func57, Try.ntmps57
  go_wp2_with fail
  have HB0 := hid (balloc w (.cells #[.int .u8 d0, .int .u8 d1, .int .u8 d2, .int .u8 d3, .int .u8 d4, .int .u8 d5, .int .i64 k, .slice pa pl pc] 45))
  have hy0 : y < (w.alloc (.cells #[.int .u8 d0, .int .u8 d1, .int .u8 d2, .int .u8 d3, .int .u8 d4, .int .u8 d5, .int .i64 k, .slice pa pl pc] 45)).heap.size := by simp; omega
  have hs0 : w.heap.size < (w.alloc (.cells #[.int .u8 d0, .int .u8 d1, .int .u8 d2, .int .u8 d3, .int .u8 d4, .int .u8 d5, .int .i64 k, .slice pa pl pc] 45)).heap.size := by simp
  generalize w.alloc (.cells #[.int .u8 d0, .int .u8 d1, .int .u8 d2, .int .u8 d3, .int .u8 d4, .int .u8 d5, .int .i64 k, .slice pa pl pc] 45) = W0 at *
  apply cut4 (H := fun W1 a1 n1 c1 => Hid (Ans W0 W1 Y a1 n1 c1))
  · intro hcut
    go_region_held3 (fun z => z.cell? ⟨y, 1, none⟩ = some (.int .u8 own.b0) ∧ z.cell? ⟨y, 2, none⟩ = some (.int .u8 own.b1) ∧ z.cell? ⟨y, 3, none⟩ = some (.int .u8 own.b2) ∧ z.cell? ⟨y, 4, none⟩ = some (.int .u8 own.b3) ∧ z.cell? ⟨y, 5, none⟩ = some (.int .u8 own.b4) ∧ z.cell? ⟨y, 6, none⟩ = some (.int .u8 own.b5) ∧ z.cell? ⟨w.heap.size, 0, none⟩ = some (.int .u8 d0) ∧ z.cell? ⟨w.heap.size, 1, none⟩ = some (.int .u8 d1) ∧ z.cell? ⟨w.heap.size, 2, none⟩ = some (.int .u8 d2) ∧ z.cell? ⟨w.heap.size, 3, none⟩ = some (.int .u8 d3) ∧ z.cell? ⟨w.heap.size, 4, none⟩ = some (.int .u8 d4) ∧ z.cell? ⟨w.heap.size, 5, none⟩ = some (.int .u8 d5) ∧ z.cell? ⟨w.heap.size, 6, none⟩ = some (.int .i64 k) ∧ z.cell? ⟨w.heap.size, 7, none⟩ = some (.slice pa pl pc)) (first | exact HS1.out _ (Below.refl _ _).drew | exact HS1.out _ HB2.out | go_keep | fail) (first
      | (go_at_call 19; refine (HSL.out _ (HB0.out.drew)).mono ?_; rintro e w2 ⟨a2, n2, c2, rfl, hr2, hn2, hb2⟩; have HB2 := hid (bstep (Below.refl W0.heap.size W0).drew hb2); have HA2 : Hid (Ans W0 w2 Y a2 n2 c2) := ⟨hr2, hn2, HB2.out⟩; clear hr2 hn2 hb2)
      | fail)
    all_goals exact hcut _ _ _ _ HA2
  intro W1 a1 n1 c1 HA1
  have HB1 : Hid (Below w.heap.size w W1) := HB0.out.trans ((HA1.out.2.2).mono HB0.out.size)
  have HR1 := hid HA1.out.1
  have HN1 : Hid (∀ b, (Value.slice a1 n1 c1).ownBlock = some b → w.heap.size ≤ b) := fun b hb => Nat.le_trans HB0.out.size (HA1.out.2.1 b hb)
  clear HA1 HS1 HSL hy0 hs0
  have HXB : Hid (∀ W, Below W1.heap.size W1 W → RNicW W y own D x g cr h ct n m S N) := fun W hb => HXA.out W (bstep HB1.out hb)
  have HSC : Hid (∀ W, Below W1.heap.size W1 W → W.cell? ⟨y, 0, none⟩ = some (.pointer (some ⟨x, 0, none⟩)) ∧ W.cell? ⟨y, 8, none⟩ = some (.int .i64 N.tt)) := fun W hb => ⟨(rnicC (HXB.out W hb).box).c0, (rnicC (HXB.out W hb).box).c8⟩
  have hql : y < W1.heap.size := heap_lt (HXB.out _ (Below.refl _ _)).box
  go_wp2_with fail
  apply cut5 (H := fun W gd a3 l3 c3 => Hid (RSawI W1 W gd pb ps a3 l3 c3))
  · intro hcut
    go_region_held3 (fun z => z.cell? ⟨y, 0, none⟩ = some (.pointer (some ⟨x, 0, none⟩)) ∧ z.cell? ⟨y, 8, none⟩ = some (.int .i64 N.tt)) (first | exact HSC.out _ (Below.refl _ _).drew | exact HSC.out _ ((Below.refl _ _).drew.alloc (Nat.le_refl _) _) | exact HS3.out | exact HSC.out _ (bpush HB3.out _) | exact HSC.out _ (bset (bset HB3.out (Nat.le_refl _) _ _) (Nat.le_refl _) _ _) | go_keep | fail) (first
      | (go_at_call 36; refine (rtx_tail (w := W1.drew) (HXB.out _ (Below.refl _ _).drew) pb ps HP.out).mono ?_; rintro e w3 ⟨a3, l3, c3, rfl, hl3, hp3, hb3, hg3⟩; have HS3 := hid (HSC.out w3 (bstep (Below.refl _ _).drew hb3)); have HB3 := hid (bstep (Below.refl W1.heap.size W1).drew hb3); have HD3 := hid hp3; have HL3 := hid hl3; have hql3 : y < w3.heap.size := (by have := hb3.size; simp at this; omega); clear hb3 hp3 hl3 hg3)
      | (go_at_call 36; refine (rtx_tail (w := W1.drew.alloc (.cells #[.bool false, .slice none 0 0] 80)) (HXB.out _ ((Below.refl _ _).drew.alloc (Nat.le_refl _) _)) pb ps HP.out).mono ?_; rintro e w3 ⟨a3, l3, c3, rfl, hl3, hp3, hb3, hg3⟩; have HB3 := hid (bstep ((Below.refl W1.heap.size W1).drew.alloc (Nat.le_refl _) _) hb3); have HS3 := hid (HSC.out w3 HB3.out); have HD3 := hid hp3; have HL3 := hid hl3; have HN3 := hid hg3; have HG3 : Hid (w3.heap[W1.heap.size]? = some (.cells #[.bool false, .slice none 0 0] 80 (0, 0))) := (hb3.block W1.heap.size (by simp)).trans (heap_new W1.drew _); have hd0 : w3.cell? ⟨W1.heap.size, 0, none⟩ = some (.bool false) := cellHeap HG3.out 0 rfl; have hd1 : w3.cell? ⟨W1.heap.size, 1, none⟩ = some (.slice none 0 0) := cellHeap HG3.out 1 rfl; have hdf : ∀ j, w3.frozen? ⟨W1.heap.size, j, none⟩ = false := (fun j => frozen_of_heap HG3.out j); have hgl3 : W1.heap.size < w3.heap.size := heap_lt HG3.out; have hql3 : y < w3.heap.size := (by omega); clear hb3 hp3 hl3 hg3)
      | fail)
    · have HW := hid (rsaw_a (b := pb) HB3.out HD3.out HL3.out)
      clear HS3 HB3 HD3 HL3 hql3
      generalize w3.alloc _ = W at *
      generalize w3.heap.size = gd at *
      exact hcut W gd a3 l3 c3 HW
    · have HW := hid (rsaw_b (b := pb) HB3.out HD3.out HL3.out HG3.out (fun k hk => by have := HN3.out k hk; simp at this; omega))
      clear HS3 HB3 HD3 HL3 HN3 HG3 hd0 hd1 hdf hgl3
      exact hcut _ _ _ _ _ HW
  intro W2 gd a3 l3 c3 HW
  have hc0 : W2.cell? ⟨gd, 0, none⟩ = some (.bool pb) := cellHeap HW.out.box 0 rfl
  have hgdl : gd < W2.heap.size := heap_lt HW.out.box
  have HB2 : Hid (Below w.heap.size w W2) := bstep HB1.out HW.out.bel
  have HR2 := hid (HR1.out.below HW.out.bel)
  have HX2 := hid (HXA.out W2 HB2.out)
  clear HXB HSC HW HR1 HB1
  have k0 := (rnicC HX2.out.box).c0
  have k12 := (rnicC HX2.out.box).c12
  have kf := (rnicC HX2.out.box).fz
  have klt := (rnicC HX2.out.box).lt
  rcases hE with rfl | hE
  · cases pb with
    | true =>
      have hEE : ¬ EE = 0 := by rw [HE.out]; simp
      have HEE := hid hEE
      clear hEE
      go_wp2_with fail
      go_ret2
      have hbox := heap_setCell (j := 12) (v := .int .i64 (N.rf + 1 : Nat)) HX2.out.box
      rw [rbox_refd] at hbox
      refine ⟨none, 0, 0, by rw [HE.out]; rfl, ?_⟩
      rw [HSS.out, HSN.out, HSL2.out, if_neg HEE.out, if_neg HEE.out, if_neg HEE.out]
      exact ⟨((RNTo.same HX.out HB2.out).box hbox (But.setCell _ _ _ _) HX.out.rt HX.out.tt).nil, Row.nil _ _, by simp [Value.ownBlock]⟩
    | false =>
      have hE0 : EE = 0 := by rw [HE.out]; simp
      subst hE0
      rw [if_pos rfl] at HSS HSN HSL2
      go_wp2_with fail
      refine (HRG.out _ D S HX2.out.ln HX2.out.lm HX2.out.ref).mono ?_
      rintro e w4 ⟨rfl, hb4⟩
      have HB4 := hid (bstep HB2.out hb4)
      have HR4 := hid (HR2.out.below hb4)
      have HX4 := hid (HXA.out w4 HB4.out)
      have hyl4 : y < w4.heap.size := heap_lt HX4.out.box
      have HSC4 : Hid (w4.drew.cell? ⟨y, 0, none⟩ = some (.pointer (some ⟨x, 0, none⟩)) ∧ w4.drew.cell? ⟨y, 8, none⟩ = some (.int .i64 N.tt)) := ⟨(rnicC HX4.out.box).c0, (rnicC HX4.out.box).c8⟩
      replace HYL := hid (HYL.out (by first | rfl | trivial))
      clear hb4 k0 k12 kf klt hc0 hgdl
      go_wp2_with fail
      apply cut1 (H := fun W5 => Hid (RNTv w W5 y own D x g cr h ct n m (S.laid N.tt Y) N (.slice a1 n1 c1) ∧ Row W5 5 (.slice a1 n1 c1) (u8s Y)))
      · intro hcut
        go_region_held3 (fun z => z.cell? ⟨y, 0, none⟩ = some (.pointer (some ⟨x, 0, none⟩)) ∧ z.cell? ⟨y, 8, none⟩ = some (.int .i64 N.tt)) (first | exact HSC4.out | exact HS5.out | go_keep | fail) (first
          | (go_at_call 64; refine (rlay_tail HX.out HB4.out rfl ps HP.out a1 n1 c1 Y HR4.out HBD.out.1 HYL.out.1 HYL.out.2 HN1.out).mono ?_; rintro e w5 ⟨rfl, hx5⟩; have HS5 : Hid (w5.cell? ⟨y, 0, none⟩ = some (.pointer (some ⟨x, 0, none⟩)) ∧ w5.cell? ⟨y, 8, none⟩ = some (.int .i64 N.tt)) := ⟨(rnicC hx5.1.to.at.1).c0, (rnicC hx5.1.to.at.1).c8⟩; have HX5 := hid hx5; clear hx5)
          | fail)
        all_goals exact hcut _ HX5
      intro W5 HX5
      have HAT := hid HX5.out.1.to.at
      have k8 := (rnicC HAT.out.1).c8
      have k11 := (rnicC HAT.out.1).c11
      have kf := (rnicC HAT.out.1).fz
      have klt := (rnicC HAT.out.1).lt
      have HN9 := hid (Nat.mod_lt (N.tt + 1) hm0)
      have h61 : ¬ m = 0 := by omega
      have h62 : ((N.tt : Int) + 1).tmod m = ((N.tt + 1) % m : Nat) := by rw [Int.tmod_eq_emod_of_nonneg (by omega)]; rfl
      have h63 : ((N.tt : Int) + 1) % (m : Int) = ((N.tt + 1) % m : Nat) := rfl
      have htt2 : N.tt < 64 := by have := HX.out.tt; omega
      obtain ⟨RT, hRT⟩ : ∃ RT, RT = (N.tt + 1) % m := ⟨_, rfl⟩
      rw [← hRT] at h62 h63
      have HRTE := hid hRT
      clear hRT
      go_wp2_with fail
      go_ret2
      have hb1 := heap_setCell (j := 8) (v := .int .i64 ((N.tt + 1) % m : Nat)) HAT.out.1
      rw [rbox_ton, ← HRTE.out] at hb1
      have hb2 := heap_setCell (j := 11) (v := .int .i64 ((N.ton m).sn + 1 : Nat)) hb1
      rw [rbox_sent] at hb2
      refine ⟨a1, n1, c1, rfl, ?_⟩
      rw [HSS.out, HSN.out, HSL2.out]
      refine ⟨(HX5.out.1.box hb1 (But.setCell _ _ _ _) HX.out.rt HN9.out).box hb2 (But.setCell _ _ _ _) HX.out.rt HN9.out, ?_, HN1.out⟩
      have hyw : y < w.heap.size := heap_lt HX.out.box
      exact HX5.out.2.keep fun b hb => by
        have := HN1.out b hb
        rw [Below.heap_setCell _ _ _ _ (by simp; omega), Below.heap_setCell _ _ _ _ (by simp; omega)]
  · have hE2 : (E == (0 : Int)) = false := by simpa using hE
    have hEE : ¬ EE = 0 := by rw [HE.out, if_neg hE]; exact hE
    have HEE := hid hEE
    clear hEE
    go_wp2_with fail
    go_ret2
    have hbox := heap_setCell (j := 12) (v := .int .i64 (N.rf + 1 : Nat)) HX2.out.box
    rw [rbox_refd] at hbox
    refine ⟨none, 0, 0, by rw [HE.out]; simp [hE], ?_⟩
    rw [HSS.out, HSN.out, HSL2.out, if_neg HEE.out, if_neg HEE.out, if_neg HEE.out]
    exact ⟨((RNTo.same HX.out HB2.out).box hbox (But.setCell _ _ _ _) HX.out.rt HX.out.tt).nil, Row.nil _ _, by simp [Value.ownBlock]⟩
end Go.Proofs.Ytnjhlndikbkeaaa
