/-
  Port: the document's table: Open, Close, Look.
-/
import Derived.Test.YthipdchdbdmmnaaPRa
namespace Go.Proofs.Ythipdchdbdmmnaa
open Go.RowKit
set_option linter.all false

/-- the document's table behind a call. -/
def RPz (w w' : World) (c : Nat) (v : Value) (M D : Int) (L : List Ab) (S : List Pa) : Prop := ∃ v' L', RPoW w' c v' M D L' ∧ abs L' = S ∧ RAct w w' c v v' L L'
theorem RPz.same {w w' : World} {c : Nat} {v : Value} {M D : Int} {L : List Ab} (h : RPoW w c v M D L) (hb : Below w.heap.size w w') : RPz w w' c v M D L (abs L) := ⟨v, L, h.below hb, rfl, RAct.refl hb⟩
theorem at_look (L : List Ab) (n : Int) : (atI L n < 0 ↔ look L n = none) := by
  unfold atI look
  cases h : L.findIdx? (fun x => x.ip == n) with
  | none =>
    simp only
    rw [List.findIdx?_eq_none_iff] at h
    constructor
    · intro _
      rw [List.find?_eq_none]
      intro x hx
      simpa using h x hx
    · intro _; omega
  | some i =>
    simp only
    rw [List.findIdx?_eq_some_iff_getElem] at h
    obtain ⟨hi, h1, _⟩ := h
    constructor
    · intro h0; omega
    · intro h0
      rw [List.find?_eq_none] at h0
      exact absurd h1 (h0 _ (List.getElem_mem hi))
theorem at_some {L : List Ab} {n : Int} {y : Ab} (h : look L n = some y) : ∃ k : Nat, atI L n = (k : Int) ∧ L[k]? = some y := by
  have h0 : ¬ atI L n < 0 := fun e => by rw [(at_look L n).1 e] at h; simp at h
  unfold atI at *
  cases hf : L.findIdx? (fun x => x.ip == n) with
  | none => rw [hf] at h0; simp at h0
  | some i =>
    refine ⟨i, rfl, ?_⟩
    rw [List.findIdx?_eq_some_iff_getElem] at hf
    obtain ⟨hi, h1, h2⟩ := hf
    unfold look at h
    have : L.find? (fun x => x.ip == n) = some L[i] := by
      rw [List.find?_eq_some_iff_getElem]
      exact ⟨h1, i, hi, rfl, fun j hj => by simpa using h2 j hj⟩
    rw [this] at h
    rw [List.getElem?_eq_getElem hi]
    exact h
theorem isSome_look {L : List Ab} {n : Int} : (alook (abs L) n).isSome = (look L n).isSome := by rw [abs_look]; cases look L n <;> rfl

theorem RPoW.cells {w : World} {c : Nat} {v : Value} {M D : Int} {L : List Ab} (x : RPoW w c v M D L) : ∃ a cp, v = .slice a L.length cp ∧ w.cell? ⟨c, 0, none⟩ = some (.slice a L.length cp) ∧ w.cell? ⟨c, 1, none⟩ = some (.int .i64 M) ∧ w.cell? ⟨c, 2, none⟩ = some (.int .i64 D) := by
  obtain ⟨a, cp, rfl, _⟩ := x.row.form
  have h := x.box
  rw [show (ptrs L).length = L.length by simp [ptrs]] at *
  exact ⟨a, cp, rfl, cell_of_heap h 0, cell_of_heap h 1, cell_of_heap h 2⟩
theorem RPz.drew {w : World} {c : Nat} {v : Value} {M D : Int} {L : List Ab} {S : List Pa} {w' : World} (k : Nat) (x : RPoW w c v M D L) (h : RPz (w.drewN k) w' c v M D L S) : RPz w w' c v M D L S := by
  obtain ⟨v', L', h1, h2, h3⟩ := h
  exact ⟨v', L', h1, h2, ⟨h3.only.os, h3.only.tape, h3.only.output, h3.only.size, h3.only.block⟩, h3.foot⟩
set_option maxRecDepth 20000 in
set_option maxHeartbeats 1000000 in
theorem ropen_any (c : Nat) (v : Value) (M D : Int) (L : List Ab) (n : Int) (w : World) (x : RPoW w c v M D L) :
    Calls Try.prog 29 #[.pointer (some ⟨c, 0, none⟩), .int .i64 n] w fun e w' => e = .returned (.int .i64 (openE M (abs L) n)) ∧ Hid (RPz w w' c v M D L (openF M (abs L) n)) := by
  have HX := hid x
  have HAT := hid (rat_any c v M D L n w x)
  have HSM := hid (RPz.same x (Below.refl _ _))
  by_cases h1 : n < 1 ∨ 65535 < n
  · have e1 : openE M (abs L) n = 1 := by unfold openE; rw [if_pos h1]
    have e2 : openF M (abs L) n = abs L := by unfold openF; rw [e1, if_neg (by decide)]
    rw [e1, e2]
    clear e1 e2 x
    by_cases h2 : n < 1
    case' neg => have h3 : 65535 < n := by omega
    all_goals
      clear h1
      go_enter Try.func29, Try.ntmps29
      go_wp2
      go_ret
      exact ⟨rfl, HSM.out⟩
  · have h2 : ¬ n < 1 := by omega
    have h3 : ¬ 65535 < n := by omega
    cases hl : look L n with
    | some y =>
      have e1 : openE M (abs L) n = 130 := by unfold openE; rw [if_neg h1, isSome_look, hl]; rfl
      have e2 : openF M (abs L) n = abs L := by unfold openF; rw [e1, if_neg (by decide)]
      rw [e1, e2]
      have h4 : ¬ atI L n < 0 := fun e => by rw [(at_look L n).1 e] at hl; simp at hl
      have h5 : 0 ≤ atI L n := by omega
      generalize atI L n = A at *
      clear e1 e2 x h1 h4
      go_enter Try.func29, Try.ntmps29
      go_wp2_with fail
      refine HAT.out.mono ?_
      rintro e w1 ⟨rfl, hw⟩
      subst w1
      go_wp2
      go_ret
      exact ⟨rfl, HSM.out⟩
    | none =>
      have h4 : atI L n < 0 := (at_look L n).2 hl
      have h5 : ¬ 0 ≤ atI L n := by omega
      obtain ⟨a, cp, hv, c0, c1, c2⟩ := x.cells
      have hlen := x.len
      have d0 : w.drew.cell? ⟨c, 0, none⟩ = some (.slice a L.length cp) := c0
      have d1 : w.drew.cell? ⟨c, 1, none⟩ = some (.int .i64 M) := c1
      have HL := hid hl
      by_cases hM : (L.length : Int) = M
      · have e1 : openE M (abs L) n = 3 := by unfold openE; rw [if_neg h1, isSome_look, hl, if_neg (by simp), abs_len, if_pos hM]
        have e2 : openF M (abs L) n = abs L := by unfold openF; rw [e1, if_neg (by decide)]
        rw [e1, e2]
        have HSD : Hid (RPz w w.drew c v M D L (abs L)) := RPz.same x (Below.refl _ _).drew
        have g1 : decide (M ≤ (L.length : Int)) = true := by simp; omega
        have g2 : M ≤ (L.length : Int) := by omega
        generalize atI L n = A at *
        clear e1 e2 x h1 h4 hl hM hlen hv
        generalize L.length = N at *
        go_enter Try.func29, Try.ntmps29
        go_wp2_with fail
        refine HAT.out.mono ?_
        rintro e w1 ⟨rfl, hw⟩
        subst w1
        go_wp2
        go_region
        go_wp2
        go_ret
        exact ⟨rfl, HSD.out⟩
      · have e1 : openE M (abs L) n = 0 := by unfold openE; rw [if_neg h1, isSome_look, hl, if_neg (by simp), abs_len, if_neg hM]
        have e2 : openF M (abs L) n = aput (abs L) ⟨n, 0, []⟩ := by unfold openF; rw [e1, if_pos rfl]
        rw [e1, e2]
        have xd : RPoW w.drew c v M D L := x.below (Below.refl _ _).drew
        have HAD := hid (radd_any c v M D L n w.drew xd hl)
        have HFIN : Hid (∀ w', AddP w.drew w' c n L → RPz w w' c v M D L (aput (abs L) ⟨n, 0, []⟩)) := fun w' h => by
          obtain ⟨v', L', r1, r2, r3⟩ := xd.added (by omega) hl hM h
          exact ⟨v', L', r1, r2, ⟨r3.only.os, r3.only.tape, r3.only.output, r3.only.size, r3.only.block⟩, r3.foot⟩
        have g2 : ¬ M ≤ (L.length : Int) := by omega
        generalize atI L n = A at *
        clear e1 e2 x h1 h4 hl hM hlen hv xd
        generalize L.length = N at *
        go_enter Try.func29, Try.ntmps29
        go_wp2_with fail
        refine HAT.out.mono ?_
        rintro e w1 ⟨rfl, hw⟩
        subst w1
        go_wp2
        go_region
        go_wp2_with fail
        refine HAD.out.mono ?_
        rintro e w2 ⟨rfl, hA⟩
        go_wp2
        go_ret
        exact ⟨rfl, HFIN.out _ hA.out⟩
end Go.Proofs.Ythipdchdbdmmnaa
