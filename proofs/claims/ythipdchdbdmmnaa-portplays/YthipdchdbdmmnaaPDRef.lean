/-
  The document's Doubled, Span, Port and Backoff.
-/
import Derived.Test.YthipdchdbdmmnaaPDSpan
namespace Go.Proofs.Ythipdchdbdmmnaa
open Go.RowKit
set_option linter.all false

set_option maxHeartbeats 1000000 in
theorem refPort_any (p : Nat) (a : Option Addr) (c : Nat) (zs : List Int) (w : World) (x : DiceW 94 w p a c zs) (hl : zs.length ≤ maxLen) :
    Calls Try.prog 54 #[.pointer (some ⟨p, 0, none⟩)] w fun e w' => e = .returned (.int .i64 (49152 + hd0 zs % 16384)) ∧ Hid (UseI 94 w p a zs.tail w') := by
  have HN := hid (refNext_any p a c zs w x hl)
  have hd := hd0_words x.words
  clear x hl
  generalize hd0 zs = d at *
  have h1 := hd.1
  have h2 := hd.2
  have e0 : d.tmod 16384 = d % 16384 := Int.tmod_eq_emod_of_nonneg h1
  have e1 : 0 ≤ d % 16384 := by omega
  have e2 : d % 16384 ≤ 16383 := by omega
  obtain ⟨R, hR⟩ : ∃ R, R = d % 16384 := ⟨_, rfl⟩
  rw [← hR] at e0 e1 e2 ⊢
  have e4 : d % 16384 = R := hR.symm
  clear hR
  go_enter Try.func54, Try.ntmps54
  go_wp2_with (first
    | (go_at_call 63; refine HN.out.mono ?_; go_loud (rintro e w1 ⟨rfl, a', c', hn⟩; have HI := hid hn; clear hn HN)))
  go_ret
  exact ⟨rfl, HI.out.use 0⟩
end Go.Proofs.Ythipdchdbdmmnaa
