/-
  Span, Port and Backoff of the program.
-/
import Derived.Test.YthipdchdbdmmnaaPDUse
namespace Go.Proofs.Ythipdchdbdmmnaa
open Go.RowKit
set_option linter.all false

/-- a dice was used: it has zs now, the list lies where it lay. -/
def UseI (t : TypeId) (w : World) (p : Nat) (a : Option Addr) (zs : List Int) (w' : World) : Prop := ∃ a' c', DiceW t w' p a' c' zs ∧ blk a' = blk a ∧ But p w w'
theorem NextI.use {t : TypeId} {w : World} {p : Nat} {a : Option Addr} {zs : List Int} {w' : World} {a' : Option Addr} {c' : Nat} (h : NextI t w p a zs w' a' c') (m : Nat) : UseI t w p a zs.tail (w'.drewN m) :=
  ⟨a', c', h.dice.below (Below.trans (Below.refl _ _) ⟨rfl, rfl, rfl, Nat.le_refl _, fun _ _ => rfl⟩), h.blk, h.only.trans (But.drewN _ _ _)⟩
theorem UseI.from {t : TypeId} {w w0 : World} {p : Nat} {a : Option Addr} {zs : List Int} {w' : World} (h : UseI t w0 p a zs w') (hb : Below w.heap.size w w0) : UseI t w p a zs w' := by
  obtain ⟨a', c', h1, h2, h3⟩ := h
  exact ⟨a', c', h1, h2, (But.of_below hb).trans h3⟩
set_option maxHeartbeats 1000000 in
theorem use_port (p : Nat) (a : Option Addr) (c : Nat) (zs : List Int) (w : World) (x : DiceW 92 w p a c zs) (hl : zs.length ≤ maxLen) :
    Calls Try.prog 57 #[.pointer (some ⟨p, 0, none⟩), .func (.func 58) #[] #[]] w fun e w' => e = .returned (.int .i64 (49152 + hd0 zs % 16384)) ∧ Hid (UseI 92 w p a zs.tail w') := by
  have HX := hid x
  have HN := hid (next_any p a c zs w x hl)
  have HW := hid (hd0_words x.words)
  clear x hl
  generalize hd0 zs = d at *
  go_enter Try.func57, Try.ntmps57
  go_wp2_with (first
    | (go_at_call 64; refine HN.out.mono ?_; go_loud (rintro e w1 ⟨rfl, a', c', hn⟩; have HI := hid hn; clear hn HN))
    | (go_at_call 58; refine (portC_any d w1 HW.out).mono ?_; go_loud (rintro e w2 ⟨rfl, hw⟩; subst w2)))
  go_ret
  exact ⟨rfl, HI.out.use 0⟩
/-- a number from lo to hi, by the first of some draws; what is left of them. -/
def spanI (lo hi : Int) (zs : List Int) : Int := if hi ≤ lo then lo else lo + restI (hd0 zs) (hi - lo)
def spanL (lo hi : Int) (zs : List Int) : List Int := if hi ≤ lo then zs else zs.tail
set_option maxHeartbeats 1000000 in
theorem port_any (p : Nat) (a : Option Addr) (c : Nat) (zs : List Int) (w : World) (x : DiceW 92 w p a c zs) (hl : zs.length ≤ maxLen) :
    Calls Try.prog 44 #[.pointer (some ⟨p, 0, none⟩)] w fun e w' => e = .returned (.int .i64 (49152 + hd0 zs % 16384)) ∧ Hid (UseI 92 w p a zs.tail w') := by
  have HU := hid (use_port p a c zs w x hl)
  clear x hl
  generalize 49152 + hd0 zs % 16384 = R at *
  go_enter Try.func44, Try.ntmps44
  go_wp2_with (first
    | (go_at_call 57; refine HU.out.mono ?_; go_loud (rintro e w1 ⟨rfl, HI⟩)))
  go_ret
  exact ⟨rfl, HI⟩
end Go.Proofs.Ythipdchdbdmmnaa
