/-
  card.Give, card.Lay.
-/
import Derived.Test.YtnjhlndikbkeaaaCAct
namespace Go.Proofs.Ytnjhlndikbkeaaa
open Go.RowKit
set_option linter.all false

set_option maxRecDepth 20000 in
set_option maxHeartbeats 1000000 in
theorem give_ring (c g h : Nat) (S : CS) (i : Int) (w : World) (x : CardW w c g h S) (hi : hasB S.R.length i = false) :
    Calls Try.prog 49 #[.pointer (some ⟨c, 0, none⟩), .int .i64 i] w fun e w' => e = .returned (.int .i64 40) ∧ w' = w := by
  have HX := hid x
  clear x
  go_enter Try.func49, Try.ntmps49
  go_wp2_with (first | (go_at_call 61; refine (has_any c 0 g S.R.length i w (boxC HX.out.box).c0).mono ?_; rintro e w' ⟨rfl, rfl⟩))
  go_ret
  exact ⟨rfl, rfl⟩
set_option maxRecDepth 20000 in
set_option maxHeartbeats 1000000 in
theorem give_owner (c g h : Nat) (S : CS) (j : Nat) (p : Pl) (w : World) (x : CardW w c g h S) (hp : S.R[j]? = some p) (hb : p.b = true) :
    Calls Try.prog 49 #[.pointer (some ⟨c, 0, none⟩), .int .i64 j] w fun e w' => e = .returned (.int .i64 41) ∧ w' = w := by
  have hcb := ring_b x.rx hp
  rw [hb] at hcb
  have hj : j < S.R.length := (List.getElem?_eq_some_iff.1 hp).1
  have hh : hasB S.R.length j = true := by simp [hasB]; omega
  have hj2 : (j : Int) < S.R.length := by omega
  have h0 := (boxC x.box).c0
  have HX := hid x
  clear x hp hb
  go_enter Try.func49, Try.ntmps49
  go_wp2_with (first | (go_at_call 61; refine (has_any c 0 g S.R.length j w (boxC HX.out.box).c0).mono ?_; rintro e w' ⟨rfl, rfl⟩))
  go_ret
  exact ⟨rfl, rfl⟩
set_option maxRecDepth 20000 in
set_option maxHeartbeats 1000000 in
theorem give_yes (c g h : Nat) (S : CS) (j : Nat) (p : Pl) (w : World) (x : CardW w c g h S) (hp : S.R[j]? = some p) (hb : p.b = false) :
    Calls Try.prog 49 #[.pointer (some ⟨c, 0, none⟩), .int .i64 j] w fun e w' => e = .returned (.int .i64 0) ∧ CardW w' c g h (S.given j) ∧ Only (CardK c g h) w w' := by
  obtain ⟨C, hC, hsz, hpl⟩ := x.rx
  have hcb := ring_b x.rx hp
  rw [hb] at hcb
  have hj : j < S.R.length := (List.getElem?_eq_some_iff.1 hp).1
  have hh : hasB S.R.length j = true := by simp [hasB]; omega
  have hj2 : (j : Int) < S.R.length := by omega
  have h0 := (boxC x.box).c0
  have HX := hid x
  have HC := hid hC
  have HSZ := hid hsz
  have HPL := hid hpl
  have hin : j * 1516 + 1516 ≤ C.size := by rw [hsz]; exact (by omega : j * 1516 + 1516 ≤ S.R.length * 1516)
  have HIN := hid hin
  have HU := hid (hpl _ _ hp).1
  clear x hp hb hC hsz hpl hin
  go_enter Try.func49, Try.ntmps49
  go_wp2_with (first
    | (go_at_call 61; refine (has_any c 0 g S.R.length j w (boxC HX.out.box).c0).mono ?_; rintro e w' ⟨rfl, hw⟩; have hw2 := hw.symm; clear hw; subst hw2)
    | (go_at_call 47; refine (empty_sl g (j * 1516) C 102 w HC.out HIN.out _ HU.out).mono ?_; rintro e w1 ⟨rfl, hc1, hz1, HG1, HB1⟩))
  go_ret
  refine ⟨rfl, ⟨?_, ?_, ?_, by simpa [CS.given] using HX.out.r1, by simpa [CS.given] using HX.out.r2, HX.out.t1, HX.out.t2, HX.out.gh, HX.out.cg, HX.out.ch⟩, (Only.of_but HB1.out (Or.inr (Or.inl rfl))).trans (Only.of_but (But.setCell _ _ _ _) (Or.inr (Or.inl rfl)))⟩
  · rw [← box_given, Below.heap_setCell _ _ _ _ (by simpa using HX.out.cg), HB1.out.block c HX.out.cg (heap_lt HX.out.box)]
    exact HX.out.box
  · exact RingAt.emptied (w := w) HSZ.out HPL.out hj (HG1.out true)
  · exact HX.out.tx.keep (by rw [Below.heap_setCell _ _ _ _ (by simpa using HX.out.gh.symm), HB1.out.block h HX.out.gh.symm HX.out.tx.lt])
/-! ### Lay -/
set_option maxRecDepth 20000 in
set_option maxHeartbeats 1000000 in
theorem lay_ring (c g h : Nat) (S : CS) (i : Int) (v : Value) (w : World) (x : CardW w c g h S) (hi : hasB S.T.length i = false) :
    Calls Try.prog 63 #[.pointer (some ⟨c, 0, none⟩), .int .i64 i, v] w fun e w' => e = .returned (.int .i64 40) ∧ w' = w := by
  have HX := hid x
  clear x
  go_enter Try.func63, Try.ntmps63
  go_wp2_with (first | (go_at_call 61; refine (has_any c 2 h S.T.length i w (boxC HX.out.box).c2).mono ?_; rintro e w' ⟨rfl, rfl⟩))
  go_ret
  exact ⟨rfl, rfl⟩
set_option maxRecDepth 20000 in
set_option maxHeartbeats 1000000 in
theorem lay_short (c g h : Nat) (S : CS) (i : Int) (a : Option Addr) (l cc : Nat) (w : World) (x : CardW w c g h S) (hi : hasB S.T.length i = true) (hl : l < 60) :
    Calls Try.prog 63 #[.pointer (some ⟨c, 0, none⟩), .int .i64 i, .slice a l cc] w fun e w' => e = .returned (.int .i64 5) ∧ w' = w := by
  have HX := hid x
  clear x
  have h1 : (l : Int) < 60 := by omega
  go_enter Try.func63, Try.ntmps63
  go_wp2_with (first | (go_at_call 61; refine (has_any c 2 h S.T.length i w (boxC HX.out.box).c2).mono ?_; rintro e w' ⟨rfl, rfl⟩))
  go_ret
  exact ⟨rfl, rfl⟩
set_option maxRecDepth 20000 in
set_option maxHeartbeats 1000000 in
theorem lay_long (c g h : Nat) (S : CS) (i : Int) (a : Option Addr) (l cc : Nat) (w : World) (x : CardW w c g h S) (hi : hasB S.T.length i = true) (hl : 1514 < l) (hl2 : l ≤ 9223372036854775807) :
    Calls Try.prog 63 #[.pointer (some ⟨c, 0, none⟩), .int .i64 i, .slice a l cc] w fun e w' => e = .returned (.int .i64 2) ∧ w' = w := by
  have HX := hid x
  clear x
  have h1 : (1514 : Int) < (l : Int) := by omega
  have h2 : ¬ (l : Int) < 60 := by omega
  go_enter Try.func63, Try.ntmps63
  go_wp2_with (first | (go_at_call 61; refine (has_any c 2 h S.T.length i w (boxC HX.out.box).c2).mono ?_; rintro e w' ⟨rfl, rfl⟩))
  go_ret
  exact ⟨rfl, rfl⟩
set_option maxRecDepth 20000 in
set_option maxHeartbeats 1000000 in
theorem lay_owner (c g h : Nat) (S : CS) (j : Nat) (p : Pl) (a : Option Addr) (l cc : Nat) (w : World) (x : CardW w c g h S) (hp : S.T[j]? = some p) (hb : p.b = true) (hl : 60 ≤ l) (hl2 : l ≤ 1514) :
    Calls Try.prog 63 #[.pointer (some ⟨c, 0, none⟩), .int .i64 j, .slice a l cc] w fun e w' => e = .returned (.int .i64 41) ∧ w' = w := by
  have hcb := ring_b x.tx hp
  rw [hb] at hcb
  have hj : j < S.T.length := (List.getElem?_eq_some_iff.1 hp).1
  have hh : hasB S.T.length j = true := by simp [hasB]; omega
  have hj2 : (j : Int) < S.T.length := by omega
  have h0 := (boxC x.box).c2
  have HX := hid x
  clear x hp hb
  have h1 : ¬ (1514 : Int) < (l : Int) := by omega
  have h2 : ¬ (l : Int) < 60 := by omega
  go_enter Try.func63, Try.ntmps63
  go_wp2_with (first | (go_at_call 61; refine (has_any c 2 h S.T.length j w (boxC HX.out.box).c2).mono ?_; rintro e w' ⟨rfl, rfl⟩))
  go_ret
  exact ⟨rfl, rfl⟩
set_option maxRecDepth 20000 in
set_option maxHeartbeats 1000000 in
theorem lay_yes (c g h : Nat) (S : CS) (j : Nat) (p : Pl) (pt : Part) (w : World) (x : CardW w c g h S) (hok : pt.ok w) (hp : S.T[j]? = some p) (hb : p.b = false) (hl : 60 ≤ pt.zs.length) (hl2 : pt.zs.length ≤ 1514) :
    Calls Try.prog 63 #[.pointer (some ⟨c, 0, none⟩), .int .i64 j, pt.val] w fun e w' => e = .returned (.int .i64 0) ∧ CardW w' c g h (S.laid j pt.zs) ∧ Only (CardK c g h) w w' := by
  obtain ⟨C, hC, hsz, hpl⟩ := x.tx
  have hcb := ring_b x.tx hp
  rw [hb] at hcb
  have hj : j < S.T.length := (List.getElem?_eq_some_iff.1 hp).1
  have hh : hasB S.T.length j = true := by simp [hasB]; omega
  have hj2 : (j : Int) < S.T.length := by omega
  have h0 := (boxC x.box).c2
  have HX := hid x
  have HC := hid hC
  have HSZ := hid hsz
  have HPL := hid hpl
  have HOK := hid hok
  have HL := hid hl2
  have hin : j * 1516 + 1516 ≤ C.size := by rw [hsz]; exact (by omega : j * 1516 + 1516 ≤ S.T.length * 1516)
  have HIN := hid hin
  have HU := hid (hpl _ _ hp).1
  have h1 : ¬ (1514 : Int) < (pt.zs.length : Int) := by omega
  have h2 : ¬ (pt.zs.length : Int) < 60 := by omega
  clear x hp hb hC hsz hpl hin hok hl2
  show Calls Try.prog 63 #[.pointer (some ⟨c, 0, none⟩), .int .i64 j, .slice pt.a pt.zs.length pt.c] w _
  go_enter Try.func63, Try.ntmps63
  go_wp2_with (first
    | (go_at_call 61; refine (has_any c 2 h S.T.length j w (boxC HX.out.box).c2).mono ?_; rintro e w' ⟨rfl, hw⟩; have hw2 := hw.symm; clear hw; subst hw2)
    | (go_at_call 42; refine (fill_sl h (j * 1516) C 102 pt w HC.out HIN.out HOK.out HL.out _ HU.out).mono ?_; rintro e w1 ⟨rfl, hc1, hz1, HG1, HB1⟩))
  go_ret
  refine ⟨rfl, ⟨?_, ?_, ?_, HX.out.r1, HX.out.r2, by simpa [CS.laid] using HX.out.t1, by simpa [CS.laid] using HX.out.t2, HX.out.gh, HX.out.cg, HX.out.ch⟩, (Only.of_but HB1.out (Or.inr (Or.inr rfl))).trans (Only.of_but (But.setCell _ _ _ _) (Or.inr (Or.inr rfl)))⟩
  · rw [← box_laid, Below.heap_setCell _ _ _ _ (by simpa using HX.out.ch), HB1.out.block c HX.out.ch (heap_lt HX.out.box)]
    exact HX.out.box
  · exact HX.out.rx.keep (by rw [Below.heap_setCell _ _ _ _ (by simpa using HX.out.gh), HB1.out.block g HX.out.gh HX.out.rx.lt])
  · exact RingAt.fill (w := w) HSZ.out HPL.out hj HL.out HOK.out.1 (HG1.out true)
end Go.Proofs.Ytnjhlndikbkeaaa
