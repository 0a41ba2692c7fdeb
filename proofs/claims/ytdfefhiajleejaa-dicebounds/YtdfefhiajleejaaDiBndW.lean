/-
  The walk of the statement DiceBounds.
-/
import Derived.Test.YtdfefhiajleejaaDiLive
namespace Go.Proofs.Ytdfefhiajleejaa
open Go.RowKit
set_option linter.all false

theorem spanI_bd {lo hi : Int} {zs : List Int} (h : lo < hi) (hw : Words zs) : lo ≤ spanI lo hi zs ∧ spanI lo hi zs ≤ hi := by
  have := restI_bd (gap := hi - lo) (hd0_words hw) (by omega)
  unfold spanI
  rw [if_neg (by omega)]
  omega
theorem waitI_bd {b d : Int} (hb : 1 ≤ b) (hd : 0 ≤ d ∧ d ≤ 4294967295) : 1 ≤ waitI b d ∧ b - b / 4 ≤ waitI b d ∧ waitI b d ≤ b + b / 4 + 1 := by
  have := restI_bd (gap := b / 2) hd (by omega)
  unfold waitI
  omega
theorem spanL_len {lo hi : Int} {zs : List Int} : (spanL lo hi zs).length ≤ zs.length := by unfold spanL; split <;> simp
/-- what a round of calls makes of one dice. -/
structure RoundI (w0 wr : World) (p : Nat) (lo hi base most try_ : Int) (n : Nat) (A B C b : Int) (m : Nat) (Z1 Z2 Z3 : List Int) : Prop where
  span : Calls Try.prog 16 #[.pointer (some ⟨p, 0, none⟩), .int .i64 lo, .int .i64 hi] wr fun e w' => e = .returned (.int .i64 A) ∧ Hid (DS w0 w' [(46, p, Z1)] [])
  port : ∀ w, DS w0 w [(46, p, Z1)] [] → Calls Try.prog 17 #[.pointer (some ⟨p, 0, none⟩)] w fun e w' => e = .returned (.int .i64 B) ∧ Hid (DS w0 w' [(46, p, Z2)] [])
  back : ∀ w, DS w0 w [(46, p, Z2)] [] → Calls Try.prog 18 #[.pointer (some ⟨p, 0, none⟩), .int .i64 base, .int .i64 most, .int .i64 try_] w fun e w' => e = .returned (.int .i64 C) ∧ Hid (DS w0 w' [(46, p, Z3)] [])
  left : ∀ w, DS w0 w [(46, p, Z3)] [] → Calls Try.prog 12 #[.pointer (some ⟨p, 0, none⟩)] w fun e w' => e = .returned (.int .i64 m) ∧ w' = w
  dbl : ∀ w, Calls Try.prog 19 #[.int .i64 base, .int .i64 most, .int .i64 try_] w fun e w' => e = .returned (.int .i64 b) ∧ w' = w
  a1 : lo < hi → lo ≤ A ∧ A ≤ hi
  a2 : hi ≤ lo → A = lo
  b1 : 49152 ≤ B ∧ B ≤ 65535
  c1 : 1 ≤ C ∧ b - b / 4 ≤ C ∧ C ≤ b + b / 4 + 1
  bb : 1 ≤ b ∧ b ≤ 1125899906842624
  n1 : lo < hi → m = n - 3
  n2 : hi ≤ lo → m = n - 2
  z3 : Z3.length ≤ maxLen
theorem round_of {w0 wr : World} {p : Nat} {zs : List Int} (h : DS w0 wr [(46, p, zs)] []) (hl : zs.length ≤ maxLen) (lo hi base most try_ : Int) (h1 : -9223372036854775808 ≤ lo ∧ lo ≤ 9223372036854775807) (h2 : -9223372036854775808 ≤ hi ∧ hi ≤ 9223372036854775807) (h3 : -9223372036854775808 ≤ try_ ∧ try_ ≤ 9223372036854775807) :
    ∃ A B C b m Z1 Z2 Z3, RoundI w0 wr p lo hi base most try_ zs.length A B C b m Z1 Z2 Z3 := by
  have hw := h.words (i := 0) rfl
  have l1 : (spanL lo hi zs).length ≤ zs.length := spanL_len
  have hw1 : Words (spanL lo hi zs) := by unfold spanL; split; · exact hw
                                          · exact hw.tail
  have hw2 := hw1.tail
  have hb := aboutI_bd base most try_
  refine ⟨spanI lo hi zs, 49152 + hd0 (spanL lo hi zs) % 16384, waitI (aboutI base most try_) (hd0 (spanL lo hi zs).tail), aboutI base most try_, (spanL lo hi zs).tail.tail.length, spanL lo hi zs, (spanL lo hi zs).tail, (spanL lo hi zs).tail.tail, ds_span h 0 rfl hl lo hi h1 h2, fun w k => ds_port k 0 rfl (by omega), fun w k => ds_back k 0 rfl (by rw [List.length_tail]; omega) base most try_ h3, fun w k => ds_left k 0 rfl, fun w => refDoubled_any base most try_ w h3, fun hh => spanI_bd hh hw, fun hh => if_pos hh, ?_, waitI_bd hb.1 (hd0_words hw2), hb, fun hh => ?_, fun hh => ?_, by simp only [List.length_tail]; omega⟩
  · have := hd0_words hw1; omega
  · unfold spanL; rw [if_neg (by omega)]; simp only [List.length_tail]; omega
  · unfold spanL; rw [if_pos hh]; simp only [List.length_tail]; omega
set_option maxRecDepth 20000 in
set_option maxHeartbeats 4000000 in
theorem diceBounds_go (a : Option Addr) (c : Nat) (zs : List Int) (lo hi base most try_ : Int) (w : World) (hp : PartU w a c zs) (hl : zs.length * 4 ≤ 140737488355328)
    (h1 : -9223372036854775808 ≤ lo ∧ lo ≤ 9223372036854775807) (h2 : -9223372036854775808 ≤ hi ∧ hi ≤ 9223372036854775807) (h3 : -9223372036854775808 ≤ try_ ∧ try_ ≤ 9223372036854775807) :
    Calls Try.prog 4 #[.slice a zs.length c, .int .i64 lo, .int .i64 hi, .int .i64 base, .int .i64 most, .int .i64 try_] w fun e w' => e = .returned (.bool true) ∧ Below w.heap.size w w' := by
  have HP := hid hp
  have HL := hid hl
  have HH1 := hid h1
  have HH2 := hid h2
  have HH3 := hid h3
  have HM : Hid (zs.length ≤ maxLen) := by unfold Hid maxLen; omega
  clear hp hl h1 h2 h3
  go_enter Try.func4, Try.ntmps4
  go_wp2_with (first
    | (go_at_call 6; refine (awake_any w).mono ?_; go_loud (rintro e w1 ⟨rfl, hb1⟩; have HB1 := hid hb1; clear hb1))
    | (go_at_call 8; refine (ds_new (DS.nil w1) (HP.out.below HB1.out) HL.out).mono ?_; go_loud (rintro e w2 ⟨p, rfl, I1, _⟩)))
  have HI : Hid (DS w1 w2 [(46, p, zs)] []) := I1
  clear I1
  go_loopw [15] (fun i wr => ∃ k : Nat, k ≤ 40 ∧ i = .int .i64 k ∧ ∃ zs', Hid (DS w1 wr [(46, p, zs')] []) ∧ Hid (zs'.length ≤ maxLen)) (fun i _ => 40 - (intOf i).toNat)
  case atStart => exact ⟨0, by omega, rfl, zs, HI, HM⟩
  case round =>
    obtain ⟨k, hk, rfl, zs', HD, HZ⟩ := hrel
    clear HI HM
    by_cases hlt : k < 40
    · have hlt2 : (k : Int) < 40 := by omega
      obtain ⟨A, B, C, b, m, Z1, Z2, Z3, R⟩ := round_of HD.out HZ.out lo hi base most try_ HH1.out HH2.out HH3.out
      have HR := hid R
      have HLF := hid (ds_left HD.out 0 rfl)
      have b1 := R.b1.1
      have b2 := R.b1.2
      have c1 := R.c1.1
      have c2 := R.c1.2.1
      have c3 := R.c1.2.2
      have bb1 := R.bb.1
      have bb2 := R.bb.2
      have t1 : b.tdiv 4 = b / 4 := Int.tdiv_eq_ediv_of_nonneg (by omega)
      have t2 : 0 ≤ b / 4 := by omega
      have t3 : b / 4 ≤ b := by omega
      have hn0 : zs'.length ≤ 9223372036854775807 := by have := HZ.out; unfold maxLen at this; omega
      generalize zs'.length = n at *
      obtain ⟨y, hy⟩ : ∃ y, y = b / 4 := ⟨_, rfl⟩
      rw [← hy] at t1 t2 t3 c2 c3
      have y4 : b / 4 = y := hy.symm
      clear hy
      have e0 : IntKind.i64.wrap y = y := by simp only [IntKind.wrap_i64]; omega
      have e1 : IntKind.i64.wrap (b - y) = b - y := by simp only [IntKind.wrap_i64]; omega
      have e2 : IntKind.i64.wrap (b + y) = b + y := by simp only [IntKind.wrap_i64]; omega
      have e3 : IntKind.i64.wrap (b + y + 1) = b + y + 1 := by simp only [IntKind.wrap_i64]; omega
      have e4 : IntKind.i64.wrap ((n : Int) - 3) = n - 3 := by simp only [IntKind.wrap_i64]; omega
      have e5 : IntKind.i64.wrap ((n : Int) - 2) = n - 2 := by simp only [IntKind.wrap_i64]; omega
      by_cases hh : lo < hi
      · have q1 := (R.a1 hh).1
        have q2 := (R.a1 hh).2
        have q3 := R.n1 hh
        have q4 : ¬ hi ≤ lo := by omega
        clear R
        by_cases hn : 3 < n
        · have hm : (m : Int) = n - 3 := by omega
          have hn2 : (0 : Int) < (n : Int) - 3 := by omega
          clear q3
          go_wp2_with (first
            | (go_at_call 12; (with_reducible refine HLF.out.mono ?_); go_loud (rintro e w' ⟨rfl, hw⟩; subst w'; clear HLF))
            | (go_at_call 16; (with_reducible refine HR.out.span.mono ?_); go_loud (rintro e w3 ⟨rfl, J1⟩))
            | (go_at_call 17; (with_reducible refine (HR.out.port w3 J1.out).mono ?_); go_loud (rintro e w4 ⟨rfl, J2⟩; clear J1))
            | (go_at_call 18; (with_reducible refine (HR.out.back w4 J2.out).mono ?_); go_loud (rintro e w5 ⟨rfl, J3⟩; clear J2))
            | (go_at_call 12; (with_reducible refine (HR.out.left w5 J3.out).mono ?_); go_loud (rintro e w' ⟨rfl, hw⟩; subst w'))
            | (go_at_call 19; (with_reducible refine (HR.out.dbl w5).mono ?_); go_loud (rintro e w' ⟨rfl, hw⟩; subst w')))
          go_roundw
          case rel => exact ⟨k + 1, by omega, by go_num, Z3, J3, HR.out.z3⟩
          case measure => simp [intOf]; omega
        · have hm : m = 0 := by omega
          have hn2 : (n : Int) - 3 ≤ 0 := by omega
          subst hm
          clear q3
          go_wp2_with (first
            | (go_at_call 12; (with_reducible refine HLF.out.mono ?_); go_loud (rintro e w' ⟨rfl, hw⟩; subst w'; clear HLF))
            | (go_at_call 16; (with_reducible refine HR.out.span.mono ?_); go_loud (rintro e w3 ⟨rfl, J1⟩))
            | (go_at_call 17; (with_reducible refine (HR.out.port w3 J1.out).mono ?_); go_loud (rintro e w4 ⟨rfl, J2⟩; clear J1))
            | (go_at_call 18; (with_reducible refine (HR.out.back w4 J2.out).mono ?_); go_loud (rintro e w5 ⟨rfl, J3⟩; clear J2))
            | (go_at_call 12; (with_reducible refine (HR.out.left w5 J3.out).mono ?_); go_loud (rintro e w' ⟨rfl, hw⟩; subst w'))
            | (go_at_call 19; (with_reducible refine (HR.out.dbl w5).mono ?_); go_loud (rintro e w' ⟨rfl, hw⟩; subst w')))
          go_roundw
          case rel => exact ⟨k + 1, by omega, by go_num, Z3, J3, HR.out.z3⟩
          case measure => simp [intOf]; omega
      · have q1 := R.a2 (by omega)
        have q3 := R.n2 (by omega)
        have q4 : hi ≤ lo := by omega
        clear R
        by_cases hn : 2 < n
        · have hm : (m : Int) = n - 2 := by omega
          have hn2 : (0 : Int) < (n : Int) - 2 := by omega
          clear q3
          go_wp2_with (first
            | (go_at_call 12; (with_reducible refine HLF.out.mono ?_); go_loud (rintro e w' ⟨rfl, hw⟩; subst w'; clear HLF))
            | (go_at_call 16; (with_reducible refine HR.out.span.mono ?_); go_loud (rintro e w3 ⟨rfl, J1⟩))
            | (go_at_call 17; (with_reducible refine (HR.out.port w3 J1.out).mono ?_); go_loud (rintro e w4 ⟨rfl, J2⟩; clear J1))
            | (go_at_call 18; (with_reducible refine (HR.out.back w4 J2.out).mono ?_); go_loud (rintro e w5 ⟨rfl, J3⟩; clear J2))
            | (go_at_call 12; (with_reducible refine (HR.out.left w5 J3.out).mono ?_); go_loud (rintro e w' ⟨rfl, hw⟩; subst w'))
            | (go_at_call 19; (with_reducible refine (HR.out.dbl w5).mono ?_); go_loud (rintro e w' ⟨rfl, hw⟩; subst w')))
          go_roundw
          case rel => exact ⟨k + 1, by omega, by go_num, Z3, J3, HR.out.z3⟩
          case measure => simp [intOf]; omega
        · have hm : m = 0 := by omega
          have hn2 : (n : Int) - 2 ≤ 0 := by omega
          subst hm
          clear q3
          go_wp2_with (first
            | (go_at_call 12; (with_reducible refine HLF.out.mono ?_); go_loud (rintro e w' ⟨rfl, hw⟩; subst w'; clear HLF))
            | (go_at_call 16; (with_reducible refine HR.out.span.mono ?_); go_loud (rintro e w3 ⟨rfl, J1⟩))
            | (go_at_call 17; (with_reducible refine (HR.out.port w3 J1.out).mono ?_); go_loud (rintro e w4 ⟨rfl, J2⟩; clear J1))
            | (go_at_call 18; (with_reducible refine (HR.out.back w4 J2.out).mono ?_); go_loud (rintro e w5 ⟨rfl, J3⟩; clear J2))
            | (go_at_call 12; (with_reducible refine (HR.out.left w5 J3.out).mono ?_); go_loud (rintro e w' ⟨rfl, hw⟩; subst w'))
            | (go_at_call 19; (with_reducible refine (HR.out.dbl w5).mono ?_); go_loud (rintro e w' ⟨rfl, hw⟩; subst w')))
          go_roundw
          case rel => exact ⟨k + 1, by omega, by go_num, Z3, J3, HR.out.z3⟩
          case measure => simp [intOf]; omega
    · have hge : ¬ (k : Int) < 40 := by omega
      go_wp2
      go_ret
      exact ⟨rfl, bstep HB1.out HD.out.bel⟩
end Go.Proofs.Ytdfefhiajleejaa
