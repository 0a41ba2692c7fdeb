/-
  The document's Doubled, Span, Port and Backoff.
-/
import Derived.Test.YtdfefhiajleejaaDiSpan
namespace Go.Proofs.Ytdfefhiajleejaa
open Go.RowKit
set_option linter.all false

set_option maxHeartbeats 400000 in
theorem held_any (n : Int) (w : World) : Calls Try.prog 33 #[.int .i64 n, .int .i64 1125899906842624] w fun e w' => e = .returned (.int .i64 (timeI n)) ∧ w' = w := by
  rcases Int.lt_or_le n 1 with h | h
  · go_enter Try.func33, Try.ntmps33
    go_wp2
    go_ret
    exact ⟨ret_int (by unfold timeI; omega), rfl⟩
  · rcases Int.lt_or_le 1125899906842624 n with k | k
    · have h2 : ¬ n < 1 := by omega
      go_enter Try.func33, Try.ntmps33
      go_wp2
      go_ret
      exact ⟨ret_int (by unfold timeI; omega), rfl⟩
    · have h2 : ¬ n < 1 := by omega
      have h3 : ¬ 1125899906842624 < n := by omega
      go_enter Try.func33, Try.ntmps33
      go_wp2
      go_ret
      exact ⟨ret_int (by unfold timeI; omega), rfl⟩
set_option maxHeartbeats 1000000 in
theorem refDoubled_any (base most t : Int) (w : World) (ht : -9223372036854775808 ≤ t ∧ t ≤ 9223372036854775807) :
    Calls Try.prog 19 #[.int .i64 base, .int .i64 most, .int .i64 t] w fun e w' => e = .returned (.int .i64 (aboutI base most t)) ∧ w' = w := by
  obtain ⟨R, hR⟩ : ∃ R, R = aboutI base most t := ⟨_, rfl⟩
  have HR : Hid (R = dbl (t - 1).toNat (timeI base) (timeI most)) := hR
  have HA1 : Hid (∀ wx, Calls Try.prog 33 #[.int .i64 base, .int .i64 1125899906842624] wx fun e w' => e = .returned (.int .i64 (timeI base)) ∧ w' = wx) := held_any base
  have HA2 : Hid (∀ wx, Calls Try.prog 33 #[.int .i64 most, .int .i64 1125899906842624] wx fun e w' => e = .returned (.int .i64 (timeI most)) ∧ w' = wx) := held_any most
  have HB := hid (timeI_bd base)
  have hm := timeI_bd most
  have m1 := hm.1
  have m2 := hm.2
  have HT := hid ht
  rw [← hR]
  clear hR ht hm
  generalize timeI base = b at *
  generalize timeI most = m at *
  go_enter Try.func19, Try.ntmps19
  go_wp2_with (first
    | (go_at_call 33; with_reducible refine (HA1.out w).mono ?_; go_loud (rintro e w1 ⟨rfl, hw⟩; subst w1; clear HA1))
    | (go_at_call 33; with_reducible refine (HA2.out w).mono ?_; go_loud (rintro e w1 ⟨rfl, hw⟩; subst w1)))
  go_loopw [7, 9] (fun x y wr => ∃ b' k : Int, x = .int .i64 b' ∧ y = .int .i64 k ∧ wr = w ∧ Hid (R = dbl (t - k).toNat b' m) ∧ Hid (1 ≤ b' ∧ b' ≤ 2251799813685248) ∧ Hid (1 ≤ k ∧ (k ≤ t ∨ k = 1))) (fun _ y _ => (t - intOf y).toNat)
  case atStart => exact ⟨b, 1, rfl, rfl, rfl, HR, by unfold Hid; have := HB.out; omega, by unfold Hid; omega⟩
  case round =>
    obtain ⟨b', k, rfl, rfl, rfl, H1, H2, H3⟩ := hrel
    have e1 := H2.out.1
    have e2 := H2.out.2
    have e3 := H3.out.1
    have e4 := HT.out.1
    have e7 := HT.out.2
    clear HB
    by_cases h1 : k < t
    · by_cases h2 : b' < m
      · have e5 : IntKind.i64.wrap (b' * 2) = b' * 2 := by simp only [IntKind.wrap_i64]; omega
        have e6 : IntKind.i64.wrap (k + 1) = k + 1 := by simp only [IntKind.wrap_i64]; omega
        go_wp2
        go_roundw
        case rel =>
          refine ⟨b' * 2, k + 1, rfl, rfl, trivial, ?_, by unfold Hid; omega, by unfold Hid; omega⟩
          unfold Hid
          rw [H1.out, show (t - k).toNat = (t - (k + 1)).toNat + 1 by omega, dbl, if_pos h2]
        case measure => simp [intOf]; omega
      · have h3 : m ≤ b' := by omega
        have HE : Hid (R = m) := by unfold Hid; rw [H1.out, dbl_stop h2]; omega
        rcases Int.lt_or_eq_of_le h3 with h4 | h4
        · have h5 : ¬ b' ≤ m := by omega
          go_wp2
          go_ret
          exact ⟨ret_int HE.out.symm, rfl⟩
        · have h5 : b' ≤ m := by omega
          have HF := hid h4
          clear h4
          go_wp2
          go_ret
          exact ⟨ret_int (by rw [HE.out]; have := HF.out; omega), rfl⟩
    · have h1' : t ≤ k := by omega
      have HE : Hid (R = min b' m) := by unfold Hid; rw [H1.out, show (t - k).toNat = 0 by omega]; rfl
      rcases Int.lt_or_le b' m with h4 | h4
      · have h5 : ¬ m < b' := by omega
        have h6 : ¬ m ≤ b' := by omega
        go_wp2
        go_ret
        exact ⟨ret_int (by rw [HE.out]; omega), rfl⟩
      · rcases Int.lt_or_eq_of_le h4 with h4 | h4
        · have h5 : ¬ b' ≤ m := by omega
          have h6 : ¬ b' < m := by omega
          go_wp2
          go_ret
          exact ⟨ret_int (by rw [HE.out]; omega), rfl⟩
        · have h5 : b' ≤ m := by omega
          have h6 : ¬ b' < m := by omega
          have HF := hid h4
          clear h4
          go_wp2
          go_ret
          exact ⟨ret_int (by rw [HE.out]; have := HF.out; omega), rfl⟩
set_option maxHeartbeats 1000000 in
theorem refPort_any (p : Nat) (a : Option Addr) (c : Nat) (zs : List Int) (w : World) (x : DiceW 48 w p a c zs) (hl : zs.length ≤ maxLen) :
    Calls Try.prog 24 #[.pointer (some ⟨p, 0, none⟩)] w fun e w' => e = .returned (.int .i64 (49152 + hd0 zs % 16384)) ∧ Hid (UseI 48 w p a zs.tail w') := by
  have HN := hid (refNext_any p a c zs w x hl)
  have hd := hd0_words x.words
  clear x hl
  generalize hd0 zs = d at *
  have h1 := hd.1
  have h2 := hd.2
  have e0 : d.tmod 16384 = d % 16384 := Int.tmod_eq_emod_of_nonneg h1
  have e1 : 0 ≤ d % 16384 := by omega
  have e2 : d % 16384 ≤ 16383 := by omega
  obtain ⟨R, hR⟩ : ∃ R, R = d % 16384 := ⟨_, rfl⟩
  rw [← hR] at e0 e1 e2 ⊢
  have e4 : d % 16384 = R := hR.symm
  clear hR
  go_enter Try.func24, Try.ntmps24
  go_wp2_with (first
    | (go_at_call 15; refine HN.out.mono ?_; go_loud (rintro e w1 ⟨rfl, a', c', hn⟩; have HI := hid hn; clear hn HN)))
  go_ret
  exact ⟨rfl, HI.out.use 0⟩
set_option maxHeartbeats 1000000 in
theorem refSpan_any (p : Nat) (a : Option Addr) (c : Nat) (zs : List Int) (lo hi : Int) (w : World) (x : DiceW 48 w p a c zs) (hl : zs.length ≤ maxLen) (h1 : -9223372036854775808 ≤ lo ∧ lo ≤ 9223372036854775807) (h2 : -9223372036854775808 ≤ hi ∧ hi ≤ 9223372036854775807) :
    Calls Try.prog 23 #[.pointer (some ⟨p, 0, none⟩), .int .i64 lo, .int .i64 hi] w fun e w' => e = .returned (.int .i64 (spanI lo hi zs)) ∧ Hid (UseI 48 w p a (spanL lo hi zs) w') := by
  by_cases hh : hi ≤ lo
  · have HE : Hid (spanI lo hi zs = lo) := if_pos hh
    have HU : Hid (UseI 48 w p a (spanL lo hi zs) w) := by
      unfold Hid spanL
      rw [if_pos hh]
      exact ⟨a, c, x, rfl, But.refl _ _⟩
    clear x hl
    go_enter Try.func23, Try.ntmps23
    go_wp2
    go_ret
    exact ⟨ret_int HE.out.symm, HU⟩
  · have hg : 0 ≤ hi - lo ∧ hi - lo ≤ 18446744073709551615 := by omega
    have hd := hd0_words x.words
    have hr := restI_bd hd hg.1
    have HE : Hid (spanI lo hi zs = lo + restI (hd0 zs) (hi - lo)) := if_neg hh
    have HL : Hid (spanL lo hi zs = zs.tail) := if_neg hh
    have HN := hid (refNext_any p a c zs w x hl)
    clear x hl
    generalize hd0 zs = d at *
    obtain ⟨X, hX⟩ : ∃ X, IntKind.u64.wrap hi = X := ⟨_, rfl⟩
    obtain ⟨Y, hY⟩ : ∃ Y, IntKind.u64.wrap lo = Y := ⟨_, rfl⟩
    obtain ⟨G, hG⟩ : ∃ G, G = hi - lo := ⟨_, rfl⟩
    have hXY : IntKind.u64.wrap (X - Y) = G := by
      rw [hG, ← hX, ← hY]
      simp only [IntKind.wrap_u64]
      omega
    rw [← hG] at HE hr hg
    obtain ⟨R, hR⟩ : ∃ R, R = restI d G := ⟨_, rfl⟩
    rw [← hR] at HE hr
    obtain ⟨Z, hZ⟩ : ∃ Z, IntKind.u64.wrap (Y + R) = Z := ⟨_, rfl⟩
    have hZ2 : IntKind.i64.wrap Z = lo + R := by
      rw [← hZ, ← hY]
      simp only [IntKind.wrap_u64, IntKind.wrap_i64]
      omega
    have d1 := hd.1
    have d2 := hd.2
    have d3 : IntKind.u64.wrap d = d := by simp only [IntKind.wrap_u64]; omega
    have r1 := hr.1
    have hh2 : lo < hi := by omega
    have g1 := hg.1
    have g2 := hg.2
    by_cases hq : G < 4294967295
    · have c4 : ¬ G + 1 = 0 := by omega
      have c2 : IntKind.u64.wrap (G + 1) = G + 1 := by simp only [IntKind.wrap_u64]; omega
      have c5 : d.tmod (G + 1) = R := by rw [Int.tmod_eq_emod_of_nonneg d1, hR]; rfl
      have c7 : d % (G + 1) = R := by rw [hR]; rfl
      have c8 : IntKind.u64.wrap R = R := by simp only [IntKind.wrap_u64]; omega
      clear hr hG h1 h2 hh hd hg hR
      go_enter Try.func23, Try.ntmps23
      go_wp2_with (first
        | (go_at_call 15; refine HN.out.mono ?_; go_loud (rintro e w1 ⟨rfl, a', c', hn⟩; have HI := hid hn; clear hn HN)))
      go_ret
      exact ⟨ret_int HE.out.symm, by rw [HL.out]; exact HI.out.use 0⟩
    · have c9 : R = d := by rw [hR]; unfold restI; exact Int.emod_eq_of_lt d1 (by omega)
      subst c9
      clear hr hG h1 h2 hh hd hg hR
      go_enter Try.func23, Try.ntmps23
      go_wp2_with (first
        | (go_at_call 15; refine HN.out.mono ?_; go_loud (rintro e w1 ⟨rfl, a', c', hn⟩; have HI := hid hn; clear hn HN)))
      go_ret
      exact ⟨ret_int HE.out.symm, by rw [HL.out]; exact HI.out.use 0⟩
set_option maxHeartbeats 1000000 in
theorem refBackoff_any (p : Nat) (a : Option Addr) (c : Nat) (zs : List Int) (base most try_ : Int) (w : World) (x : DiceW 48 w p a c zs) (hl : zs.length ≤ maxLen) (h3 : -9223372036854775808 ≤ try_ ∧ try_ ≤ 9223372036854775807) :
    Calls Try.prog 25 #[.pointer (some ⟨p, 0, none⟩), .int .i64 base, .int .i64 most, .int .i64 try_] w fun e w' => e = .returned (.int .i64 (waitI (aboutI base most try_) (hd0 zs))) ∧ Hid (UseI 48 w p a zs.tail w') := by
  have HD := hid (refDoubled_any base most try_ w h3)
  have HN := hid (refNext_any p a c zs w x hl)
  have hb := aboutI_bd base most try_
  have hd := hd0_words x.words
  clear x hl h3
  generalize hd0 zs = d at *
  generalize aboutI base most try_ = b at *
  have b1 := hb.1
  have b2 := hb.2
  have b3 : 0 ≤ b / 2 := by omega
  have b4 : b / 2 ≤ 1125899906842624 := by omega
  have hr := restI_bd hd b3
  have r1 := hr.1
  have r2 := hr.2.2
  have d1 := hd.1
  have d2 := hd.2
  have HW : Hid (waitI b d = b - b / 4 + restI d (b / 2)) := rfl
  have q1 : d.tmod (b / 2 + 1) = restI d (b / 2) := by rw [Int.tmod_eq_emod_of_nonneg d1]; rfl
  have q2 : d % (b / 2 + 1) = restI d (b / 2) := rfl
  generalize restI d (b / 2) = R at *
  have t1 : b.tdiv 2 = b / 2 := Int.tdiv_eq_ediv_of_nonneg (by omega)
  have t2 : b.tdiv 4 = b / 4 := Int.tdiv_eq_ediv_of_nonneg (by omega)
  have c1 : 0 ≤ b / 4 := by omega
  have c2 : b / 4 ≤ b := by omega
  obtain ⟨x, hx⟩ : ∃ x, x = b / 2 := ⟨_, rfl⟩
  obtain ⟨y, hy⟩ : ∃ y, y = b / 4 := ⟨_, rfl⟩
  rw [← hx] at t1 b3 b4 q1 q2
  rw [← hy] at t2 c1 c2 HW
  have x4 : b / 2 = x := hx.symm
  have y4 : b / 4 = y := hy.symm
  clear hx hy hr hd hb
  have e1 : IntKind.i64.wrap R = R := by simp only [IntKind.wrap_i64]; omega
  have e0 : IntKind.u64.wrap R = R := by simp only [IntKind.wrap_u64]; omega
  have e9 : IntKind.u64.wrap d = d := by simp only [IntKind.wrap_u64]; omega
  have e2 : IntKind.i64.wrap (b - y) = b - y := by simp only [IntKind.wrap_i64]; omega
  have e3 : IntKind.i64.wrap (b - y + R) = b - y + R := by simp only [IntKind.wrap_i64]; omega
  have e4 : IntKind.u64.wrap (x + 1) = x + 1 := by simp only [IntKind.wrap_u64]; omega
  have e7 : IntKind.i64.wrap (x + 1) = x + 1 := by simp only [IntKind.wrap_i64]; omega
  have e5 : IntKind.i64.wrap x = x := by simp only [IntKind.wrap_i64]; omega
  have e6 : IntKind.i64.wrap y = y := by simp only [IntKind.wrap_i64]; omega
  have e8 : ¬ x + 1 = 0 := by omega
  go_enter Try.func25, Try.ntmps25
  go_wp2_with (first
    | (go_at_call 19; refine HD.out.mono ?_; go_loud (rintro e w1 ⟨rfl, hw⟩; subst w1))
    | (go_at_call 15; refine HN.out.mono ?_; go_loud (rintro e w1 ⟨rfl, a', c', hn⟩; have HI := hid hn; clear hn HN)))
  go_ret
  exact ⟨ret_int HW.out.symm, HI.out.use 0⟩
end Go.Proofs.Ytdfefhiajleejaa
