/-
  inet.readLength, readKeep, readTtl.
-/
import Derived.Test.YtccmkljbedddiaaIAct
namespace Go.Proofs.Ytccmkljbedddiaa
open Go.RowKit
set_option linter.all false

theorem and_15 (z : Int) (h0 : 0 ≤ z) (h1 : z ≤ 255) : bits BinOp.and IntKind.u8 z 15 = z % 16 := by
  rw [u8_and z 15 h0 (by omega) (by omega) (by omega), show (15 : Int).toNat = 15 from rfl, nat_mask4]; omega
theorem and_3fff (z : Int) (h0 : 0 ≤ z) (h1 : z ≤ 65535) : bits BinOp.and IntKind.u32 z 16383 = z % 16384 := by
  rw [u32_and z 16383 h0 (by omega) (by omega) (by omega), show (16383 : Int).toNat = 2 ^ 14 - 1 from rfl, Nat.and_two_pow_sub_one_eq_mod]; omega
theorem and_4000 (z : Int) (h0 : 0 ≤ z) (h1 : z ≤ 65535) : bits BinOp.and IntKind.u32 z 16384 = z / 16384 % 2 * 16384 := by
  rw [u32_and z 16384 h0 (by omega) (by omega) (by omega), show (16384 : Int).toNat = 2 ^ 14 from rfl, nat_bit]; omega

/-- what is amiss ahead of the sum. -/
def lenE (zs : List Int) : Int :=
  if zs.length < 20 then 5 else if ¬ zs.getD 0 0 / 16 = 4 then 90 else if 5 < zs.getD 0 0 % 16 then 91 else if zs.getD 0 0 % 16 < 5 then 92
  else if numAt zs 2 2 < 20 ∨ (zs.length : Int) < numAt zs 2 2 then 92 else 0
/-- a call that gives up, or answers. -/
def upE (c : Int) (v : Value) : Ending := if c = 0 then .returned v else pan c

set_option maxRecDepth 20000 in
set_option maxHeartbeats 2000000 in
theorem readLength_any (pt : Part) (w : World) (hok : pt.ok w) (hl : pt.zs.length ≤ 281474976710656) :
    Calls Try.prog 26 #[pt.val] w fun e w' => e = upE (lenE pt.zs) (.int .i64 (numAt pt.zs 2 2)) ∧ w' = w := by
  by_cases hs : pt.zs.length < 20
  · have e1 : lenE pt.zs = 5 := by unfold lenE; rw [if_pos hs]
    rw [e1]
    have HX : Hid (upE 5 (.int .i64 (numAt pt.zs 2 2)) = pan 5) := by unfold Hid upE; simp
    rw [HX.out]
    have H0 := hid @need_no
    unfold Part.val
    clear hok hl e1 HX
    generalize pt.zs.length = l at *
    have hs' : ¬ (20 : Int) ≤ (l : Int) := by omega
    go_enter Try.func26, Try.ntmps26
    go_wp2_with (first
        | (go_at_call 27; (with_reducible refine (H0.out _ _).mono ?_); rintro e w1 ⟨rfl, hw⟩; subst w1) | fail)
    exact ⟨rfl, rfl, rfl⟩
  · obtain ⟨b, o, ha, hc⟩ : ∃ b o, pt.a = some ⟨b, o, none⟩ ∧ w.cell? ⟨b, o, none⟩ = some (.int .u8 (pt.zs.getD 0 0)) := by
      rcases hok.2.2 with he | ⟨b, o, ha, hc⟩
      · rw [he] at hs; simp at hs
      · exact ⟨b, o, ha, hc 0 (by omega)⟩
    have hz := getD_mem_bd hok.1 0
    have hnb := (numAt_bd hok.1 2).2.1
    have HR : Hid (∀ w' : World, Below w.heap.size w w' → Calls Try.prog 35 #[pt.val, .int .i64 2, .int .i64 4] w' fun e w'' => e = .returned (.int .u32 (numAt pt.zs 2 2)) ∧ w'' = w') := fun w' hb => read_any pt 2 4 2 w' (Part.ok_below hok hb) hl rfl (by omega) (Or.inr (Or.inl rfl))
    have HWI : Hid (∀ w' : World, Calls Try.prog 31 #[.int .i64 (numAt pt.zs 2 2), .int .i64 20, .int .i64 pt.zs.length] w' fun e w'' => e = .returned (.bool (inB (numAt pt.zs 2 2) 20 pt.zs.length)) ∧ w'' = w') := fun w' => within_any _ _ _ w'
    have hcase : (lenE pt.zs = 90 ∧ ¬ pt.zs.getD 0 0 / 16 = 4) ∨ (lenE pt.zs = 91 ∧ pt.zs.getD 0 0 / 16 = 4 ∧ ¬ pt.zs.getD 0 0 % 16 ≤ 5 ∧ True) ∨ (lenE pt.zs = 92 ∧ pt.zs.getD 0 0 / 16 = 4 ∧ pt.zs.getD 0 0 % 16 ≤ 5 ∧ ¬ pt.zs.getD 0 0 % 16 = 5)
        ∨ (lenE pt.zs = 92 ∧ pt.zs.getD 0 0 / 16 = 4 ∧ pt.zs.getD 0 0 % 16 = 5 ∧ inB (numAt pt.zs 2 2) 20 pt.zs.length = false) ∨ (lenE pt.zs = 0 ∧ pt.zs.getD 0 0 / 16 = 4 ∧ pt.zs.getD 0 0 % 16 = 5 ∧ inB (numAt pt.zs 2 2) 20 pt.zs.length = true) := by
      unfold lenE inB
      rw [if_neg hs]
      by_cases h1 : pt.zs.getD 0 0 / 16 = 4
      · rw [if_neg (by simpa using h1)]
        by_cases h2 : 5 < pt.zs.getD 0 0 % 16
        · rw [if_pos h2]; right; left; exact ⟨rfl, h1, by omega, trivial⟩
        · rw [if_neg h2]
          by_cases h3 : pt.zs.getD 0 0 % 16 < 5
          · rw [if_pos h3]; right; right; left; exact ⟨rfl, h1, by omega, by omega⟩
          · rw [if_neg h3]
            have h3' : pt.zs.getD 0 0 % 16 = 5 := by omega
            by_cases h4 : numAt pt.zs 2 2 < 20 ∨ (pt.zs.length : Int) < numAt pt.zs 2 2
            · rw [if_pos h4]; right; right; right; left; exact ⟨rfl, h1, h3', by simp; omega⟩
            · rw [if_neg h4]; right; right; right; right; exact ⟨rfl, h1, h3', by simp; omega⟩
      · rw [if_pos h1]; left; exact ⟨rfl, h1⟩
    have HA := hid (and_15 (pt.zs.getD 0 0) hz.1 hz.2)
    have hcv : IntKind.i64.wrap (numAt pt.zs 2 2) = numAt pt.zs 2 2 := by simp only [IntKind.wrap_i64]; omega
    have H0 := hid @need_no
    have H1 := hid @need_yes
    unfold Part.val at *
    rw [ha] at *
    clear hok hl ha
    have hl20 : (20 : Int) ≤ (pt.zs.length : Int) := by omega
    have hl0 : (0 : Int) < (pt.zs.length : Int) := by omega
    generalize pt.zs.getD 0 0 = z at *
    generalize numAt pt.zs 2 2 = N at *
    generalize lenE pt.zs = E at *
    generalize pt.zs.length = l at *
    clear hs
    have hand : bits BinOp.and IntKind.u8 z 15 = z % 16 := HA.out
    rcases hcase with ⟨rfl, c1⟩ | ⟨rfl, c1, c2, -⟩ | ⟨rfl, c1, c2, c3⟩ | ⟨rfl, c1, c3, c4⟩ | ⟨rfl, c1, c3, c4⟩
    · have q1 : (z / 16 == 4) = false := by simpa using c1
      clear c1
      have HX : Hid (upE 90 (.int .i64 N) = pan 90) := by unfold Hid upE; simp
      rw [HX.out]
      go_enter Try.func26, Try.ntmps26
      go_wp2_with (first
        | (go_at_call 27; (with_reducible refine (H1.out _ _).mono ?_); rintro e w1 ⟨rfl, hw⟩; subst w1)
        | (go_at_call 27; (with_reducible refine (H0.out _ _).mono ?_); rintro e w1 ⟨rfl, hw⟩; subst w1) | fail)
      exact ⟨rfl, rfl, rfl⟩
    · have q1 : decide (z % 16 ≤ 5) = false := by simpa using c2
      clear c2
      have HX : Hid (upE 91 (.int .i64 N) = pan 91) := by unfold Hid upE; simp
      rw [HX.out]
      go_enter Try.func26, Try.ntmps26
      go_wp2_with (first
        | (go_at_call 27; (with_reducible refine (H1.out _ _).mono ?_); rintro e w1 ⟨rfl, hw⟩; subst w1)
        | (go_at_call 27; (with_reducible refine (H0.out _ _).mono ?_); rintro e w1 ⟨rfl, hw⟩; subst w1) | fail)
      exact ⟨rfl, rfl, rfl⟩
    · have q1 : decide (z % 16 ≤ 5) = true := by simpa using c2
      have q2 : (z % 16 == 5) = false := by simpa using c3
      clear c2 c3
      have HX : Hid (upE 92 (.int .i64 N) = pan 92) := by unfold Hid upE; simp
      rw [HX.out]
      go_enter Try.func26, Try.ntmps26
      go_wp2_with (first
        | (go_at_call 27; (with_reducible refine (H1.out _ _).mono ?_); rintro e w1 ⟨rfl, hw⟩; subst w1)
        | (go_at_call 27; (with_reducible refine (H0.out _ _).mono ?_); rintro e w1 ⟨rfl, hw⟩; subst w1) | fail)
      exact ⟨rfl, rfl, rfl⟩
    · have HX : Hid (upE 92 (.int .i64 N) = pan 92) := by unfold Hid upE; simp
      rw [HX.out]
      generalize inB N 20 l = B at *
      subst c4
      go_enter Try.func26, Try.ntmps26
      go_wp2_with (first
        | (go_at_call 27; (with_reducible refine (H1.out _ _).mono ?_); rintro e w1 ⟨rfl, hw⟩; subst w1)
        | (go_at_call 27; (with_reducible refine (H0.out _ _).mono ?_); rintro e w1 ⟨rfl, hw⟩; subst w1)
        | (go_at_call 35; refine (HR.out _ (Below.refl _ _)).mono ?_; rintro e w1 ⟨rfl, hw⟩; subst w1)
        | (go_at_call 31; refine (HWI.out _).mono ?_; rintro e w1 ⟨rfl, hw⟩; subst w1) | fail)
      exact ⟨rfl, rfl, rfl⟩
    · have HX : Hid (upE 0 (.int .i64 N) = .returned (.int .i64 N)) := by unfold Hid upE; simp
      rw [HX.out]
      generalize inB N 20 l = B at *
      subst c4
      go_enter Try.func26, Try.ntmps26
      go_wp2_with (first
        | (go_at_call 27; (with_reducible refine (H1.out _ _).mono ?_); rintro e w1 ⟨rfl, hw⟩; subst w1)
        | (go_at_call 27; (with_reducible refine (H0.out _ _).mono ?_); rintro e w1 ⟨rfl, hw⟩; subst w1)
        | (go_at_call 35; refine (HR.out _ (Below.refl _ _)).mono ?_; rintro e w1 ⟨rfl, hw⟩; subst w1)
        | (go_at_call 31; refine (HWI.out _).mono ?_; rintro e w1 ⟨rfl, hw⟩; subst w1) | fail)
      go_ret
      exact ⟨rfl, rfl⟩

/-- the flags' fault; the bit that says that it must not be cut. -/
def fragE (F : Int) : Int := if F % 16384 = 0 then 0 else 94
def keepB (F : Int) : Bool := decide (F / 16384 % 2 = 1)
set_option maxRecDepth 20000 in
set_option maxHeartbeats 1000000 in
theorem readKeep_any (pt : Part) (w : World) (hok : pt.ok w) (hl : pt.zs.length ≤ 281474976710656) (hs : 20 ≤ pt.zs.length) :
    Calls Try.prog 36 #[pt.val] w fun e w' => e = upE (fragE (numAt pt.zs 6 2)) (.bool (keepB (numAt pt.zs 6 2))) ∧ w' = w := by
  have hnb := (numAt_bd hok.1 6).2.1
  have HR : Hid (∀ w' : World, Below w.heap.size w w' → Calls Try.prog 35 #[pt.val, .int .i64 6, .int .i64 8] w' fun e w'' => e = .returned (.int .u32 (numAt pt.zs 6 2)) ∧ w'' = w') := fun w' hb => read_any pt 6 8 2 w' (Part.ok_below hok hb) hl rfl (by omega) (Or.inr (Or.inl rfl))
  have H0 := hid @need_no
  have H1 := hid @need_yes
  unfold Part.val at *
  generalize numAt pt.zs 6 2 = N at *
  have ha := and_3fff N hnb.1 hnb.2
  have hk := and_4000 N hnb.1 hnb.2
  clear hok hl hs hnb
  generalize pt.zs.length = l at *
  by_cases h : N % 16384 = 0
  · have HX : Hid (upE (fragE N) (.bool (keepB N)) = .returned (.bool (keepB N))) := by unfold Hid upE fragE; simp [h]
    rw [HX.out]
    by_cases h2 : N / 16384 % 2 = 1
    · have e2 : keepB N = true := by simp [keepB, h2]
      have h3 : bits BinOp.and IntKind.u32 N 16384 = 16384 := by rw [hk]; omega
      rw [e2]
      clear hk HX
      rw [h] at ha
      go_enter Try.func36, Try.ntmps36
      go_wp2_with (first
        | (go_at_call 27; (with_reducible refine (H1.out _ _).mono ?_); rintro e w1 ⟨rfl, hw⟩; subst w1)
        | (go_at_call 35; refine (HR.out _ (Below.refl _ _)).mono ?_; rintro e w1 ⟨rfl, hw⟩; subst w1) | fail)
      go_ret
      exact ⟨rfl, rfl⟩
    · have e2 : keepB N = false := by simp [keepB, h2]
      have h3 : bits BinOp.and IntKind.u32 N 16384 = 0 := by rw [hk]; omega
      rw [e2]
      clear hk HX
      rw [h] at ha
      go_enter Try.func36, Try.ntmps36
      go_wp2_with (first
        | (go_at_call 27; (with_reducible refine (H1.out _ _).mono ?_); rintro e w1 ⟨rfl, hw⟩; subst w1)
        | (go_at_call 35; refine (HR.out _ (Below.refl _ _)).mono ?_; rintro e w1 ⟨rfl, hw⟩; subst w1) | fail)
      go_ret
      exact ⟨rfl, rfl⟩
  · have q1 : (N % 16384 == 0) = false := by simpa using h
    have HX : Hid (upE (fragE N) (.bool (keepB N)) = pan 94) := by unfold Hid upE fragE; simp [h]
    rw [HX.out]
    clear hk HX
    go_enter Try.func36, Try.ntmps36
    go_wp2_with (first
        | (go_at_call 27; (with_reducible refine (H0.out _ _).mono ?_); rintro e w1 ⟨rfl, hw⟩; subst w1)
        | (go_at_call 35; refine (HR.out _ (Below.refl _ _)).mono ?_; rintro e w1 ⟨rfl, hw⟩; subst w1) | fail)
    exact ⟨rfl, rfl, rfl⟩
def ttlE (T : Int) : Int := if T = 0 then 95 else 0
set_option maxRecDepth 20000 in
set_option maxHeartbeats 1000000 in
theorem readTtl_any (pt : Part) (w : World) (hok : pt.ok w) (hl : pt.zs.length ≤ 281474976710656) (hs : 20 ≤ pt.zs.length) :
    Calls Try.prog 37 #[pt.val] w fun e w' => e = upE (ttlE (numAt pt.zs 8 1)) (.int .i64 (numAt pt.zs 8 1)) ∧ w' = w := by
  have hnb := (numAt_bd hok.1 8).1
  have HR : Hid (∀ w' : World, Below w.heap.size w w' → Calls Try.prog 35 #[pt.val, .int .i64 8, .int .i64 9] w' fun e w'' => e = .returned (.int .u32 (numAt pt.zs 8 1)) ∧ w'' = w') := fun w' hb => read_any pt 8 9 1 w' (Part.ok_below hok hb) hl rfl (by omega) (Or.inl rfl)
  have H0 := hid @need_no
  have H1 := hid @need_yes
  unfold Part.val at *
  generalize numAt pt.zs 8 1 = N at *
  have hcv : IntKind.i64.wrap N = N := by simp only [IntKind.wrap_i64]; omega
  clear hok hl hs
  generalize pt.zs.length = l at *
  by_cases h : N = 0
  · have HX : Hid (upE (ttlE N) (.int .i64 N) = pan 95) := by unfold Hid upE ttlE; simp [h]
    rw [HX.out]
    subst h
    clear HX hcv
    go_enter Try.func37, Try.ntmps37
    go_wp2_with (first
        | (go_at_call 27; (with_reducible refine (H0.out _ _).mono ?_); rintro e w1 ⟨rfl, hw⟩; subst w1)
        | (go_at_call 35; refine (HR.out _ (Below.refl _ _)).mono ?_; rintro e w1 ⟨rfl, hw⟩; subst w1) | fail)
    exact ⟨rfl, rfl, rfl⟩
  · have q1 : (N != 0) = true := by simpa using h
    have HX : Hid (upE (ttlE N) (.int .i64 N) = .returned (.int .i64 N)) := by unfold Hid upE ttlE; simp [h]
    rw [HX.out]
    clear HX
    go_enter Try.func37, Try.ntmps37
    go_wp2_with (first
        | (go_at_call 27; (with_reducible refine (H1.out _ _).mono ?_); rintro e w1 ⟨rfl, hw⟩; subst w1)
        | (go_at_call 35; refine (HR.out _ (Below.refl _ _)).mono ?_; rintro e w1 ⟨rfl, hw⟩; subst w1) | fail)
    go_ret
    exact ⟨rfl, rfl⟩
end Go.Proofs.Ytccmkljbedddiaa
