/-
  The walk of the statement OctetMasks.
-/
import Derived.Test.YtakjcjddbgapiabDoorMaskMath
import Derived.Deep.RegionHeld3
namespace Go.Proofs.YtakjcjddbgapiabDoor
open Go.RowKit
set_option linter.unusedVariables false

theorem bit_form (m k : Nat) : ((m : Int) / 2 ^ k).tmod 2 = ((m / 2 ^ k % 2 : Nat) : Int) := by
  have e : ((m : Int) / 2 ^ k) = ((m / 2 ^ k : Nat) : Int) := by rw [Int.natCast_ediv, Int.natCast_pow]; rfl
  rw [e, Int.tmod_eq_emod_of_nonneg (Int.natCast_nonneg _)]
  rw [Int.natCast_emod]; rfl

set_option maxHeartbeats 400000 in
theorem refOnes_any (m : Nat) (w : World) (h1 : m < 4294967296) :
    Calls Tryd.prog 22 #[.int .u32 m] w fun e w' => (∃ r, e = .returned (.int .i64 r) ∧ IsOnes m r) ∧ w' = w := by
  go_enter Tryd.func22, Tryd.ntmps22
  go_wp2
  go_loop [3, 4] (fun t i => ∃ k n : Nat, n ≤ k ∧ k ≤ 32 ∧ i = .int .i64 k ∧ t = .int .i64 n ∧ m / 2 ^ (32 - k) = 2 ^ k - 2 ^ (k - n)) (fun _ i => 32 - (intOf i).toNat)
  case atStart => exact ⟨0, 0, by omega, by omega, rfl, rfl, by simp; omega⟩
  case round =>
    obtain ⟨k, n, hn, hk, rfl, rfl, htop⟩ := hrel
    have HTOP : Hid (m / 2 ^ (32 - k) = 2 ^ k - 2 ^ (k - n)) := htop
    clear htop
    by_cases hlt : k < 32
    · have hnx := top_next m k hlt
      rw [HTOP.out, pow_next k n hn] at hnx
      have hbf := bit_form m (31 - k)
      by_cases hb : m / 2 ^ (31 - k) % 2 = 1
      · rw [hb] at hnx hbf
        have hbb : (((m : Int) / 2 ^ (31 - k)).tmod 2 == 1) = true := by rw [hbf]; rfl
        have HNX : Hid (m / 2 ^ (31 - k) = 2 ^ (k + 1) - 2 ^ (k + 1 - n) + 1) := hnx
        have HB : Hid (m / 2 ^ (31 - k) % 2 = 1) := hb
        clear hnx hbf hb
        by_cases hnk : n < k
        · have HNO : Hid (∀ q : Nat, q ≤ 32 → ¬ (m : Int) = 4294967296 - 2 ^ (32 - q)) := fun q hq e => by
            have hp : ((2 ^ (32 - q) : Nat) : Int) = (2 : Int) ^ (32 - q) := by rw [Int.natCast_pow]; rfl
            have hle : 2 ^ (32 - q) ≤ 4294967296 := Nat.pow_le_pow_right (n := 2) (by omega) (show 32 - q ≤ 32 by omega)
            rw [← hp] at e
            have em : m = 4294967296 - 2 ^ (32 - q) := by omega
            have h1 := HTOP.out
            have h2 := HB.out
            rw [em] at h1 h2
            exact no_mask ⟨k, by omega⟩ ⟨n, by omega⟩ ⟨q, by omega⟩ hlt hnk h1 h2
          go_wp2
          go_ret
          exact ⟨⟨-1, rfl, Or.inr ⟨HNO.out, rfl⟩⟩, rfl⟩
        · have hnk2 : n = k := by omega
          subst hnk2
          go_wp2
          go_round
          case rel =>
            refine ⟨n + 1, n + 1, by omega, by omega, by go_num, by go_num, ?_⟩
            rw [show 32 - (n + 1) = 31 - n from by omega, HNX.out, show n + 1 - n = 1 from by omega, Nat.sub_self, Nat.pow_succ]
            have : 1 ≤ 2 ^ n := Nat.one_le_two_pow
            omega
          case measure => simp [intOf]; omega
      · have hb0 : m / 2 ^ (31 - k) % 2 = 0 := by omega
        rw [hb0] at hnx hbf
        have hbb : (((m : Int) / 2 ^ (31 - k)).tmod 2 == 1) = false := by rw [hbf]; rfl
        have HNX : Hid (m / 2 ^ (31 - k) = 2 ^ (k + 1) - 2 ^ (k + 1 - n)) := hnx
        clear hnx hbf hb hb0
        go_wp2
        go_round
        case rel => exact ⟨k + 1, n, by omega, by omega, by go_num, rfl, by rw [show 32 - (k + 1) = 31 - k from by omega, HNX.out]⟩
        case measure => simp [intOf]; omega
    · have hk32 : k = 32 := by omega
      subst hk32
      have HE : Hid ((m : Int) = 4294967296 - 2 ^ (32 - n)) := by
        have h := HTOP.out
        have hp : ((2 ^ (32 - n) : Nat) : Int) = (2 : Int) ^ (32 - n) := by rw [Int.natCast_pow]; rfl
        have hle : 2 ^ (32 - n) ≤ 4294967296 := Nat.pow_le_pow_right (n := 2) (by omega) (show 32 - n ≤ 32 by omega)
        unfold Hid
        rw [← hp]
        simp only [Nat.sub_self, Nat.pow_zero, Nat.div_one, Nat.reducePow] at h
        omega
      go_wp2
      go_ret
      exact ⟨⟨n, rfl, Or.inl ⟨n, hn, HE.out, rfl⟩⟩, rfl⟩

theorem ret_bool2 {a b : Bool} (h : a = b) : Ending.returned (.bool a) = .returned (.bool b) := by rw [h]
set_option maxHeartbeats 400000 in
theorem isMask_any (m : Int) (w : World) (h0 : 0 ≤ m) (h1 : m ≤ 4294967295) :
    Calls Tryd.prog 24 #[.int .u32 m] w fun e w' => e = .returned (.bool (onesV m != -1)) ∧ w' = w := by
  go_enter Tryd.func24, Tryd.ntmps24
  go_wp2_with (go_at_call 23; refine (ones_any _ _ h0 h1).mono ?_; rintro e w' ⟨rfl, rfl⟩)
  go_ret
  exact ⟨rfl, rfl⟩

set_option maxHeartbeats 400000 in
theorem refIsHost_any (m : Int) (w : World) (h0 : 0 ≤ m) (h1 : m ≤ 4294967295) :
    Calls Tryd.prog 26 #[.int .u32 m] w fun e w' => e = .returned (.bool (hostB m)) ∧ w' = w := by
  have HV : Hid (hostB m = decide (1 ≤ m / 16777216 ∧ m / 16777216 ≤ 223 ∧ ¬ m / 16777216 = 127)) := rfl
  go_enter Tryd.func26, Tryd.ntmps26
  go_wp2
  · go_ret
    exact ⟨ret_bool (by rw [HV.out, Bool.eq_iff_iff]; simp; omega), rfl⟩
  · go_ret
    exact ⟨ret_bool (by rw [HV.out]; simp; omega), rfl⟩
  · go_ret
    exact ⟨ret_bool (by rw [HV.out]; simp; omega), rfl⟩

theorem and_1 (v : Int) (h0 : 0 ≤ v) (h1 : v ≤ 255) : bits BinOp.and IntKind.u8 v 1 = v % 2 := by
  rw [u8_and v 1 h0 (by omega) (by omega) (by omega)]
  rw [show (1 : Int).toNat = 2 ^ 1 - 1 from rfl, Nat.and_two_pow_sub_one_eq_mod]
  omega
set_option maxHeartbeats 400000 in
theorem group_any (b0 b1 b2 b3 b4 b5 : Int) (w : World) (h0 : 0 ≤ b0 ∧ b0 ≤ 255) :
    Calls Tryd.prog 27 #[.agg #[.int .u8 b0, .int .u8 b1, .int .u8 b2, .int .u8 b3, .int .u8 b4, .int .u8 b5]] w fun e w' => e = .returned (.bool (b0 % 2 == 1)) ∧ w' = w.alloc (.cells #[.int .u8 b0, .int .u8 b1, .int .u8 b2, .int .u8 b3, .int .u8 b4, .int .u8 b5] 34) := by
  have ha := and_1 b0 h0.1 h0.2
  go_enter Tryd.func27, Tryd.ntmps27
  go_wp2
  go_ret
  exact ⟨rfl, rfl⟩
set_option maxHeartbeats 400000 in
theorem refGroup_any (b0 b1 b2 b3 b4 b5 : Int) (w : World) (h0 : 0 ≤ b0 ∧ b0 ≤ 255) :
    Calls Tryd.prog 28 #[.agg #[.int .u8 b0, .int .u8 b1, .int .u8 b2, .int .u8 b3, .int .u8 b4, .int .u8 b5]] w fun e w' => e = .returned (.bool (b0 % 2 == 1)) ∧ w' = w.alloc (.cells #[.int .u8 b0, .int .u8 b1, .int .u8 b2, .int .u8 b3, .int .u8 b4, .int .u8 b5] 34) := by
  go_enter Tryd.func28, Tryd.ntmps28
  go_wp2
  go_ret
  exact ⟨by first | rfl | (apply ret_bool2; congr 1; omega), rfl⟩

set_option maxHeartbeats 1000000 in
theorem octetMasks_walk (m b0 b1 b2 b3 b4 b5 : Int) (w : World) (ht : Pow10 w) (hm : 0 ≤ m ∧ m ≤ 4294967295) (h0 : 0 ≤ b0 ∧ b0 ≤ 255) (h1 : 0 ≤ b1 ∧ b1 ≤ 255) (h2 : 0 ≤ b2 ∧ b2 ≤ 255) (h3 : 0 ≤ b3 ∧ b3 ≤ 255) (h4 : 0 ≤ b4 ∧ b4 ≤ 255) (h5 : 0 ≤ b5 ∧ b5 ≤ 255) :
    Calls Tryd.prog 8 #[.int .u32 m, .agg #[.int .u8 b0, .int .u8 b1, .int .u8 b2, .int .u8 b3, .int .u8 b4, .int .u8 b5]] w fun e w' => e = .returned (.bool true) ∧ Below w.heap.size w w' := by
  have HT : Hid (∀ w', Below w.heap.size w w' → Pow10 w') := Lib.tabBelow_of_tabIs ht
  have HV := onesV_is m hm.1 hm.2
  obtain ⟨v, hv⟩ : ∃ v, v = onesV m := ⟨_, rfl⟩
  have HO : Hid (∀ w, Calls Tryd.prog 23 #[.int .u32 m] w fun e w' => e = .returned (.int .i64 v) ∧ w' = w) := fun w => by rw [hv]; exact ones_any m w hm.1 hm.2
  have HM : Hid (∀ w, Calls Tryd.prog 24 #[.int .u32 m] w fun e w' => e = .returned (.bool (v != -1)) ∧ w' = w) := fun w => by rw [hv]; exact isMask_any m w hm.1 hm.2
  have HR : Hid (∀ w, Calls Tryd.prog 22 #[.int .u32 m] w fun e w' => e = .returned (.int .i64 v) ∧ w' = w) := fun w => by
    obtain ⟨M, hM⟩ := Int.eq_ofNat_of_zero_le hm.1
    rw [hM]
    refine (refOnes_any M w (by omega)).mono ?_
    rintro e w' ⟨⟨r, rfl, hr⟩, hw⟩
    rw [← hM] at hr
    exact ⟨by rw [hv, hr.one HV], hw⟩
  have hvb : (v != -1) = decide (0 ≤ v) := by
    rw [Bool.eq_iff_iff]
    simp only [bne_iff_ne, ne_eq, decide_eq_true_eq]
    rw [← hv] at HV
    rcases HV with ⟨n, _, _, rfl⟩ | ⟨_, rfl⟩ <;> omega
  have HH : Hid (∀ w, Calls Tryd.prog 25 #[.int .u32 m] w fun e w' => e = .returned (.bool (hostB m)) ∧ w' = w) := fun w => isHost_any m w hm.1 hm.2
  have HH2 : Hid (∀ w, Calls Tryd.prog 26 #[.int .u32 m] w fun e w' => e = .returned (.bool (hostB m)) ∧ w' = w) := fun w => refIsHost_any m w hm.1 hm.2
  clear ht HV hv
  go_enter Tryd.func8, Tryd.ntmps8
  go_wp2_with fail
  refine (live_any _ (HT.out _ ((Below.refl _ _).alloc (Nat.le_refl _) _))).mono ?_
  rintro e w1 ⟨rfl, hb1⟩
  have hc1 : ∀ o, w1.cell? ⟨w.heap.size, o, none⟩ = (#[.int .u8 b0, .int .u8 b1, .int .u8 b2, .int .u8 b3, .int .u8 b4, .int .u8 b5] : Array Value)[o]? := fun o => by
    rw [hb1.cell (p := ⟨w.heap.size, o, none⟩) (by simp), World.cell?_alloc_at _ _ _ _ rfl]
  have hz1 : w.heap.size + 1 ≤ w1.heap.size := by have := hb1.size; simpa using this
  have hz1a : w.heap.size < w1.heap.size := by omega
  have hz1b : w.heap.size < w1.heap.size + 1 := by omega
  have HB1 : Hid (Below w.heap.size w w1) := ((Below.refl _ _).alloc (Nat.le_refl _) _).trans (hb1.mono (by simp))
  clear hb1
  go_wp2_with fail
  refine (HR.out _).mono ?_
  rintro e w2 ⟨rfl, rfl⟩
  go_wp2_with fail
  go_region_held3 (fun w' => ∀ o, w'.cell? ⟨w.heap.size, o, none⟩ = (#[.int .u8 b0, .int .u8 b1, .int .u8 b2, .int .u8 b3, .int .u8 b4, .int .u8 b5] : Array Value)[o]?) (first | (intro o; go_simp; done) | go_keep) (first
    | (go_at_call 23; refine (HO.out _).mono ?_; rintro e w' ⟨rfl, rfl⟩)
    | (go_at_call 24; refine (HM.out _).mono ?_; rintro e w' ⟨rfl, rfl⟩)
    | (go_at_call 25; refine (HH.out _).mono ?_; rintro e w' ⟨rfl, rfl⟩)
    | (go_at_call 26; refine (HH2.out _).mono ?_; rintro e w' ⟨rfl, rfl⟩)
    | (go_at_call 27; refine (group_any _ _ _ _ _ _ _ h0).mono ?_; rintro e w' ⟨rfl, rfl⟩)
    | (go_at_call 28; refine (refGroup_any _ _ _ _ _ _ _ h0).mono ?_; rintro e w' ⟨rfl, rfl⟩))
  all_goals go_wp2
  all_goals go_ret
  all_goals exact ⟨by simp, ((HB1.out.alloc (by omega) _).alloc (by simp; omega) _).drew⟩
end Go.Proofs.YtakjcjddbgapiabDoor
