/-
  The contracts of slipwayref02.digit, half and Unhex.
-/
import Derived.Test.YtanmidiapbghnaaDLive
namespace Go.Proofs.Ytanmidiapbghnaa
open Go.RowKit
set_option linter.unusedVariables false
set_option linter.unusedSimpArgs false

set_option maxHeartbeats 400000 in
theorem digit_any (y : Int) (w : World) (h0 : 0 ≤ y) (h1 : y < 16) : Calls Try.prog 33 #[.int .u8 y] w fun e w' => e = .returned (.int .u8 (hexd y)) ∧ w' = w := by
  by_cases h : y < 10
  · have HE : Hid (hexd y = 48 + y) := by unfold Hid hexd; rw [if_pos h]
    go_enter Try.func33, Try.ntmps33
    go_wp2
    go_ret
    exact ⟨by rw [HE.out]; rfl, rfl⟩
  · have HE : Hid (hexd y = 97 + y - 10) := by unfold Hid hexd; rw [if_neg h]; omega
    go_enter Try.func33, Try.ntmps33
    go_wp2
    go_ret
    exact ⟨by rw [HE.out]; rfl, rfl⟩

set_option maxHeartbeats 800000 in
theorem half_yes (c : Int) (w : World) (h0 : 0 ≤ c) (h1 : c ≤ 255) (hy : 0 ≤ hvI c) : Calls Try.prog 34 #[.int .u8 c] w fun e w' => e = .returned (.tuple #[.int .u8 (hvI c), .bool true]) ∧ w' = w := by
  by_cases a1 : 48 ≤ c ∧ c ≤ 57
  · have HE : Hid (hvI c = c - 48) := by unfold Hid hvI; rw [if_pos a1]
    obtain ⟨a2, a3⟩ := a1
    generalize hvI c = V at *
    clear hy
    go_enter Try.func34, Try.ntmps34
    go_wp2
    go_ret2
    exact ⟨by rw [HE.out]; rfl, rfl⟩
  · by_cases a2 : 97 ≤ c ∧ c ≤ 102
    · have HE : Hid (hvI c = c - 97 + 10) := by unfold Hid hvI; rw [if_neg a1, if_pos a2]; omega
      obtain ⟨a3, a4⟩ := a2
      have b1 : 48 ≤ c := by omega
      have b2 : ¬ c ≤ 57 := by omega
      generalize hvI c = V at *
      clear a1 hy
      go_enter Try.func34, Try.ntmps34
      go_wp2
      go_ret2
      exact ⟨by rw [HE.out]; rfl, rfl⟩
    · have : hvI c = -1 := by unfold hvI; rw [if_neg a1, if_neg a2]
      omega
set_option maxHeartbeats 800000 in
theorem half_no (c : Int) (w : World) (h0 : 0 ≤ c) (h1 : c ≤ 255) (hy : ¬ 0 ≤ hvI c) : Calls Try.prog 34 #[.int .u8 c] w fun e w' => e = .returned (.tuple #[.int .u8 0, .bool false]) ∧ w' = w := by
  have a1 : ¬ (48 ≤ c ∧ c ≤ 57) := fun h => by unfold hvI at hy; rw [if_pos h] at hy; omega
  have a2 : ¬ (97 ≤ c ∧ c ≤ 102) := fun h => by unfold hvI at hy; rw [if_neg a1, if_pos h] at hy; omega
  clear hy
  by_cases b1 : 48 ≤ c
  · have b2 : ¬ c ≤ 57 := fun h => a1 ⟨b1, h⟩
    by_cases b3 : 97 ≤ c
    · have b4 : ¬ c ≤ 102 := fun h => a2 ⟨b3, h⟩
      clear a1 a2
      go_enter Try.func34, Try.ntmps34
      go_wp2
      go_ret2
      exact ⟨rfl, rfl⟩
    · clear a1 a2
      go_enter Try.func34, Try.ntmps34
      go_wp2
      go_ret2
      exact ⟨rfl, rfl⟩
  · have b3 : ¬ 97 ≤ c := by omega
    clear a1 a2
    go_enter Try.func34, Try.ntmps34
    go_wp2
    go_ret2
    exact ⟨rfl, rfl⟩

theorem unK_two (f : Nat → Int) (k : Nat) (h : k < 32) : (unK f (2 * k)).set k (16 * f (2 * k) + f (2 * k + 1)) = unK f (2 * (k + 1)) := by
  have e1 := unK_next f (2 * k) (by omega) (f (2 * k)) (by rw [if_pos (by omega)])
  have e2 := unK_next f (2 * k + 1) (by omega) (16 * f (2 * k) + f (2 * k + 1)) (by rw [if_neg (by omega), show 2 * k + 1 - 1 = 2 * k by omega])
  rw [show 2 * k / 2 = k by omega] at e1
  rw [show (2 * k + 1) / 2 = k by omega, ← e1, List.set_set] at e2
  exact e2
theorem Uh.two {w wr : World} {f : Nat → Int} {k : Nat} (h : Uh w f (2 * k) wr) (hk : k < 32) (h0 : 0 ≤ f (2 * k)) (h1 : 0 ≤ f (2 * k + 1)) : Uh w f (2 * (k + 1)) (wr.setCell ⟨w.heap.size + 1, k, none⟩ (.int .u8 (16 * f (2 * k) + f (2 * k + 1)))) := by
  refine ⟨?_, ?_, fun j hj => ?_, ?_⟩
  · rw [Below.heap_setCell _ _ _ _ (by simp)]; exact h.res
  · rw [heap_setCell_at h.dig, ← unK_two f k hk]
    simp [u8s, List.map_set]
  · rcases Nat.lt_or_ge j (2 * k) with h2 | h2
    · exact h.good j h2
    · rcases (show j = 2 * k ∨ j = 2 * k + 1 by omega) with rfl | rfl <;> assumption
  · exact h.below.trans ((But.setCell (w.heap.size + 1) _ _ _).below (by omega) h.below.size)

theorem idx_str (s : ByteArray) (i : Nat) (h : i < s.size) (x : Int) (hx : x = i) (w : World) : (Instr.index 9 (.string s) (.int .i64 x)).run Try.prog w = .ok (.int .u8 (s[i].toNat : Int)) w := by
  subst hx
  simp [Instr.index, asIntOf, run_underlying Try.underlying9, h]
set_option maxRecDepth 20000 in
set_option maxHeartbeats 1000000 in
theorem refUnhex_any (s : ByteArray) (w : World) :
    Calls Try.prog 26 #[.string s] w fun e w' => ((goodS s ∧ e = .returned (.tuple #[.agg (u8s (unK (sgn s) 64)).toArray, .int .i64 0])) ∨ (¬ goodS s ∧ e = .returned (.tuple #[.agg (u8s z32).toArray, .int .i64 20]))) ∧ Below w.heap.size w w' := by
  have HST : Hid (Uh w (sgn s) 0 _) := Uh.start w (sgn s)
  have hzl := z32_len
  by_cases h64 : s.size = 64
  · have h64i : (s.size : Int) = 64 := by omega
    have H64 : Hid (s.size = 64) := h64
    clear h64
    go_enter Try.func26, Try.ntmps26
    go_wp2_with (first
      | (refine wpList_alloc_to rfl 26 rfl (u8s z32).toArray (by kernel_rfl) ?_))
    go_loopw [5] (fun i wr => ∃ k : Nat, k ≤ 32 ∧ i = .int .i64 k ∧ Uh w (sgn s) (2 * k) wr) (fun i _ => 32 - (intOf i).toNat)
    case atStart => exact ⟨0, by omega, rfl, HST.out⟩
    case round =>
      obtain ⟨k, hk, rfl, hu⟩ := hrel
      have HU : Hid (Uh w (sgn s) (2 * k) wr) := hu
      by_cases hlt : k < 32
      · have hlt2 : (k : Int) < 32 := by omega
        have hk1 : 2 * k < s.size := by rw [H64.out]; omega
        have hk2 : 2 * k + 1 < s.size := by rw [H64.out]; omega
        have hi1 := idx_str s (2 * k) hk1 (2 * (k : Int)) (by omega)
        have hi2 := idx_str s (2 * k + 1) hk2 (2 * (k : Int) + 1) (by omega)
        have HH1y : Hid (0 ≤ sgn s (2 * k) → ∀ w, Calls Try.prog 34 #[.int .u8 (s[2 * k].toNat : Int)] w fun e w' => e = .returned (.tuple #[.int .u8 (sgn s (2 * k)), .bool true]) ∧ w' = w) := fun h w => by
          rw [sgn_at s (2 * k) hk1] at h ⊢
          have := s[2 * k].toNat_lt
          exact half_yes _ w (by omega) (by omega) h
        have HH1n : Hid (¬ 0 ≤ sgn s (2 * k) → ∀ w, Calls Try.prog 34 #[.int .u8 (s[2 * k].toNat : Int)] w fun e w' => e = .returned (.tuple #[.int .u8 0, .bool false]) ∧ w' = w) := fun h w => by
          rw [sgn_at s (2 * k) hk1] at h
          have := s[2 * k].toNat_lt
          exact half_no _ w (by omega) (by omega) h
        have HH2y : Hid (0 ≤ sgn s (2 * k + 1) → ∀ w, Calls Try.prog 34 #[.int .u8 (s[2 * k + 1].toNat : Int)] w fun e w' => e = .returned (.tuple #[.int .u8 (sgn s (2 * k + 1)), .bool true]) ∧ w' = w) := fun h w => by
          rw [sgn_at s (2 * k + 1) hk2] at h ⊢
          have := s[2 * k + 1].toNat_lt
          exact half_yes _ w (by omega) (by omega) h
        have HH2n : Hid (¬ 0 ≤ sgn s (2 * k + 1) → ∀ w, Calls Try.prog 34 #[.int .u8 (s[2 * k + 1].toNat : Int)] w fun e w' => e = .returned (.tuple #[.int .u8 0, .bool false]) ∧ w' = w) := fun h w => by
          rw [sgn_at s (2 * k + 1) hk2] at h
          have := s[2 * k + 1].toNat_lt
          exact half_no _ w (by omega) (by omega) h
        have HNG : Hid ((sgn s (2 * k) < 0 ∨ sgn s (2 * k + 1) < 0) → ¬ goodS s) := fun h hg => by
          have g1 := hg.2 (2 * k) (by omega)
          have g2 := hg.2 (2 * k + 1) (by omega)
          omega
        have HTW : Hid (0 ≤ sgn s (2 * k) → 0 ≤ sgn s (2 * k + 1) → Uh w (sgn s) (2 * (k + 1)) (wr.setCell ⟨w.heap.size + 1, k, none⟩ (.int .u8 (16 * sgn s (2 * k) + sgn s (2 * k + 1))))) := fun a b => hu.two hlt a b
        obtain ⟨v, hv⟩ : ∃ v, wr.cell? ⟨w.heap.size + 1, k, none⟩ = some v := ⟨_, by rw [cell_of_heap hu.dig, u8s_at _ _ (by rw [unK_len]; omega)]⟩
        have f1 : wr.frozen? ⟨w.heap.size + 1, k, none⟩ = false := frozen_of_heap hu.dig _
        have bl1 := sgn_le s (2 * k)
        have bl2 := sgn_le s (2 * k + 1)
        generalize s[2 * k].toNat = c1 at *
        generalize s[2 * k + 1].toNat = c2 at *
        generalize sgn s (2 * k) = p at *
        generalize sgn s (2 * k + 1) = q at *
        clear hu
        by_cases hp : 0 ≤ p
        · by_cases hq : 0 ≤ q
          · have HH1 : Hid _ := HH1y.out hp
            have HH2 : Hid _ := HH2y.out hq
            clear HH1y HH1n HH2y HH2n
            go_wp2_with (first
              | (go_at_call_of 34 (Value.int IntKind.u8 (c1 : Int)); refine (HH1.out _).mono ?_; rintro en w' ⟨rfl, rfl⟩)
              | (go_at_call_of 34 (Value.int IntKind.u8 (c2 : Int)); refine (HH2.out _).mono ?_; rintro en w' ⟨rfl, rfl⟩))
            refine ⟨⟨k + 1, by omega, by go_num, ?_⟩, by simp [intOf]; omega⟩
            have := HTW.out hp hq
            rw [show 16 * p + q = p * 16 + q by omega] at this
            exact this
          · have HH1 : Hid _ := HH1y.out hp
            have HH2 : Hid _ := HH2n.out hq
            clear HH1y HH1n HH2y HH2n
            go_wp2_with (first
              | (go_at_call_of 34 (Value.int IntKind.u8 (c1 : Int)); refine (HH1.out _).mono ?_; rintro en w' ⟨rfl, rfl⟩)
              | (go_at_call_of 34 (Value.int IntKind.u8 (c2 : Int)); refine (HH2.out _).mono ?_; rintro en w' ⟨rfl, rfl⟩)
              | (refine wpList_build_to rfl 26 _ rfl (u8s z32).toArray (by kernel_rfl) ?_)
              | (refine wpList_store_row rfl 26 _ _ rfl w.heap.size (u8s z32).toArray rfl rfl 26 (u8s z32).toArray HU.out.res (by rw [size32]; simp [z32_len]) rfl (all_oneCell_toArray (u8s_one _)) ?_))
            exact bodyPost_ret (results_row_tmp (P := Try.prog) rfl _ _ w.heap.size 26 (u8s z32).toArray (0, 0) _ rfl (setRow_heap _ _ _ _ _ _ HU.out.res) Try.underlying26 rfl (by rw [size32]; simp [z32_len])) rfl ⟨Or.inr ⟨HNG.out (by omega), rfl⟩, below_setRow HU.out.below (Nat.le_refl _) _⟩
        · have HH2' : Hid (∃ x b, ∀ w, Calls Try.prog 34 #[.int .u8 (c2 : Int)] w fun e w' => e = .returned (.tuple #[.int .u8 x, .bool b]) ∧ w' = w) := by
            by_cases hq : 0 ≤ q
            · exact ⟨_, _, HH2y.out hq⟩
            · exact ⟨_, _, HH2n.out hq⟩
          obtain ⟨x2, b2, h2⟩ := HH2'.out
          have HH3 : Hid (∀ w, Calls Try.prog 34 #[.int .u8 (c2 : Int)] w fun e w' => e = .returned (.tuple #[.int .u8 x2, .bool b2]) ∧ w' = w) := h2
          have HH1 : Hid _ := HH1n.out hp
          clear h2 HH2' HH1y HH1n HH2y HH2n
          go_wp2_with (first
            | (go_at_call_of 34 (Value.int IntKind.u8 (c1 : Int)); refine (HH1.out _).mono ?_; rintro en w' ⟨rfl, rfl⟩)
            | (go_at_call_of 34 (Value.int IntKind.u8 (c2 : Int)); refine (HH3.out _).mono ?_; rintro en w' ⟨rfl, rfl⟩)
            | (refine wpList_build_to rfl 26 _ rfl (u8s z32).toArray (by kernel_rfl) ?_)
            | (refine wpList_store_row rfl 26 _ _ rfl w.heap.size (u8s z32).toArray rfl rfl 26 (u8s z32).toArray HU.out.res (by rw [size32]; simp [z32_len]) rfl (all_oneCell_toArray (u8s_one _)) ?_))
          exact bodyPost_ret (results_row_tmp (P := Try.prog) rfl _ _ w.heap.size 26 (u8s z32).toArray (0, 0) _ rfl (setRow_heap _ _ _ _ _ _ HU.out.res) Try.underlying26 rfl (by rw [size32]; simp [z32_len])) rfl ⟨Or.inr ⟨HNG.out (by omega), rfl⟩, below_setRow HU.out.below (Nat.le_refl _) _⟩
      · obtain rfl : k = 32 := by omega
        have HGD : Hid (goodS s) := ⟨H64.out, hu.good⟩
        have HDL : Hid ((u8s (unK (sgn s) 64)).length = 32) := by unfold Hid; rw [u8s_len, unK_len]
        have HDG : Hid (wr.heap[w.heap.size + 1]? = some (.cells (u8s (unK (sgn s) 64)).toArray 26 (0, 0))) := hu.dig
        have hge : ¬ ((32 : Nat) : Int) < 32 := by omega
        obtain ⟨S, hS⟩ : ∃ S, S = unK (sgn s) 64 := ⟨_, rfl⟩
        have HS : Hid (S = unK (sgn s) 64) := hS
        rw [← hS] at HDL HDG
        clear hu hlt hS
        go_wp2_with (first
          | (refine wpList_load_row rfl 26 _ rfl (w.heap.size + 1) rfl 26 (u8s S).toArray (0, 0) _ HDG.out Try.underlying26 rfl (by rw [size32]; simp [HDL.out]) ?_)
          | (refine wpList_store_row rfl 26 _ _ rfl w.heap.size (u8s S).toArray rfl rfl 26 (u8s z32).toArray HU.out.res (by rw [size32]; simp [HDL.out]) (by simp [HDL.out, z32_len]) (all_oneCell_toArray (u8s_one _)) ?_))
        refine bodyPost_ret (results_row_tmp (P := Try.prog) rfl _ _ w.heap.size 26 (u8s S).toArray (0, 0) _ rfl (setRow_heap _ _ _ _ _ _ HU.out.res) Try.underlying26 rfl (by rw [size32]; simp [HDL.out])) rfl ⟨Or.inl ⟨HGD.out, by rw [HS.out]; rfl⟩, below_setRow HU.out.below (Nat.le_refl _) _⟩
  · have HNG : Hid (¬ goodS s) := fun h => h64 h.1
    have h64i : ¬ (s.size : Int) = 64 := by omega
    have h64b : ((s.size : Int) == 64) = false := by simpa using h64i
    clear h64
    go_enter Try.func26, Try.ntmps26
    go_wp2_with (first
      | (refine wpList_alloc_to rfl 26 rfl (u8s z32).toArray (by kernel_rfl) ?_)
      | (refine wpList_build_to rfl 26 _ rfl (u8s z32).toArray (by kernel_rfl) ?_)
      | (refine wpList_store_row rfl 26 _ _ rfl w.heap.size (u8s z32).toArray rfl rfl 26 (u8s z32).toArray (heap_alloc2_old w _ _) (by rw [size32]; simp [z32_len]) rfl (all_oneCell_toArray (u8s_one _)) ?_))
    exact bodyPost_ret (results_row_tmp (P := Try.prog) rfl _ _ w.heap.size 26 (u8s z32).toArray (0, 0) _ rfl (setRow_heap _ _ _ _ _ _ (heap_alloc2_old w _ _)) Try.underlying26 rfl (by rw [size32]; simp [z32_len])) rfl ⟨Or.inr ⟨HNG.out, rfl⟩, below_setRow HST.out.below (Nat.le_refl _) _⟩
end Go.Proofs.Ytanmidiapbghnaa
