/-
  The contract of the statements' own function open.
-/
import Derived.Test.YtlaknlhkbofmjaaOMem
namespace Go.Proofs.Ytlaknlhkbofmjaa
open Go.RowKit
set_option linter.all false

theorem openB_nil : openB [] = true := by rw [openB.eq_def]
theorem openB_end (r : List Int) : openB (255 :: r) = false := by rw [openB.eq_def]; simp
theorem openB_pad (r : List Int) : openB (0 :: r) = openB r := by rw [openB.eq_def]; simp
theorem openB_bare {c : Int} (h1 : c ≠ 255) (h0 : c ≠ 0) : openB [c] = false := by rw [openB.eq_def]; simp [h1, h0]
theorem openB_short {c n : Int} {r : List Int} (h1 : c ≠ 255) (h0 : c ≠ 0) (hn : r.length < n.toNat) : openB (c :: n :: r) = false := by rw [openB.eq_def]; simp [h1, h0, hn]
theorem openB_on {c n : Int} {r : List Int} (h1 : c ≠ 255) (h0 : c ≠ 0) (hn : ¬ r.length < n.toNat) : openB (c :: n :: r) = openB (r.drop n.toNat) := by rw [openB.eq_def]; simp only [if_neg h1, if_neg h0, if_neg hn]
set_option maxRecDepth 20000 in
set_option maxHeartbeats 2000000 in
theorem open_any (pt : Part) (w : World) (hok : pt.ok w) (hl : pt.zs.length ≤ 140737488355328) :
    Calls Try.prog 14 #[pt.val] w fun e w' => e = .returned (.bool (openB pt.zs)) ∧ w' = w := by
  obtain ⟨a, c, zs⟩ := pt
  simp only [Part.val] at *
  obtain ⟨R, hR⟩ : ∃ R, R = openB zs := ⟨_, rfl⟩
  rw [← hR]
  have HR := hid hR
  have HOK := hid hok
  obtain ⟨n, hn⟩ : ∃ n, n = zs.length := ⟨_, rfl⟩
  have HN := hid hn
  rw [← hn] at hl ⊢
  clear hR hok hn
  go_enter Try.func14, Try.ntmps14
  go_wp2
  go_loop [3] (fun i => ∃ k : Nat, k ≤ n ∧ i = .int .i64 k ∧ Hid (openB (zs.drop k) = R)) (fun i => n - (intOf i).toNat)
  case atStart => exact ⟨0, Nat.zero_le _, rfl, HR.out.symm⟩
  case round =>
    obtain ⟨k, hk, rfl, HK⟩ := hrel
    by_cases hlt : k < n
    · have hlt' : (k : Int) < n := by omega
      obtain ⟨b, o, ha⟩ : ∃ b o, a = some ⟨b, o, none⟩ := by
        rcases HOK.out.2.2 with h | ⟨b, o, h, _⟩
        · simp only at h
          rw [h] at HN
          have := HN.out
          simp at this
          omega
        · exact ⟨b, o, h⟩
      subst ha
      have HC : Hid (∀ j, j < n → w.cell? ⟨b, o + j, none⟩ = some (.int .u8 (zs.getD j 0))) := fun j hj => by
        rcases HOK.out.2.2 with h | ⟨b', o', h, hc⟩
        · simp only at h
          rw [HN.out, h] at hj
          simp at hj
        · simp only [Option.some.injEq, Addr.mk.injEq] at h
          obtain ⟨rfl, rfl, _⟩ := h
          exact hc j (by rw [← HN.out]; exact hj)
      have hkz : k < zs.length := by rw [← HN.out]; exact hlt
      have edrop : zs.drop k = zs.getD k 0 :: zs.drop (k + 1) := by
        rw [List.drop_eq_getElem_cons hkz, List.getD_eq_getElem?_getD, List.getElem?_eq_getElem hkz]
        rfl
      have c0 := HC.out k hlt
      have hcb := getD_mem_bd HOK.out.1 k
      simp only at hcb
      have HD := hid edrop
      generalize zs.getD k 0 = x at *
      obtain ⟨hx0, hx1⟩ := hcb
      by_cases h255 : x = 255
      · subst h255
        have HRF : Hid (R = false) := by rw [← HK.out, HD.out]; exact openB_end _
        clear edrop
        go_wp2
        go_ret
        exact ⟨by rw [HRF.out]; rfl, rfl⟩
      · have hne : (x == 255) = false := by simpa using h255
        by_cases h0 : x = 0
        · subst h0
          clear edrop
          go_wp2
          go_round
          case rel => exact ⟨k + 1, by omega, by go_num, by rw [← HK.out, HD.out]; exact (openB_pad _).symm⟩
          case measure => simp [intOf]; omega
        · have hne0 : (x == 0) = false := by simpa using h0
          have H0 := hid h0
          have H255 := hid h255
          clear h0 h255 edrop
          by_cases hl1 : k + 1 = n
          · have hl1' : ((k : Int) + 1 == n) = true := by simp; omega
            have HRF : Hid (R = false) := by
              rw [← HK.out, HD.out, List.drop_eq_nil_of_le (by rw [← HN.out]; omega)]
              exact openB_bare H255.out H0.out
            clear hl1
            go_wp2
            go_ret
            exact ⟨by rw [HRF.out]; rfl, rfl⟩
          · have hl1' : ((k : Int) + 1 == n) = false := by simp; omega
            have hlt1 : k + 1 < n := by omega
            have hlt1' : (k : Int) + 1 < n := by omega
            have hkz1 : k + 1 < zs.length := by rw [← HN.out]; exact hlt1
            have edrop1 : zs.drop (k + 1) = zs.getD (k + 1) 0 :: zs.drop (k + 1 + 1) := by
              rw [List.drop_eq_getElem_cons hkz1, List.getD_eq_getElem?_getD, List.getElem?_eq_getElem hkz1]
              rfl
            have c1 := HC.out (k + 1) hlt1
            have hmb := getD_mem_bd HOK.out.1 (k + 1)
            simp only at hmb
            have HD1 := hid edrop1
            generalize zs.getD (k + 1) 0 = y at *
            obtain ⟨m, rfl⟩ : ∃ m : Nat, y = (m : Int) := ⟨y.toNat, by omega⟩
            have hm255 : (m : Int) ≤ 255 := hmb.2
            clear edrop1 hmb hl1
            by_cases hsh : n < k + 2 + m
            · have hsh' : (n : Int) < (k : Int) + 2 + m := by omega
              have HRF : Hid (R = false) := by
                rw [← HK.out, HD.out, HD1.out]
                refine openB_short H255.out H0.out ?_
                rw [Int.toNat_natCast, List.length_drop, ← HN.out]
                omega
              go_wp2
              go_ret
              exact ⟨by rw [HRF.out]; rfl, rfl⟩
            · have hsh' : ¬ (n : Int) < (k : Int) + 2 + m := by omega
              have HRN : Hid (openB (zs.drop (k + 2 + m)) = R) := by
                have := openB_on H255.out H0.out (n := (m : Int)) (r := zs.drop (k + 1 + 1)) (by rw [Int.toNat_natCast, List.length_drop, ← HN.out]; omega)
                rw [← HK.out, HD.out, HD1.out, this, Int.toNat_natCast, List.drop_drop]
                rfl
              go_wp2
              go_round
              case rel => exact ⟨k + 2 + m, by omega, by go_num, HRN.out⟩
              case measure => simp [intOf]; omega
    · have hkn : k = n := by omega
      have hge : ¬ (k : Int) < n := by omega
      have HRT : Hid (R = true) := by
        rw [← HK.out, hkn, HN.out, List.drop_length]
        exact openB_nil
      go_wp2
      go_ret
      exact ⟨by rw [HRT.out]; rfl, rfl⟩
end Go.Proofs.Ytlaknlhkbofmjaa
