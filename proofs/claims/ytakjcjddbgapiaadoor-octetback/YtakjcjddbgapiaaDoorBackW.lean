/-
  The walk of the statement OctetBack.
-/
import Derived.Test.YtakjcjddbgapiaaDoorBackMath
import Derived.Test.YtakjcjddbgapiaaDoorGetsW
import Derived.Test.YtakjcjddbgapiaaDoorOpenC
namespace Go.Proofs.YtakjcjddbgapiaaDoor
open Go.RowKit
set_option linter.unusedVariables false

theorem two_parts (p q : Part) : bulk [p, q] = p.zs.length + q.zs.length + 2 := by simp [bulk]; omega

/-- a number laid behind some bytes and read there. -/
theorem get_laid (zs : List Int) (n : Int) (m : Nat) (h1 : 1 ≤ m) (h2 : m ≤ 8) (hn : 0 ≤ n) : getAns (zs ++ putL n m) zs.length m = (n % 256 ^ m, 0) := by
  unfold getAns
  rw [if_neg (by omega), if_neg (by rw [List.length_append, putL_len]; omega), Int.toNat_natCast, Int.toNat_natCast, getTo_num _ _ _ (by rw [List.length_append, putL_len]; omega)]
  rw [List.drop_append_of_le_length (Nat.le_refl _), List.drop_length, List.nil_append, List.take_of_length_le (by rw [putL_len]; omega), num_putL m n hn]
theorem get_head (zs : List Int) (m : Nat) (h1 : 1 ≤ m) (h2 : m ≤ 8) (h : m ≤ zs.length) : getAns zs 0 m = (num (zs.take m), 0) := by
  unfold getAns
  rw [if_neg (by omega), if_neg (by omega), Int.toNat_natCast]
  rw [show (0 : Int).toNat = 0 from rfl, getTo_num _ _ _ (by omega)]
  simp
theorem get_none (zs : List Int) (m : Nat) (h1 : 1 ≤ m) (h2 : m ≤ 8) (h : zs.length < m) : getAns zs 0 m = (0, 5) := by
  unfold getAns
  rw [if_neg (by omega), if_pos (by omega)]
theorem num_bd : ∀ (zs : List Int), (∀ z, z ∈ zs → 0 ≤ z ∧ z ≤ 255) → 0 ≤ num zs ∧ num zs < 256 ^ zs.length := by
  intro zs hz
  have e := getTo_num zs 0 zs.length (by omega)
  rw [List.drop_zero, List.take_of_length_le (Nat.le_refl _)] at e
  rw [← e]
  refine getTo_bd zs (fun j => ?_) 0 zs.length
  rw [List.getD_eq_getElem?_getD]
  by_cases hj : j < zs.length
  · rw [List.getElem?_eq_getElem hj]; exact hz _ (List.getElem_mem hj)
  · rw [List.getElem?_eq_none (by omega)]; simp
theorem pow_le64 (k : Nat) (h : k ≤ 8) : (256 : Int) ^ k ≤ 18446744073709551616 := by
  have hc : k = 0 ∨ k = 1 ∨ k = 2 ∨ k = 3 ∨ k = 4 ∨ k = 5 ∨ k = 6 ∨ k = 7 ∨ k = 8 := by omega
  rcases hc with rfl | rfl | rfl | rfl | rfl | rfl | rfl | rfl | rfl <;> decide
theorem whole_is (n : Int) (m : Nat) (h1 : 1 ≤ m) (h2 : m ≤ 8) (hn : 0 ≤ n) (hn2 : n ≤ 18446744073709551615) : (n % 256 ^ m = n) ↔ (m = 8 ∨ n / 2 ^ (8 * m) = 0) := by
  have hc : m = 1 ∨ m = 2 ∨ m = 3 ∨ m = 4 ∨ m = 5 ∨ m = 6 ∨ m = 7 ∨ m = 8 := by omega
  rcases hc with rfl | rfl | rfl | rfl | rfl | rfl | rfl | rfl <;> simp only [Nat.reduceMul, Int.reducePow] <;> omega

set_option maxHeartbeats 1000000 in
theorem octetBack_walk (p : Part) (n m : Int) (q : Part) (w : World) (ht : Pow10 w) (hpk : p.ok w) (hpl : p.zs.length ≤ 140737488351232) (hn : 0 ≤ n ∧ n ≤ 18446744073709551615) (hm : -9223372036854775808 ≤ m ∧ m ≤ 9223372036854775807) (hqk : q.ok w) (hql : q.zs.length ≤ 140737488351232) (hqc : q.zs.length ≤ q.c) :
    Calls Tryd.prog 6 #[p.val, .int .u64 n, .int .i64 m, q.val] w fun e w' => e = .returned (.bool true) ∧ Below w.heap.size w w' := by
  have HT : Hid (∀ w', Below w.heap.size w w' → Pow10 w') := Lib.tabBelow_of_tabIs ht
  have HP : Hid (∀ w', Below w.heap.size w w' → p.ok w') := fun w' hb => Part.ok_below hpk hb
  have HQ : Hid (∀ w', Below w.heap.size w w' → q.ok w') := fun w' hb => Part.ok_below hqk hb
  have HPZ : Hid (∀ z, z ∈ p.zs → 0 ≤ z ∧ z ≤ 255) := hpk.1
  have HQZ : Hid (∀ z, z ∈ q.zs → 0 ≤ z ∧ z ≤ 255) := hqk.1
  have HPV : Hid (p.val = .slice p.a p.zs.length p.c) := rfl
  have HQV : Hid (q.val = .slice q.a q.zs.length q.c) := rfl
  rw [HPV.out, HQV.out]
  clear ht hpk hqk
  go_enter Tryd.func6, Tryd.ntmps6
  go_wp2_with fail
  refine (beyond_any (some ⟨w.heap.size, 0, none⟩) 2 [p, q] _ (fun i hi => ⟨w.heap.size, 0, rfl, by
    have hc : i = 0 ∨ i = 1 := by simp at hi; omega
    rw [World.cell?_alloc_at _ _ _ _ rfl]
    rcases hc with rfl | rfl <;> rfl⟩) (fun r hr => by simp at hr; rcases hr with rfl | rfl <;> assumption) (by simp)).mono ?_
  rintro e w1 ⟨rfl, hw1⟩
  have hb1 : Below w.heap.size w w1 := by rw [hw1]; exact (Below.refl _ _).alloc (Nat.le_refl _) _
  have hz1 : w.heap.size ≤ w1.heap.size := hb1.size
  have HB1 : Hid (Below w.heap.size w w1) := hb1
  clear hw1 hb1
  rw [two_parts]
  by_cases hmuch : 2147483647 < p.zs.length + q.zs.length + 2
  · have hd : decide (2147483647 < p.zs.length + q.zs.length + 2) = true := by simpa using hmuch
    rw [hd]
    go_wp2
    go_ret
    exact ⟨rfl, HB1.out⟩
  · have hd : decide (2147483647 < p.zs.length + q.zs.length + 2) = false := by simpa using hmuch
    rw [hd]
    clear hd
    go_wp2_with fail
    refine (live_any _ (HT.out _ HB1.out)).mono ?_
    rintro e w2 ⟨rfl, hb2⟩
    have HB2 : Hid (Below w.heap.size w w2) := HB1.out.trans (hb2.mono hz1)
    have hz2 : w.heap.size ≤ w2.heap.size := Nat.le_trans hz1 hb2.size
    clear hb2 HB1 hz1
    go_wp2_with fail
    by_cases hw1 : m < 1
    · refine (put_no n m _ (Or.inl hw1)).mono ?_
      rintro e w3 ⟨rfl, rfl⟩
      go_wp2
      go_ret
      exact ⟨rfl, HB2.out⟩
    · by_cases hw8 : 8 < m
      · refine (put_no n m _ (Or.inr hw8)).mono ?_
        rintro e w3 ⟨rfl, rfl⟩
        go_wp2
        go_ret
        exact ⟨rfl, HB2.out⟩
      · obtain ⟨M, hM⟩ := Int.eq_ofNat_of_zero_le (show 0 ≤ m by omega)
        subst hM
        have hM1 : 1 ≤ M := by omega
        have hM8 : M ≤ 8 := by omega
        have n1 : decide ((M : Int) < 1) = false := by simp; omega
        have n2 : decide ((8 : Int) < M) = false := by simp; omega
        refine (put_yes n M _ hM1 hM8 hn.1 hn.2).mono ?_
        rintro e w3 ⟨rfl, hw3⟩
        have hpt := put_part n M w2
        rw [← hw3] at hpt
        have hB3 : Below w2.heap.size w2 w3 := by rw [hw3]; exact (Below.refl _ _).alloc (Nat.le_refl _) _
        have HB3 : Hid (Below w.heap.size w w3) := HB2.out.trans (hB3.mono hz2)
        have hz3 : w2.heap.size + 1 ≤ w3.heap.size := by rw [hw3]; simp
        clear hw3
        have c1 := conv_part p w3 (HP.out _ HB3.out)
        obtain ⟨cap4, w4, c2, hown4, hb4, hz4'⟩ := conv_own w3 p.zs HPZ.out (by unfold maxLen; omega)
        have hz4 : w3.heap.size + 1 ≤ w4.heap.size := by omega
        unfold Part.val at c1
        obtain ⟨v5, w5, a1, hown5, hb5⟩ := append_own hown4 _ (Part.ok_below hpt hb4) (by rw [putL_len]; omega) (by omega) 28
        unfold Part.val at a1
        simp only [putL_len] at a1
        have HB5 : Hid (Below w.heap.size w w5) := (HB3.out.trans (hb4.mono (by omega))).trans (hb5.mono (by omega))
        have hz5 : w4.heap.size ≤ w5.heap.size := hb5.size
        have HZL : Hid (∀ z, z ∈ p.zs ++ putL n M → 0 ≤ z ∧ z ≤ 255) := fun z hz => by
          rcases List.mem_append.1 hz with h | h
          · exact HPZ.out z h
          · exact putL_bd n M z h
        obtain ⟨pt5, hv5, hzz5, hok5⟩ := OwnB.part hown5 HZL.out
        have HA1 : Hid _ := a1
        have HOK5 : Hid (pt5.ok w5) := hok5
        have HZ5 : Hid (pt5.zs = p.zs ++ putL n M) := hzz5
        have HL5 : Hid (pt5.zs.length ≤ 140737488351232) := by unfold Hid; rw [hzz5, List.length_append, putL_len]; omega
        rw [hv5] at HA1
        unfold Part.val at HA1
        clear a1 hown4 hown5 hb4 hb5 hpt hB3 hz4' hv5 hok5 hzz5
        go_wp2_with (first
          | (at_builtin; refine wpList_append_run _ rfl (.tmp 42) (.tmp 43) 28 28 rfl _ _ rfl rfl HA1.out ?_))
        refine (get_part pt5 p.zs.length M _ HOK5.out HL5.out).mono ?_
        rintro e w6 ⟨rfl, rfl⟩
        rw [HZ5.out, get_laid p.zs n M hM1 hM8 hn.1]
        have hp64 := pow_le64 M hM8
        have hpp : (0 : Int) < 256 ^ M := Int.pow_pos (by decide)
        have hxb : 0 ≤ n % 256 ^ M ∧ n % 256 ^ M ≤ 18446744073709551615 := by
          have h1 := Int.emod_nonneg n (Int.ne_of_gt hpp)
          have h2 := Int.emod_lt_of_pos n hpp
          omega
        have HWH : Hid ((n % 256 ^ M = n) ↔ (M = 8 ∨ n / 2 ^ (8 * M) = 0)) := whole_is n M hM1 hM8 hn.1 hn.2
        have HNB : Hid (∀ zs : List Int, (∀ z, z ∈ zs → 0 ≤ z ∧ z ≤ 255) → zs.length = M → 0 ≤ num zs ∧ num zs ≤ 18446744073709551615) := fun zs hz hl => by
          have := num_bd zs hz
          rw [hl] at this
          omega
        simp only
        generalize n % 256 ^ M = X at *
        clear hp64 hpp HA1 c1 c2
        go_wp2_with fail
        refine (get_part q 0 M _ (HQ.out _ HB5.out) hql).mono ?_
        rintro e w6 ⟨rfl, rfl⟩
        by_cases hfit : M ≤ q.zs.length
        · rw [get_head q.zs M hM1 hM8 hfit]
          have hTZ : ∀ z, z ∈ q.zs.take M → 0 ≤ z ∧ z ≤ 255 := fun z hz => HQZ.out z (List.mem_of_mem_take hz)
          have hTL : (q.zs.take M).length = M := by simp; omega
          have hyb := HNB.out _ hTZ hTL
          have HPL : Hid (putL (num (q.zs.take M)) M = q.zs.take M) := by
            have := putL_num _ hTZ
            rw [hTL] at this
            exact this
          simp only
          generalize num (q.zs.take M) = Y at *
          go_wp2_with fail
          refine (put_yes Y M _ hM1 hM8 hyb.1 hyb.2).mono ?_
          rintro e w7 ⟨rfl, hw7⟩
          have hpt7 := put_part Y M w6
          rw [← hw7, HPL.out] at hpt7
          have HB7 : Hid (Below w.heap.size w w7) := by unfold Hid; rw [hw7]; exact HB5.out.alloc (by omega) _
          clear hw7
          have c3 : ∀ k, (convert 28 9 (.slice (some ⟨w6.heap.size, 0, none⟩) M M)).run Tryd.prog (w7.drewN k) = .ok (.string (strOfNums (q.zs.take M))) (w7.drewN k) := fun k => by
            have h := conv_part ⟨some ⟨w6.heap.size, 0, none⟩, M, q.zs.take M⟩ (w7.drewN k) (Part.ok_drewN hpt7 k)
            unfold Part.val at h
            simp only [hTL] at h
            exact h
          have hqok := HQ.out _ HB7.out
          rcases hqok.2 with he | ⟨b, o, hqa, hqcell⟩
          · rw [he] at hfit; simp at hfit; omega
          · have c4 : ∀ k, (convert 28 9 (.slice (some ⟨b, o, none⟩) M q.c)).run Tryd.prog (w7.drewN k) = .ok (.string (strOfNums (q.zs.take M))) (w7.drewN k) := fun k => by
              have h := conv_part ⟨some ⟨b, o, none⟩, q.c, q.zs.take M⟩ (w7.drewN k) ⟨hTZ, Or.inr ⟨b, o, rfl, fun j hj => by
                have hj' : j < M := by rw [hTL] at hj; exact hj
                show w7.cell? _ = _
                rw [hqcell j (by omega), List.getD_eq_getElem?_getD, List.getD_eq_getElem?_getD, List.getElem?_take, if_pos hj']⟩⟩
              unfold Part.val at h
              simp only [hTL] at h
              exact h
            rw [hqa]
            have f1 : decide ((q.zs.length : Int) < M) = false := by simp; omega
            have f2 : decide ((M : Int) ≤ q.zs.length) = true := by simp; omega
            have f3 : (M : Int) ≤ (q.c : Int) := by omega
            generalize strOfNums (q.zs.take M) = S at *
            clear hpt7 hqok hqcell hTZ hTL HPL hqa
            by_cases h8 : M = 8
            · have b8 : ((M : Int) == 8) = true := by simp; omega
              have hX : (X == n) = true := by simpa using HWH.out.2 (Or.inl h8)
              clear h8
              go_wp2
              go_quiet (fail)
              go_wp2
              go_ret
              exact ⟨rfl, below_drewN HB7.out _⟩
            · have b8 : ((M : Int) == 8) = false := by simp; omega
              have hX : (X == n) = (n / 2 ^ (8 * M) == 0) := by
                rw [Bool.eq_iff_iff]; simp only [beq_iff_eq]; rw [HWH.out]; simp [h8]
              clear h8
              go_wp2
              go_quiet (fail)
              go_wp2
              go_ret
              exact ⟨by simp, below_drewN HB7.out _⟩
        · rw [get_none q.zs M hM1 hM8 (by omega)]
          simp only
          go_wp2_with fail
          refine (put_yes 0 M _ hM1 hM8 (by omega) (by omega)).mono ?_
          rintro e w7 ⟨rfl, hw7⟩
          have HB7 : Hid (Below w.heap.size w w7) := by unfold Hid; rw [hw7]; exact HB5.out.alloc (by omega) _
          clear hw7
          have f2 : decide ((M : Int) ≤ q.zs.length) = false := by simp; omega
          by_cases h8 : M = 8
          · have b8 : ((M : Int) == 8) = true := by simp; omega
            have hX : (X == n) = true := by simpa using HWH.out.2 (Or.inl h8)
            clear h8
            go_wp2
            go_quiet (fail)
            go_wp2
            go_ret
            exact ⟨rfl, below_drewN HB7.out _⟩
          · have b8 : ((M : Int) == 8) = false := by simp; omega
            have hX : (X == n) = (n / 2 ^ (8 * M) == 0) := by
              rw [Bool.eq_iff_iff]; simp only [beq_iff_eq]; rw [HWH.out]; simp [h8]
            clear h8
            go_wp2
            go_quiet (fail)
            go_wp2
            go_ret
            exact ⟨by simp, below_drewN HB7.out _⟩
end Go.Proofs.YtakjcjddbgapiaaDoor
