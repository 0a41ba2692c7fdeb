/-
  The walk of the statement OctetLaid.
-/
import Derived.Test.YtakjcjddbgapiabDoorBeyond
namespace Go.Proofs.YtakjcjddbgapiabDoor
open Go.RowKit
set_option linter.unusedVariables false

/-- a sum laid in where zeros stood brings the whole to none. -/
theorem laid_sum (A C : List Int) (h : A.length % 2 = 0) (hA : ∀ z, z ∈ A → 0 ≤ z ∧ z ≤ 255) (hC : ∀ z, z ∈ C → 0 ≤ z ∧ z ≤ 255) (s : Int) (hs : s = sumOf (A ++ (0 :: 0 :: C))) :
    sumOf (A ++ (s / 256 :: s % 256 :: C)) = 0 := by
  have a0 := run_nonneg A hA
  have c0 := run_nonneg C hC
  unfold sumOf at *
  rw [run_word _ _ _ _ h] at hs ⊢
  unfold cs at *
  split at hs <;> split <;> omega

theorem set_mid (A C : List Int) (x y x' y' : Int) : ((A ++ (x :: y :: C)).set A.length x').set (A.length + 1) y' = A ++ (x' :: y' :: C) := by
  rw [List.set_append_right _ _ (Nat.le_refl _), Nat.sub_self, List.set_cons_zero, List.set_append_right _ _ (by omega)]
  simp

theorem two_parts (p q : Part) : bulk [p, q] = p.zs.length + q.zs.length + 2 := by simp [bulk]; omega

set_option maxHeartbeats 1000000 in
theorem octetLaid_walk (p q : Part) (w : World) (ht : Pow10 w) (hpk : p.ok w) (hpl : p.zs.length ≤ 140737488351232) (hqk : q.ok w) (hql : q.zs.length ≤ 140737488351232) :
    Calls Tryd.prog 5 #[p.val, q.val] w fun e w' => e = .returned (.bool true) ∧ Below w.heap.size w w' := by
  have HT : Hid (∀ w', Below w.heap.size w w' → Pow10 w') := Lib.tabBelow_of_tabIs ht
  have HP : Hid (∀ w', Below w.heap.size w w' → p.ok w') := fun w' hb => Part.ok_below hpk hb
  have HQ : Hid (∀ w', Below w.heap.size w w' → q.ok w') := fun w' hb => Part.ok_below hqk hb
  have HPZ : Hid (∀ z, z ∈ p.zs → 0 ≤ z ∧ z ≤ 255) := hpk.1
  have HQZ : Hid (∀ z, z ∈ q.zs → 0 ≤ z ∧ z ≤ 255) := hqk.1
  have HPV : Hid (p.val = .slice p.a p.zs.length p.c) := rfl
  have HQV : Hid (q.val = .slice q.a q.zs.length q.c) := rfl
  rw [HPV.out, HQV.out]
  clear ht hpk hqk
  go_enter Tryd.func5, Tryd.ntmps5
  go_wp2_with fail
  refine (beyond_any (some ⟨w.heap.size, 0, none⟩) 2 [p, q] _ (fun i hi => ⟨w.heap.size, 0, rfl, by
    have hc : i = 0 ∨ i = 1 := by simp at hi; omega
    rw [World.cell?_alloc_at _ _ _ _ rfl]
    rcases hc with rfl | rfl <;> rfl⟩) (fun r hr => by simp at hr; rcases hr with rfl | rfl <;> assumption) (by simp)).mono ?_
  rintro e w1 ⟨rfl, hw1⟩
  have hb1 : Below w.heap.size w w1 := by rw [hw1]; exact (Below.refl _ _).alloc (Nat.le_refl _) _
  have hz1 : w.heap.size ≤ w1.heap.size := hb1.size
  have HB1 : Hid (Below w.heap.size w w1) := hb1
  clear hw1 hb1
  rw [two_parts]
  by_cases hmuch : 2147483647 < p.zs.length + q.zs.length + 2
  · have hd : decide (2147483647 < p.zs.length + q.zs.length + 2) = true := by simpa using hmuch
    rw [hd]
    go_wp2
    go_ret
    exact ⟨rfl, HB1.out⟩
  · have hd : decide (2147483647 < p.zs.length + q.zs.length + 2) = false := by simpa using hmuch
    rw [hd]
    clear hd
    go_wp2_with fail
    refine (live_any _ (HT.out _ HB1.out)).mono ?_
    rintro e w2 ⟨rfl, hb2⟩
    have HB2 : Hid (Below w.heap.size w w2) := HB1.out.trans (hb2.mono hz1)
    have hz2 : w.heap.size ≤ w2.heap.size := Nat.le_trans hz1 hb2.size
    clear hb2 HB1 hz1
    by_cases hodd : p.zs.length % 2 = 1
    · have hd : (((p.zs.length : Int).tmod 2) == 1) = true := by
        rw [Int.tmod_eq_emod_of_nonneg (by omega)]; simp; omega
      have hd2 : ((p.zs.length : Int) % 2 == 1) = true := by simp; omega
      go_wp2
      go_ret
      exact ⟨rfl, HB2.out⟩
    · have hd : (((p.zs.length : Int).tmod 2) == 1) = false := by
        rw [Int.tmod_eq_emod_of_nonneg (by omega)]; simp; omega
      have hd2 : ((p.zs.length : Int) % 2 == 1) = false := by simp; omega
      have c1 := conv_part p w2 (HP.out _ HB2.out)
      obtain ⟨cap3, w3, c2, hown3, hb3, hz3'⟩ := conv_own w2 p.zs HPZ.out (by unfold maxLen; omega)
      have hz3 : w2.heap.size + 1 ≤ w3.heap.size := by omega
      clear hz3'
      unfold Part.val at c1
      have hok3 : (⟨some ⟨w3.heap.size, 0, none⟩, 2, [0, 0]⟩ : Part).ok (w3.alloc (.cells #[.int .u8 0, .int .u8 0] 5)) := ⟨by simp, Or.inr ⟨w3.heap.size, 0, rfl, fun j hj => by
        have hc : j = 0 ∨ j = 1 := by simp at hj; omega
        rw [World.cell?_alloc_at _ _ _ _ rfl]
        rcases hc with rfl | rfl <;> rfl⟩⟩
      have hown3' := OwnB.below hown3 (w' := w3.alloc (.cells #[.int .u8 0, .int .u8 0] 5)) ((Below.refl _ _).alloc (Nat.le_refl _) _)
      obtain ⟨v4, w4, a1, hown4, hb4⟩ := append_own hown3' _ hok3 (by simp; omega) (by simp; omega) 26
      unfold Part.val at a1
      simp only [List.length_cons, List.length_nil] at a1
      have hB4 : Below w.heap.size w w4 := ((HB2.out.trans (hb3.mono hz2)).alloc (by omega) _).trans (hb4.mono hz2)
      have hz4 : w2.heap.size ≤ w4.heap.size := by have := hb4.size; simp at this; omega
      rcases hown4 with ⟨_, h⟩ | hown4
      · simp at h
      · obtain ⟨g4, cap4, cur4, lo4, hi4, rfl, r4⟩ := hown4
        have hown4' : OwnB w4 w2.heap.size (.slice (some ⟨g4, 0, none⟩) (p.zs ++ [0, 0]).length cap4) (p.zs ++ [0, 0]) := Or.inr ⟨g4, cap4, cur4, lo4, hi4, rfl, r4⟩
        obtain ⟨v5, w5, a2, hown5, hb5⟩ := append_own hown4' q (HQ.out _ hB4) (by simp; omega) hz4 26
        unfold Part.val at a2
        have hz5 : w2.heap.size ≤ w5.heap.size := Nat.le_trans hz4 hb5.size
        have HB5 : Hid (Below w.heap.size w w5) := hB4.trans (hb5.mono hz2)
        rcases hown5 with ⟨_, h⟩ | hown5
        · simp at h
        · obtain ⟨g5, cap5, cur5, lo5, hi5, rfl, r5⟩ := hown5
          have HO5 : Hid (OwnB w5 w2.heap.size (.slice (some ⟨g5, 0, none⟩) (p.zs ++ [0, 0] ++ q.zs).length cap5) (p.zs ++ [0, 0] ++ q.zs)) := Or.inr ⟨g5, cap5, cur5, lo5, hi5, rfl, r5⟩
          simp only [List.length_append, List.length_cons, List.length_nil, Nat.zero_add, Nat.reduceAdd] at a1 a2 HO5
          clear hown3 hown3' hok3 hown4' r4 r5 hb3 hb4 hb5 hB4
          have HA1 : Hid _ := a1
          have HA2 : Hid _ := a2
          clear a1 a2
          go_wp2_with (first
            | (at_builtin; refine wpList_append_run _ rfl (.tmp 22) (.tmp 23) 26 26 rfl _ _ rfl rfl HA1.out ?_)
            | (at_builtin; refine wpList_append_run _ rfl (.tmp 25) (.tmp 26) 26 26 rfl _ _ rfl rfl HA2.out ?_))
          have hzL : ∀ z, z ∈ p.zs ++ [0, 0] ++ q.zs → 0 ≤ z ∧ z ≤ 255 := fun z hz => by
            simp only [List.mem_append, List.mem_cons, List.not_mem_nil, or_false] at hz
            rcases hz with (h | h) | h
            · exact HPZ.out z h
            · omega
            · exact HQZ.out z h
          have ho6 := OwnB.below HO5.out (w' := w5.alloc (.cells #[.slice (some ⟨g5, 0, none⟩) (p.zs.length + 2 + q.zs.length) cap5] 26)) ((Below.refl _ _).alloc (Nat.le_refl _) _)
          obtain ⟨pt6, hv6, hz6, hok6⟩ := OwnB.part ho6 hzL
          refine (sum_one pt6 w5.heap.size _ (by rw [World.cell?_alloc_at _ _ _ _ rfl, ← hv6]; rfl) hok6 (by rw [hz6]; simp; omega) 1).mono ?_
          rintro e w6 ⟨rfl, hw6⟩
          rw [← hw6] at ho6
          rw [hz6]
          have HO6 : Hid (OwnB w6 w2.heap.size (.slice (some ⟨g5, 0, none⟩) (p.zs.length + 2 + q.zs.length) cap5) (p.zs ++ [0, 0] ++ q.zs)) := ho6
          have HB6 : Hid (Below w.heap.size w w6) := by unfold Hid; rw [hw6]; exact HB5.out.alloc (by omega) _
          have hz6' : w2.heap.size ≤ w6.heap.size := by rw [hw6]; simp; omega
          have HL : Hid (p.zs ++ [0, 0] ++ q.zs = p.zs ++ (0 :: 0 :: q.zs)) := by unfold Hid; simp
          obtain ⟨sm, hsm⟩ : ∃ sm, sm = sumOf (p.zs ++ [0, 0] ++ q.zs) := ⟨_, rfl⟩
          have hsb : 0 ≤ sm ∧ sm ≤ 65535 := by
            have := cs_bd _ (run_nonneg _ hzL)
            rw [hsm]; unfold sumOf; omega
          have HZERO : Hid (sumOf (((p.zs ++ [0, 0] ++ q.zs).set p.zs.length (sm / 256)).set (p.zs.length + 1) (sm % 256)) = 0) := by
            unfold Hid
            rw [HL.out, set_mid]
            exact laid_sum _ _ (by omega) HPZ.out HQZ.out sm (by rw [hsm, HL.out])
          have hzM : ∀ z, z ∈ ((p.zs ++ [0, 0] ++ q.zs).set p.zs.length (sm / 256)).set (p.zs.length + 1) (sm % 256) → 0 ≤ z ∧ z ≤ 255 := fun z hz => by
            rcases List.mem_or_eq_of_mem_set hz with h | h
            · rcases List.mem_or_eq_of_mem_set h with h | h
              · exact hzL z h
              · omega
            · omega
          rw [← hsm]
          clear hsm hw6 hok6 hv6 hz6 ho6 HA1 HA2 c1 c2
          obtain ⟨hB6, hlt6, -⟩ := OwnB.at HO6.out
          obtain ⟨⟨u1, hu1⟩, hf1, ho7⟩ := OwnB.set HO6.out p.zs.length (by omega) (sm / 256)
          obtain ⟨⟨u2, hu2⟩, hf2, ho8⟩ := OwnB.set ho7 (p.zs.length + 1) (by omega) (sm % 256)
          have HO8 : Hid (OwnB ((w6.setCell ⟨g5, p.zs.length, none⟩ (.int .u8 (sm / 256))).setCell ⟨g5, p.zs.length + 1, none⟩ (.int .u8 (sm % 256))) w2.heap.size (.slice (some ⟨g5, 0, none⟩) (p.zs.length + 2 + q.zs.length) cap5) (((p.zs ++ [0, 0] ++ q.zs).set p.zs.length (sm / 256)).set (p.zs.length + 1) (sm % 256))) := ho8
          clear ho7 ho8
          have hx1 : IntKind.u16.wrap (sm.tdiv 256) % 256 = sm / 256 := by
            rw [Int.tdiv_eq_ediv_of_nonneg hsb.1, IntKind.wrap_u16]; omega
          have i1 : (p.zs.length : Int) < (p.zs.length : Int) + 2 + (q.zs.length : Int) := by omega
          have i2 : (p.zs.length : Int) + 1 < (p.zs.length : Int) + 2 + (q.zs.length : Int) := by omega
          go_wp2_with fail
          have HL2 : Hid ((((p.zs ++ [0, 0] ++ q.zs).set p.zs.length (sm / 256)).set (p.zs.length + 1) (sm % 256)).length ≤ 140737488355328) := by unfold Hid; simp; omega
          generalize ((p.zs ++ [0, 0] ++ q.zs).set p.zs.length (sm / 256)).set (p.zs.length + 1) (sm % 256) = M at *
          have ho9 := OwnB.below HO8.out (w' := ((w6.setCell ⟨g5, p.zs.length, none⟩ (.int .u8 (sm / 256))).setCell ⟨g5, p.zs.length + 1, none⟩ (.int .u8 (sm % 256))).alloc (.cells #[.slice (some ⟨g5, 0, none⟩) (p.zs.length + 2 + q.zs.length) cap5] 26)) ((Below.refl _ _).alloc (Nat.le_refl _) _)
          obtain ⟨pt9, hv9, hz9, hok9⟩ := OwnB.part ho9 hzM
          have HS : Hid (sumOf pt9.zs = 0) := by unfold Hid; rw [hz9]; exact HZERO.out
          have HBE : Hid (Below w.heap.size w ((w6.setCell ⟨g5, p.zs.length, none⟩ (.int .u8 (sm / 256))).setCell ⟨g5, p.zs.length + 1, none⟩ (.int .u8 (sm % 256)))) := (HB6.out.setCell (by simp; omega) _).setCell (by simp; omega) _
          refine (sum_one pt9 w6.heap.size _ (by rw [← hv9]; go_simp) hok9 (by rw [hz9]; exact HL2.out) 1).mono ?_
          rintro e w9 ⟨rfl, hw9⟩
          rw [HS.out]
          have HB9 : Hid (Below w.heap.size w w9) := by unfold Hid; rw [hw9]; exact HBE.out.alloc (by simp; omega) _
          clear hw9 ho9 hok9 hv9 hz9
          go_wp2
          go_ret
          exact ⟨rfl, HB9.out⟩
end Go.Proofs.YtakjcjddbgapiabDoor
