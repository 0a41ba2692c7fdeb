/-
  The walk of the statement OctetTurned.
-/
import Derived.Test.YtakjcjddbgapiabDoorBeyond
import Derived.Test.YtakjcjddbgapiabDoorTurnC
import Derived.Deep.QuietTactic
import Derived.BigQuiet
namespace Go.Proofs.YtakjcjddbgapiabDoor
open Go.RowKit
set_option linter.unusedVariables false

def allz (l : List Int) : Bool := l.all (· == 0)
theorem allz_snoc (l : List Int) (z : Int) : allz (l ++ [z]) = (allz l && (z == 0)) := by simp [allz]
theorem foldl_zero : ∀ (l : List Int) (h : Bool), (∀ z, z ∈ l → 0 ≤ z ∧ z ≤ 255) → ((l.foldl step (0, h)).1 = 0 ↔ allz l = true)
  | [], h, _ => by simp [allz]
  | z :: l, h, hz => by
    have hz0 := hz z (by simp)
    have ih := foldl_zero l (!h) (fun y hy => hz y (by simp [hy]))
    have hb := foldl_bd l (0, !h) (fun y hy => hz y (by simp [hy])) (by simp)
    simp only [List.foldl_cons, step]
    rw [foldl_shift]
    simp only [allz, List.all_cons, Bool.and_eq_true, beq_iff_eq] at ih ⊢
    rw [← ih]
    simp only at hb
    cases h <;> simp only [Bool.not_true, Bool.not_false] at hb ⊢ <;> simp <;> omega
theorem split_at (zs : List Int) (a : Nat) (h : a + 2 ≤ zs.length) : zs = zs.take a ++ (zs.getD a 0 :: zs.getD (a + 1) 0 :: zs.drop (a + 2)) := by
  have h1 : zs.drop a = zs[a] :: zs.drop (a + 1) := List.drop_eq_getElem_cons (by omega)
  have h2 : zs.drop (a + 1) = zs[a + 1] :: zs.drop (a + 2) := List.drop_eq_getElem_cons (by omega)
  have e1 : zs.getD a 0 = zs[a] := by rw [List.getD_eq_getElem?_getD, List.getElem?_eq_getElem (by omega)]; rfl
  have e2 : zs.getD (a + 1) 0 = zs[a + 1] := by rw [List.getD_eq_getElem?_getD, List.getElem?_eq_getElem (by omega)]; rfl
  rw [e1, e2, ← h2, ← h1, List.take_append_drop]
theorem set_at (zs : List Int) (a : Nat) (h : a + 2 ≤ zs.length) (x y : Int) : (zs.set a x).set (a + 1) y = zs.take a ++ (x :: y :: zs.drop (a + 2)) := by
  have hl : (zs.take a).length = a := by simp; omega
  conv => lhs; rw [split_at zs a h]
  rw [List.set_append_right _ _ (by omega), List.set_append_right _ _ (by omega), hl]
  simp

theorem turned_arith (t1 t2 old x : Int) (h1 : 0 ≤ t1) (h2 : 0 ≤ t2) (h3 : 0 ≤ old ∧ old ≤ 65535) (h4 : 0 ≤ x ∧ x ≤ 65535) :
    (t1 + x + t2 = 0 → 65535 - cs (t1 + x + t2) = 65535 ∧ 65535 - cs (65535 - (65535 - cs (t1 + old + t2)) + (65535 - old) + x) = 0) ∧
    (¬ t1 + x + t2 = 0 → 65535 - cs (65535 - (65535 - cs (t1 + old + t2)) + (65535 - old) + x) = 65535 - cs (t1 + x + t2)) := by
  have hT : (t1 + old + t2 = 0 ∧ cs (t1 + old + t2) = 0) ∨ (1 ≤ t1 + old + t2 ∧ cs (t1 + old + t2) = (t1 + old + t2 - 1) % 65535 + 1) := by
    unfold cs; split
    · left; omega
    · right; omega
  generalize cs (t1 + old + t2) = r at *
  unfold cs
  refine ⟨fun hh => ⟨by rw [if_pos hh]; omega, ?_⟩, fun hh => ?_⟩
  · split <;> omega
  · rw [if_neg hh]
    split <;> omega

/-- P1.9: a word of some bytes is changed. -/
theorem turned_sum (zs : List Int) (a : Nat) (x : Int) (h : a + 2 ≤ zs.length) (he : a % 2 = 0) (hx : 0 ≤ x ∧ x ≤ 65535) (hz : ∀ z, z ∈ zs → 0 ≤ z ∧ z ≤ 255) :
    let old := zs.getD a 0 * 256 + zs.getD (a + 1) 0
    let c := (zs.set a (x / 256)).set (a + 1) (x % 256)
    let u := 65535 - cs (65535 - sumOf zs + (65535 - old) + x)
    (allz c = true → sumOf c = 65535 ∧ u = 0) ∧ (allz c = false → u = sumOf c) := by
  intro old c u
  have hA : ∀ z, z ∈ zs.take a → 0 ≤ z ∧ z ≤ 255 := fun z hm => hz z (List.mem_of_mem_take hm)
  have hC : ∀ z, z ∈ zs.drop (a + 2) → 0 ≤ z ∧ z ≤ 255 := fun z hm => hz z (List.mem_of_mem_drop hm)
  have a0 := run_nonneg _ hA
  have c0 := run_nonneg _ hC
  have hl : (zs.take a).length % 2 = 0 := by rw [List.length_take]; omega
  have hg : ∀ j, 0 ≤ zs.getD j 0 ∧ zs.getD j 0 ≤ 255 := fun j => by
    rw [List.getD_eq_getElem?_getD]
    by_cases hj : j < zs.length
    · rw [List.getElem?_eq_getElem hj]; exact hz _ (List.getElem_mem hj)
    · rw [List.getElem?_eq_none (by omega)]; simp
  have g0 := hg a
  have g1 := hg (a + 1)
  have e1 : (run zs).1 = (run (zs.take a)).1 + old + (run (zs.drop (a + 2))).1 := by
    conv => lhs; rw [split_at zs a h]
    rw [run_word _ _ _ _ hl]
  have e2 : (run c).1 = (run (zs.take a)).1 + x + (run (zs.drop (a + 2))).1 := by
    show (run ((zs.set a (x / 256)).set (a + 1) (x % 256))).1 = _
    rw [set_at zs a h, run_word _ _ _ _ hl]
    omega
  have hcz : ∀ z, z ∈ c → 0 ≤ z ∧ z ≤ 255 := fun z hm => by
    rcases List.mem_or_eq_of_mem_set hm with h | h
    · rcases List.mem_or_eq_of_mem_set h with h | h
      · exact hz z h
      · omega
    · omega
  have hzero := foldl_zero c true hcz
  have hrun : (run c).1 = 0 ↔ allz c = true := hzero
  have ho : 0 ≤ old ∧ old ≤ 65535 := by constructor <;> (show _ ≤ _; simp only [old]; omega)
  have hr := turned_arith (run (zs.take a)).1 (run (zs.drop (a + 2))).1 old x a0 c0 ho hx
  have hs1 : sumOf zs = 65535 - cs ((run (zs.take a)).1 + old + (run (zs.drop (a + 2))).1) := by unfold sumOf; rw [e1]
  have hs2 : sumOf c = 65535 - cs ((run (zs.take a)).1 + x + (run (zs.drop (a + 2))).1) := by unfold sumOf; rw [e2]
  rw [e2] at hrun
  refine ⟨fun hh => ?_, fun hh => ?_⟩
  · have := hr.1 (hrun.2 hh)
    rw [hs2]
    refine ⟨this.1, ?_⟩
    show 65535 - cs (65535 - sumOf zs + (65535 - old) + x) = 0
    rw [hs1]; exact this.2
  · have := hr.2 (fun e => by rw [hrun.1 e] at hh; cases hh)
    rw [hs2]
    show 65535 - cs (65535 - sumOf zs + (65535 - old) + x) = _
    rw [hs1]; exact this

attribute [local go_sem] setCell_drewN alloc_drewN
set_option maxHeartbeats 1000000 in
theorem octetTurned_walk (p : Part) (a x : Int) (w : World) (ht : Pow10 w) (hpk : p.ok w) (hpl : p.zs.length ≤ 140737488351232) (ha : -9223372036854775808 ≤ a ∧ a ≤ 9223372036854775807) (hx : 0 ≤ x ∧ x ≤ 65535) :
    Calls Tryd.prog 4 #[p.val, .int .i64 a, .int .u16 x] w fun e w' => e = .returned (.bool true) ∧ Below w.heap.size w w' := by
  have HT : Hid (Pow10 w) := ht
  have HP : Hid (∀ w', Below w.heap.size w w' → p.ok w') := fun w' hb => Part.ok_below hpk hb
  have HPZ : Hid (∀ z, z ∈ p.zs → 0 ≤ z ∧ z ≤ 255) := hpk.1
  have HPB : Hid (∀ j, 0 ≤ p.zs.getD j 0 ∧ p.zs.getD j 0 ≤ 255) := part_bd hpk
  have HPV : Hid (p.val = .slice p.a p.zs.length p.c) := rfl
  rw [HPV.out]
  clear ht hpk
  go_enter Tryd.func4, Tryd.ntmps4
  go_wp2_with fail
  refine (live_any _ HT.out).mono ?_
  rintro e w2 ⟨rfl, hb2⟩
  have HB2 : Hid (Below w.heap.size w w2) := hb2
  have hz2 : w.heap.size ≤ w2.heap.size := hb2.size
  clear hb2
  by_cases hneg : a < 0
  · go_wp2
    go_ret
    exact ⟨rfl, HB2.out⟩
  · have hmod : a.tmod 2 = a % 2 := Int.tmod_eq_emod_of_nonneg (by omega)
    by_cases hodd : a % 2 = 1
    · have hd : (a % 2 == 1) = true := by simpa using hodd
      go_wp2
      go_ret
      exact ⟨rfl, HB2.out⟩
    · have hd : (a % 2 == 1) = false := by simpa using hodd
      by_cases hshort : (p.zs.length : Int) < 2
      · go_wp2
        go_ret
        exact ⟨rfl, HB2.out⟩
      · by_cases hfar : (p.zs.length : Int) - 2 < a
        · go_wp2
          go_ret
          exact ⟨rfl, HB2.out⟩
        · obtain ⟨A, hA⟩ := Int.eq_ofNat_of_zero_le (show 0 ≤ a by omega)
          subst hA
          have hAl : A + 2 ≤ p.zs.length := by omega
          have htr := turned_sum p.zs A x hAl (by omega) hx HPZ.out
          have c1 := conv_part p w2 (HP.out _ HB2.out)
          obtain ⟨cap3, w3, c2, hown3, hb3, hz3'⟩ := conv_own w2 p.zs HPZ.out (by unfold maxLen; omega)
          have hz3 : w2.heap.size + 1 ≤ w3.heap.size := by omega
          unfold Part.val at c1
          have HB3 : Hid (Below w.heap.size w w3) := HB2.out.trans (hb3.mono hz2)
          have HOK3 : Hid (p.ok w3) := HP.out _ HB3.out
          have HO3 : Hid (OwnB w3 w2.heap.size (.slice (some ⟨w2.heap.size, 0, none⟩) p.zs.length cap3) p.zs) := hown3
          clear hz3' hown3 hb3
          rcases HOK3.out.2 with he | ⟨b, o, hpa, hpc⟩
          · rw [he] at hAl; simp at hAl
          · have l0 := hpc A (by omega)
            have l1 := hpc (A + 1) (by omega)
            have y0 := HPB.out A
            have y1 := HPB.out (A + 1)
            obtain ⟨old0, ho0⟩ : ∃ z, z = p.zs.getD A 0 := ⟨_, rfl⟩
            obtain ⟨old1, ho1⟩ : ∃ z, z = p.zs.getD (A + 1) 0 := ⟨_, rfl⟩
            rw [← ho0] at l0 y0 htr
            rw [← ho1] at l1 y1 htr
            have HTR : Hid _ := htr
            rw [hpa] at c1 ⊢
            have HPA : Hid (p.a = some ⟨b, o, none⟩) := hpa
            clear hpc hpa ho0 ho1 htr
            have i1 : (A : Int) < (p.zs.length : Int) := by omega
            have i2 : (A : Int) + 1 < (p.zs.length : Int) := by omega
            have n1 : decide ((A : Int) < 0) = false := by simp
            have n2 : decide ((p.zs.length : Int) < 2) = false := by simp; omega
            have n3 : decide ((p.zs.length : Int) - 2 < A) = false := by simp; omega
            have hx1 : IntKind.u16.wrap (x.tdiv 256) % 256 = x / 256 := by
              rw [Int.tdiv_eq_ediv_of_nonneg hx.1, IntKind.wrap_u16]; omega
            obtain ⟨⟨u1, hu1⟩, hf1, ho4⟩ := OwnB.set HO3.out A (by omega) (x / 256)
            obtain ⟨⟨u2, hu2⟩, hf2, ho5⟩ := OwnB.set ho4 (A + 1) (by omega) (x % 256)
            have HO5 : Hid (OwnB ((w3.setCell ⟨w2.heap.size, A, none⟩ (.int .u8 (x / 256))).setCell ⟨w2.heap.size, A + 1, none⟩ (.int .u8 (x % 256))) w2.heap.size (.slice (some ⟨w2.heap.size, 0, none⟩) p.zs.length cap3) ((p.zs.set A (x / 256)).set (A + 1) (x % 256))) := ho5
            have HB5 : Hid (Below w.heap.size w ((w3.setCell ⟨w2.heap.size, A, none⟩ (.int .u8 (x / 256))).setCell ⟨w2.heap.size, A + 1, none⟩ (.int .u8 (x % 256)))) := (HB3.out.setCell (by simp; omega) _).setCell (by simp; omega) _
            have HCZ : Hid (∀ z, z ∈ (p.zs.set A (x / 256)).set (A + 1) (x % 256) → 0 ≤ z ∧ z ≤ 255) := fun z hm => by
              rcases List.mem_or_eq_of_mem_set hm with h | h
              · rcases List.mem_or_eq_of_mem_set h with h | h
                · exact HPZ.out z h
                · omega
              · omega
            have HCL : Hid (((p.zs.set A (x / 256)).set (A + 1) (x % 256)).length = p.zs.length) := by unfold Hid; simp
            clear ho4 ho5
            go_wp2
            go_quiet (fail)
            go_wp2
            generalize hW : (World.drewN _ _) = W5
            have HO6 : Hid (OwnB W5 w2.heap.size (.slice (some ⟨w2.heap.size, 0, none⟩) p.zs.length cap3) ((p.zs.set A (x / 256)).set (A + 1) (x % 256))) := by
              unfold Hid; rw [← hW]; exact OwnB.drewN HO5.out _
            have HB6 : Hid (Below w.heap.size w W5) := by unfold Hid; rw [← hW]; exact below_drewN HB5.out _
            have hz6 : w2.heap.size + 1 ≤ W5.heap.size := by
              have := (OwnB.at HO6.out).2.1; omega
            clear hW hu1 hf1 hu2 hf2 c1 c2 l0 l1 HO5 HB5
            have HPK : Hid (p.ok W5) := HP.out _ HB6.out
            generalize hC : (p.zs.set A (x / 256)).set (A + 1) (x % 256) = C at *
            clear hC
            go_loop [10, 11] (fun z i => ∃ k : Nat, k ≤ p.zs.length ∧ i = .int .i64 k ∧ z = .bool (allz (C.take k))) (fun _ i => p.zs.length - (intOf i).toNat)
            case atStart => exact ⟨0, by omega, rfl, rfl⟩
            case round =>
              obtain ⟨k, hk, rfl, rfl⟩ := hrel
              by_cases hlt : k < p.zs.length
              · have hcell := OwnB.cell HO6.out k hlt
                have HSN : Hid (allz (C.take (k + 1)) = (allz (C.take k) && (C.getD k 0 == 0))) := by
                  unfold Hid; rw [take_snoc C k (by rw [HCL.out]; exact hlt), allz_snoc]
                generalize C.getD k 0 = z at *
                have hlt2 : (k : Int) < (p.zs.length : Int) := by omega
                cases hz : allz (C.take k)
                · rw [hz] at HSN
                  have HS2 : Hid (allz (C.take (k + 1)) = false) := by unfold Hid; rw [HSN.out]; rfl
                  clear HSN hz
                  go_wp2
                  go_round
                  case rel => exact ⟨k + 1, by omega, by go_num, by rw [HS2.out]⟩
                  case measure => simp [intOf]; omega
                · rw [hz] at HSN
                  have HS2 : Hid (allz (C.take (k + 1)) = (z == 0)) := by unfold Hid; rw [HSN.out]; simp
                  clear HSN hz
                  go_wp2
                  go_round
                  case rel => exact ⟨k + 1, by omega, by go_num, by rw [HS2.out]⟩
                  case measure => simp [intOf]; omega
              · have HTK : Hid (C.take k = C) := by unfold Hid; rw [List.take_of_length_le (by rw [HCL.out]; omega)]
                rw [HTK.out]
                have hge : ¬ (k : Int) < (p.zs.length : Int) := by omega
                go_wp2_with fail
                have hb7 : Below W5.heap.size W5 (W5.alloc (.cells #[.slice (some ⟨b, o, none⟩) p.zs.length p.c] 26)) := (Below.refl _ _).alloc (Nat.le_refl _) _
                refine (sum_one p W5.heap.size _ (by rw [World.cell?_alloc_at _ _ _ _ rfl]; unfold Part.val; rw [HPA.out]; rfl) (Part.ok_below HPK.out hb7) (by omega) 1).mono ?_
                rintro e w7 ⟨rfl, hw7⟩
                have HO7 : Hid (OwnB w7 w2.heap.size (.slice (some ⟨w2.heap.size, 0, none⟩) p.zs.length cap3) C) := by
                  unfold Hid; rw [hw7]; exact OwnB.below HO6.out hb7
                have HB7 : Hid (Below w.heap.size w w7) := by unfold Hid; rw [hw7]; exact HB6.out.alloc (by omega) _
                have hz7 : w2.heap.size + 1 ≤ w7.heap.size := by rw [hw7]; simp; omega
                clear hw7 hb7
                go_wp2_with fail
                have ho8 := OwnB.below HO7.out (w' := w7.alloc (.cells #[.slice (some ⟨w2.heap.size, 0, none⟩) p.zs.length cap3] 26)) ((Below.refl _ _).alloc (Nat.le_refl _) _)
                obtain ⟨pt8, hv8, hz8, hok8⟩ := OwnB.part ho8 HCZ.out
                refine (sum_one pt8 w7.heap.size _ (by rw [World.cell?_alloc_at _ _ _ _ rfl, ← hv8]; rfl) hok8 (by rw [hz8, HCL.out]; omega) 1).mono ?_
                rintro e w8 ⟨rfl, hw8⟩
                rw [hz8]
                have HB8 : Hid (Below w.heap.size w w8) := by unfold Hid; rw [hw8]; exact HB7.out.alloc (by omega) _
                clear hw8 ho8 hv8 hz8 hok8
                have hsb : 0 ≤ sumOf p.zs ∧ sumOf p.zs ≤ 65535 := by
                  have := cs_bd _ (run_nonneg _ HPZ.out)
                  unfold sumOf; omega
                have hob : 0 ≤ old0 * 256 + old1 ∧ old0 * 256 + old1 ≤ 65535 := by omega
                go_wp2_with fail
                refine (turn_any _ _ _ _ hsb hob hx).mono ?_
                rintro e w9 ⟨rfl, rfl⟩
                have htr := HTR.out
                cases hzz : allz C
                · rw [hzz] at htr
                  have h2 := htr.2 rfl
                  have HE : Hid (65535 - cs (65535 - sumOf p.zs + (65535 - (old0 * 256 + old1)) + x) = sumOf C) := h2
                  rw [HE.out]
                  clear htr h2 hzz
                  go_wp2
                  go_ret
                  exact ⟨by simp, HB8.out⟩
                · rw [hzz] at htr
                  have h1 := htr.1 rfl
                  have HE1 : Hid (65535 - cs (65535 - sumOf p.zs + (65535 - (old0 * 256 + old1)) + x) = 0) := h1.2
                  have HE2 : Hid (sumOf C = 65535) := h1.1
                  rw [HE1.out, HE2.out]
                  clear htr h1 hzz
                  go_wp2
                  go_ret
                  exact ⟨rfl, HB8.out⟩
end Go.Proofs.YtakjcjddbgapiabDoor
