/-
  The walk of BootpAgain.
-/
import Derived.Test.YtoifblndpcelkaaBoEnS
import Derived.Test.YtoifblndpcelkaaBoRPk
import Derived.Test.YtoifblndpcelkaaBoLiv
namespace Go.Proofs.Ytoifblndpcelkaa
open Go.RowKit
set_option linter.all false

theorem zeroIn_txt {l : List Int} (h : ∀ z ∈ l, 0 ≤ z ∧ z ≤ 255) : zeroIn (strOfNums (txt l)) = false := by
  unfold zeroIn
  rw [nums_str (txt_bd h)]
  simp only [decide_eq_false_iff_not]
  exact txt_not l
theorem zeroIn_no : zeroIn noText = false := by decide
/-- what was read may be written, but for lengths. -/
theorem decB_good {zs : List Int} (hz : ∀ z ∈ zs, 0 ≤ z ∧ z ≤ 255) (hu : unR zs = 0) (h : Int) : badB (decB zs h) = false := by
  have gd := getTo_bd zs (getD_mem_bd hz)
  have h1 : zs.getD 0 0 = 1 ∨ zs.getD 0 0 = 2 := by
    unfold unR at hu
    split at hu
    · omega
    · split at hu
      · omega
      · next h2 =>
        simp only [Decidable.not_not] at h2
        exact h2.1
  have e1 : getTo zs 0 1 = zs.getD 0 0 := by simp [getTo]
  have z1 : zeroIn (decB zs h).sname = false := by
    show zeroIn (if h = 2 ∨ h = 3 then noText else snS zs) = false
    split
    · exact zeroIn_no
    · exact zeroIn_txt (fun z hz' => hz z (List.mem_of_mem_drop (List.mem_of_mem_take hz')))
  have z2 : zeroIn (decB zs h).file = false := by
    show zeroIn (if h = 1 ∨ h = 3 then noText else flS zs) = false
    split
    · exact zeroIn_no
    · exact zeroIn_txt (fun z hz' => hz z (List.mem_of_mem_drop (List.mem_of_mem_take hz')))
  have o1 : (decB zs h).op = zs.getD 0 0 := e1
  have o2 : (decB zs h).hops = getTo zs 3 1 := rfl
  have o3 : (decB zs h).secs = getTo zs 8 2 := rfl
  have g3 := gd 3 1
  have g8 := gd 8 2
  simp only [badB, z1, z2, o1, o2, o3, Bool.or_false, Bool.or_eq_false_iff, Bool.not_eq_false', Bool.or_eq_true, Bool.and_eq_true, decide_eq_true_eq]
  exact ⟨⟨h1, by omega, by omega⟩, by omega, by omega⟩
theorem filt_52 (g : List Opt) : ov52 (g.filter fun o => o.1 != 52) = false := by
  unfold ov52
  rw [List.any_eq_false]
  intro o ho
  have := (List.mem_filter.1 ho).2
  simpa using this
/-- what a Decode that was taken has. -/
theorem decR_good {zs : List Int} (hz : ∀ z ∈ zs, 0 ≤ z ∧ z ≤ 255) {m : Bp} {g : List Opt} (h : decR zs = .ok (m, g)) : badB m = false ∧ ov52 g = false ∧ g.length ≤ 64 := by
  have h2 : ∀ k R, (∀ g, R = .ok g → Took g) → unR zs = 0 → dec2 zs k R = .ok (m, g) → badB m = false ∧ ov52 g = false ∧ g.length ≤ 64 := fun k R hR hu hd => by
    cases R with
    | error e => simp [dec2] at hd
    | ok g' =>
      simp only [dec2, Except.ok.injEq, Prod.mk.injEq] at hd
      obtain ⟨rfl, rfl⟩ := hd
      exact ⟨decB_good hz hu k, filt_52 g', Nat.le_trans (List.length_filter_le _ _) (hR g' rfl).few⟩
  unfold decR at h
  split at h
  · simp at h
  · next hu =>
    have hu0 : unR zs = 0 := by simpa using hu
    have k1 : ∀ g, parseG [] [zs.drop 240] = .ok g → Took g := fun g hg => by
      have := okL_took (ps := [zs.drop 240]) (fun p hp z hzp => by simp at hp; subst hp; exact hz z (List.mem_of_mem_drop hzp))
      rw [hg] at this
      exact this.1
    have k2 : ∀ h g, parseG [] (roomsZ zs h) = .ok g → Took g := fun h g hg => by
      have := okL_took (rooms_bd hz h)
      rw [hg] at this
      exact this.1
    cases hp : parseG [] [zs.drop 240] with
    | error e => rw [hp] at h; simp [dec1] at h
    | ok g0 =>
      rw [hp] at h
      simp only [dec1] at h
      split at h
      · simp at h
      · refine h2 _ _ (fun g' hg' => ?_) hu0 h
        split at hg'
        · simp only [Except.ok.injEq] at hg'
          subst hg'
          exact k1 _ hp
        · exact k2 _ _ hg'
theorem decR_err (zs : List Int) : decR zs ≠ .error 0 := by
  have h2 : ∀ k R, R ≠ .error 0 → dec2 zs k R ≠ .error 0 := fun k R hR => by
    cases R with
    | error e => simpa [dec2] using hR
    | ok g => simp [dec2]
  unfold decR
  split
  · next h => simpa using h
  · cases hp : parseG [] [zs.drop 240] with
    | error e =>
      simp only [dec1]
      intro h
      simp only [Except.error.injEq] at h
      rw [h] at hp
      exact bparse_err [zs.drop 240] [] hp
    | ok g =>
      simp only [dec1]
      split
      · next h => simpa using h
      · refine h2 _ _ ?_
        split
        · simp
        · exact bparse_err _ _
theorem sumO_many : ∀ (g : List Opt) (k : Nat), (∀ o ∈ g, o.2.length ≤ k) → sumO g ≤ g.length * k
  | [], k, _ => by simp [sumO]
  | o :: g, k, h => by
    have h1 := sumO_many g k (fun p hp => h p (by simp [hp]))
    have h2 := h o (by simp)
    simp only [sumO, List.map_cons, List.sum_cons, List.length_cons] at h1 ⊢
    rw [Nat.add_mul]
    omega
theorem unE_of {m : Bp} (hb : badB m = false) : unE m false = if longB m then 2 else 0 := by
  unfold unE
  rw [hb]
  simp
set_option maxRecDepth 20000 in
set_option maxHeartbeats 4000000 in
theorem bootpAgain_walk (pt : Part) (w : World) (hok : pt.ok w) (hl : pt.zs.length ≤ 140737488351232) :
    Calls Try.prog 7 #[pt.val] w fun e w' => e = .returned (.bool true) ∧ Below w.heap.size w w' := by
  have HDC := hid (fun (W : World) (hb : Below w.heap.size w W) => bp_decode pt W (Part.ok_below hok hb) (by omega))
  have hR := decR_ok hok.1 (Nat.le_trans hl (by omega))
  have hne := decR_err pt.zs
  have hgd := fun m g => decR_good (m := m) (g := g) hok.1
  generalize decR pt.zs = R at *
  obtain ⟨pa, pc, pz⟩ := pt
  simp only [Part.val] at *
  generalize pz.length = n at *
  clear hok
  cases R with
  | error E =>
    have he : (E != 0) = true := by simpa using hne
    simp only [decX, decA, decL] at HDC
    clear hR hne hgd
    go_enter Try.func7, Try.ntmps7
    go_upto_region 4 with (first
      | (go_at_call 9; refine (live_any _).mono ?_; rintro e w1 ⟨rfl, HB1⟩)
      | (go_at_call 10; refine (HDC.out _ HB1.out).mono ?_; rintro e w2 ⟨X, rfl, HX⟩)
      | (refine wpList_alloc_to rfl 28 rfl zeroC (by kernel_rfl) ?_)
      | (refine wpList_store_row rfl 28 _ _ rfl w2.heap.size X rfl rfl 28 _ (heap_new w2 _) HX.out.1.info (by rw [HX.out.1.size]; rfl) HX.out.1.one ?_)
      | fail)
    have hl3 := box_laid w2 X
    have HV3 := hid (HX.out.1.below hl3.2)
    have HB3 := hid (bstep (bstep HB1.out HX.out.2.1) hl3.2)
    have HP3 := hid hl3.1
    clear hl3 HX HB1
    generalize (w2.alloc (.cells zeroC 28)).setRow w2.heap.size X = W3 at *
    generalize w2.heap.size = g4 at *
    have HZV : Hid (BpV zeroBp [] zeroC W3) := ⟨none, [], 0, rfl, OV.nil _ _, rfl⟩
    go_wp2_with (first
      | (refine wpList_load_row rfl 28 _ rfl g4 rfl 28 X (0, 0) _ HP3.out Try.underlying28 rfl HV3.out.info ?_)
      | (refine wpList_build_to rfl 28 _ rfl zeroC (by kernel_rfl) ?_)
      | (go_at_call 21; refine (bp_same zeroBp_ok HV3.out HZV.out).mono ?_; rintro e w5 ⟨rfl, HB5⟩)
      | fail)
    go_ret
    exact ⟨rfl, bstep HB3.out HB5.out⟩
  | ok p =>
    obtain ⟨m, g⟩ := p
    simp only [decX, decA, decL] at HDC hR
    obtain ⟨hbad, h52, h64⟩ := hgd m g rfl
    have HRD := hid hR.1
    have HM := hid hR.2
    have HUN : Hid (unE m (ov52 g) = if longB m then 2 else 0) := by unfold Hid; rw [h52]; exact unE_of hbad
    have HLY : Hid ((layL g).length ≤ 36028797018963968) := by
      have h1 := layL_len g
      have h2 := sumO_many g 140737488353280 hR.1.lens
      have h3 : g.length * 140737488353280 ≤ 64 * 140737488353280 := Nat.mul_le_mul_right _ h64
      unfold Hid
      omega
    clear hR hne hgd hbad h52 h64
    go_enter Try.func7, Try.ntmps7
    go_upto_region 6 with (first
      | (go_at_call 9; refine (live_any _).mono ?_; rintro e w1 ⟨rfl, HB1⟩)
      | (go_at_call 10; refine (HDC.out _ HB1.out).mono ?_; rintro e w2 ⟨X, rfl, HX⟩)
      | (refine wpList_alloc_to rfl 28 rfl zeroC (by kernel_rfl) ?_)
      | (refine wpList_store_row rfl 28 _ _ rfl w2.heap.size X rfl rfl 28 _ (heap_new w2 _) HX.out.1.info (by rw [HX.out.1.size]; rfl) HX.out.1.one ?_)
      | fail)
    have hl3 := box_laid w2 X
    have HV3 := hid (HX.out.1.below hl3.2)
    have HB3 := hid (bstep (bstep HB1.out HX.out.2.1) hl3.2)
    have HP3 := hid hl3.1
    clear hl3 HX HB1 HDC
    generalize (w2.alloc (.cells zeroC 28)).setRow w2.heap.size X = W3 at *
    generalize w2.heap.size = g4 at *
    obtain ⟨ax, os, cx, hXE, hOV, hAB⟩ := HV3.out
    have HENC := hid (fun (W : World) (hX : BpV m g X W) => bp_encodeS HM.out hX)
    have HPK := hid (fun (W : World) (hb : Below W3.heap.size W3 W) => refPack_small ax cx os 1232 W (hOV.below hb) (by omega) (by rw [hAB]; exact HLY.out) (by omega))
    rw [hAB] at HPK
    have HXI : Hid (X[15]? = some (.string m.sname) ∧ X[16]? = some (.string m.file) ∧ X[17]? = some (.slice ax os.length cx)) := by rw [hXE]; exact ⟨rfl, rfl, rfl⟩
    have HZB : Hid (∀ z, z ∈ encZ m g → 0 ≤ z ∧ z ≤ 255) := encZ_bd HM.out.mac HV3.out.bd
    generalize os.length = no at *
    clear hXE hOV hAB
    by_cases hlong : longB m = true
    · have hx : encX m g = 2 := by
        unfold encX
        rw [HUN.out, if_pos hlong, if_neg (by omega)]
      rw [hx] at HENC
      have hln : 63 < m.sname.size ∨ 127 < m.file.size := by
        unfold longB at hlong
        simpa using hlong
      have HSZ : Hid (m.sname.size ≤ 140737488353280 ∧ m.file.size ≤ 140737488353280) := ⟨HM.out.sname, HM.out.file⟩
      generalize hSN : m.sname = SN at *
      generalize hFN : m.file = FN at *
      clear hx hlong hSN hFN
      generalize (encZ m g).length = lz at *
      by_cases h1 : 63 < SN.size
      · have d1 : decide ((63 : Int) < (SN.size : Int)) = true := by simp; omega
        clear hln
        go_wp2_with (first
          | (refine wpList_load_row rfl 28 _ rfl g4 rfl 28 X (0, 0) _ HP3.out Try.underlying28 rfl HV3.out.info ?_)
          | (go_at_call 14; refine (HENC.out _ HV3.out).mono ?_; rintro e w4 ⟨a4, c4, rfl, HA⟩
             have c15 : w4.cell? ⟨g4, 15, none⟩ = some (.string SN) := (cell_of_heap (kept HP3.out HA.out.2.2) 15).trans HXI.out.1)
          | fail)
        go_ret
        exact ⟨rfl, bstep HB3.out HA.out.2.2⟩
      · have d1 : decide ((63 : Int) < (SN.size : Int)) = false := by simp; omega
        have d2 : decide ((127 : Int) < (FN.size : Int)) = true := by simp; omega
        clear hln
        go_wp2_with (first
          | (refine wpList_load_row rfl 28 _ rfl g4 rfl 28 X (0, 0) _ HP3.out Try.underlying28 rfl HV3.out.info ?_)
          | (go_at_call 14; refine (HENC.out _ HV3.out).mono ?_; rintro e w4 ⟨a4, c4, rfl, HA⟩
             have c15 : w4.cell? ⟨g4, 15, none⟩ = some (.string SN) := (cell_of_heap (kept HP3.out HA.out.2.2) 15).trans HXI.out.1
             have c16 : w4.cell? ⟨g4, 16, none⟩ = some (.string FN) := (cell_of_heap (kept HP3.out HA.out.2.2) 16).trans HXI.out.2.1)
          | fail)
        go_ret
        exact ⟨rfl, bstep HB3.out HA.out.2.2⟩
    · have hlong' : longB m = false := by simpa using hlong
      have hx : encX m g = packE g 1232 := by
        unfold encX
        rw [HUN.out, if_neg hlong, if_pos rfl]
      have hln : ¬ 63 < m.sname.size ∧ ¬ 127 < m.file.size := by
        unfold longB at hlong'
        simpa using hlong'
      have d1 : decide ((63 : Int) < (m.sname.size : Int)) = false := by simp; omega
      have d2 : decide ((127 : Int) < (m.file.size : Int)) = false := by simp; omega
      have HDB : Hid (packE g 1232 = 0 → ∀ rest, decR (encZ m g ++ rest) = .ok (m, g)) := fun h0 rest => decZ_back HM.out (hx.trans h0) rest
      have HZL : Hid ((encZ m g).length ≤ 1472) := encZ_le m g
      have HZP : Hid (packE g 1232 = 0 → 300 ≤ (encZ m g).length) := fun h0 => (encZ_len (hx.trans h0)).1
      rw [hx] at HENC
      clear hlong hlong' hx hln HUN
      obtain ⟨SN, hSN⟩ : ∃ s, s = m.sname := ⟨_, rfl⟩
      obtain ⟨FN, hFN⟩ : ∃ s, s = m.file := ⟨_, rfl⟩
      rw [← hSN] at HXI d1
      rw [← hFN] at HXI d2
      clear hSN hFN
      go_upto_region 9 with (first
        | (refine wpList_load_row rfl 28 _ rfl g4 rfl 28 X (0, 0) _ HP3.out Try.underlying28 rfl HV3.out.info ?_)
        | (go_at_call 14; refine (HENC.out _ HV3.out).mono ?_; rintro e w4 ⟨a4, c4, rfl, HA⟩
           have c15 : w4.cell? ⟨g4, 15, none⟩ = some (.string SN) := (cell_of_heap (kept HP3.out HA.out.2.2) 15).trans HXI.out.1
           have c16 : w4.cell? ⟨g4, 16, none⟩ = some (.string FN) := (cell_of_heap (kept HP3.out HA.out.2.2) 16).trans HXI.out.2.1)
        | fail)
      have HP4 := hid (kept HP3.out HA.out.2.2)
      have HV4 := hid (HV3.out.below HA.out.2.2)
      have HB4 := hid (bstep HB3.out HA.out.2.2)
      have c17 : w4.cell? ⟨g4, 17, none⟩ = some (.slice ax no cx) := (cell_of_heap HP4.out 17).trans HXI.out.2.2
      have hE : (packE g 1232 == packE g 1232) = true := by simp
      clear c15 c16 HP3 HV3 HB3
      by_cases hp : packE g 1232 = 0
      · have HDB2 := hid (HDB.out hp)
        have HZP2 := hid (HZP.out hp)
        rw [hp] at HPK
        clear HDB HZP hE
        rw [hp]
        clear hp
        generalize encZ m g = Z at *
        obtain ⟨N, hN⟩ : ∃ N, N = Z.length := ⟨_, rfl⟩
        have HN := hid hN
        have hA := HA.out
        obtain ⟨b, o, hax, hok⟩ := ans_part hA HZB.out (by have := HZP2.out; omega)
        subst hax
        rw [← hN]
        clear hA hN
        have HPKW := hid (HPK.out _ HA.out.2.2)
        generalize packA g 1232 = PA at *
        generalize PA.length = lp at *
        go_upto_region 12 with (first
          | (go_at_call 25; refine HPKW.out.mono ?_; rintro e w5 ⟨ap, cp, rfl, HA5⟩)
          | fail)
        have HP5 := hid (kept HP4.out HA5.out.2.2)
        have HV5 := hid (HV4.out.below HA5.out.2.2)
        have HB5 := hid (bstep HB4.out HA5.out.2.2)
        have HK5 := hid (Part.ok_below hok HA5.out.2.2)
        clear hok HA5 HP4 HV4 HB4 c17 HPK HPKW HENC
        have HDC : Hid (Calls Try.prog 10 #[.slice (some ⟨b, o, none⟩) N c4] w5 fun e w' => ∃ Y, e = .returned (.tuple #[.agg Y, .int .i64 0]) ∧ Hid (BpV m g Y w' ∧ Below w5.heap.size w5 w')) := by
          have h := bp_decode _ w5 HK5.out (by have := HZL.out; simp only; omega)
          have e := HDB2.out []
          rw [List.append_nil] at e
          simp only [Part.val, e, ← HN.out] at h
          refine h.mono ?_
          rintro e w' ⟨Y, rfl, HI⟩
          exact ⟨Y, rfl, HI.out.1, HI.out.2.1⟩
        go_upto_region 13 with (first
          | (go_at_call 10; refine HDC.out.mono ?_; rintro e w6 ⟨Y, rfl, HY⟩)
          | (refine wpList_alloc_to rfl 28 rfl zeroC (by kernel_rfl) ?_)
          | (refine wpList_store_row rfl 28 _ _ rfl w6.heap.size Y rfl rfl 28 _ (heap_new w6 _) HY.out.1.info (by rw [HY.out.1.size]; rfl) HY.out.1.one ?_)
          | fail)
        have hl6 := box_laid w6 Y
        have hb6 := bstep HY.out.2 hl6.2
        have HP6 := hid (kept HP5.out hb6)
        have HV6 := hid (HV5.out.below hb6)
        have HB6 := hid (bstep HB5.out hb6)
        have HY6 := hid (HY.out.1.below hl6.2)
        have HQ6 := hid hl6.1
        clear hl6 hb6 HY HP5 HV5 HB5 HK5 HDC
        generalize (w6.alloc (.cells zeroC 28)).setRow w6.heap.size Y = W6 at *
        generalize w6.heap.size = g11 at *
        go_wp2_with (first
          | (refine wpList_load_row rfl 28 _ rfl g11 rfl 28 Y (0, 0) _ HQ6.out Try.underlying28 rfl HY6.out.info ?_)
          | (refine wpList_load_row rfl 28 _ rfl g4 rfl 28 X (0, 0) _ HP6.out Try.underlying28 rfl HV6.out.info ?_)
          | (go_at_call 21; refine (bp_same HM.out HY6.out HV6.out).mono ?_; rintro e w7 ⟨rfl, HB7⟩)
          | fail)
        go_ret
        exact ⟨rfl, bstep HB6.out HB7.out⟩
      · have hp' : (packE g 1232 != 0) = true := by simpa using hp
        have HPKW := hid (HPK.out _ HA.out.2.2)
        clear hp HPK HDB HZP HENC
        generalize packE g 1232 = E at *
        generalize packA g 1232 = PA at *
        generalize PA.length = lp at *
        generalize (encZ m g).length = lz at *
        go_wp2_with (first
          | (go_at_call 25; refine HPKW.out.mono ?_; rintro e w5 ⟨ap, cp, rfl, HA5⟩)
          | fail)
        go_ret
        exact ⟨rfl, bstep HB4.out HA5.out.2.2⟩
end Go.Proofs.Ytoifblndpcelkaa
