/-
  slices.Sort at uint32: the whole.
-/
import Derived.Test.YtaaoelhmanahpaaBSrtG
namespace Go.Proofs.Ytaaoelhmanahpaa
open Go.RowKit
open Go.Sort (swp ltInt PermIn SortedIn SWO)
set_option linter.all false

theorem SW.row0 {w0 w : World} {g off : Nat} {d : Array Int} (x : SW w0 w g off d) : SW w0 w g off d := x
/-- what is left to do at [a, b) does all of it. -/
def Fin (a0 b0 a b : Nat) (d dk : Array Int) : Prop := ∀ R, PermIn a b dk R → SortedIn ltInt a b R → PermIn a0 b0 d R ∧ SortedIn ltInt a0 b0 R
theorem Fin.next {a0 b0 a b : Nat} {d dk d3 : Array Int} (h : Fin a0 b0 a b d dk) (hp : PermIn a b dk d3) : Fin a0 b0 a b d d3 := fun R h1 h2 => h R (Sort.permIn_trans _ _ _ _ _ hp h1) h2
theorem Fin.next2 {a0 b0 a b a' b' : Nat} {d dk d3 d4 : Array Int} (h : Fin a0 b0 a b d dk) (hp : PermIn a b dk d3) (hn : ∀ R, PermIn a' b' d4 R → SortedIn ltInt a' b' R → PermIn a b d3 R ∧ SortedIn ltInt a b R) : Fin a0 b0 a' b' d d4 := fun R h1 h2 => (h.next hp) R (hn R h1 h2).1 (hn R h1 h2).2
/-- what a sort of [a, b) leaves. -/
def PdqI (w0 : World) (g off a b : Nat) (d : Array Int) (e : Ending) (w' : World) : Prop := e = .returned (.tuple #[]) ∧ ∃ d', Hid (SW w0 w' g off d') ∧ Hid (PermIn a b d d' ∧ SortedIn ltInt a b d')
def Pdq (g off cap n : Nat) : Prop := ∀ (w0 : World) (a b lim : Nat) (d : Array Int) (w : World), SW w0 w g off d → b - a < n → a ≤ b → b ≤ d.size → Sort.Below ltInt a b d → d.size < 1152921504606846976 → lim ≤ 64 →
    Calls Try.prog 78 #[.slice (some ⟨g, off, none⟩) d.size cap, .int .i64 a, .int .i64 b, .int .i64 lim] w fun e w' => e = .returned (.tuple #[]) ∧ ∃ d', Hid (SW w0 w' g off d') ∧ Hid (PermIn a b d d' ∧ SortedIn ltInt a b d')
theorem pdq_cast {g off cap n m b lim : Nat} {w : World} {R : Ending → World → Prop} (h : Calls Try.prog 78 #[.slice (some ⟨g, off, none⟩) n cap, .int .i64 ((m + 1 : Nat) : Int), .int .i64 b, .int .i64 lim] w R) : Calls Try.prog 78 #[.slice (some ⟨g, off, none⟩) n cap, .int .i64 ((m : Int) + 1), .int .i64 b, .int .i64 lim] w R := by
  rwa [show ((m + 1 : Nat) : Int) = (m : Int) + 1 from by omega] at h
set_option maxRecDepth 100000 in
set_option maxHeartbeats 40000000 in
theorem pdq_step (g off cap n : Nat) (ih : Pdq g off cap n) (w0 : World) (a0 b0 lim0 : Nat) (d : Array Int) (w : World) (x : SW w0 w g off d) (hn : b0 - a0 ≤ n) (hab0 : a0 ≤ b0) (hb0 : b0 ≤ d.size) (hB : Sort.Below ltInt a0 b0 d) (hsz : d.size < 1152921504606846976) (hlim0 : lim0 ≤ 64) :
    Calls Try.prog 78 #[.slice (some ⟨g, off, none⟩) d.size cap, .int .i64 a0, .int .i64 b0, .int .i64 lim0] w fun e w' => e = .returned (.tuple #[]) ∧ ∃ d', Hid (SW w0 w' g off d') ∧ Hid (PermIn a0 b0 d d' ∧ SortedIn ltInt a0 b0 d') := by
  have HX := hid x
  have HBe := hid hB
  have IH := hid ih
  clear x hB ih
  go_enter Try.func78, Try.ntmps78
  go_wp2
  go_loopw [1, 2, 3, 8, 9] (fun va vb vl vB vP wr => ∃ (a b lim : Nat) (wb wp : Bool) (dk : Array Int), va = .int .i64 a ∧ vb = .int .i64 b ∧ vl = .int .i64 lim ∧ vB = .bool wb ∧ vP = .bool wp ∧ a0 ≤ a ∧ a ≤ b ∧ b ≤ b0 ∧ lim ≤ 64 ∧ dk.size = d.size ∧ Hid (SW w0 wr g off dk) ∧ Hid (Sort.Below ltInt a b dk) ∧ Hid (Fin a0 b0 a b d dk)) (fun va vb _ _ _ _ => (intOf vb - intOf va).toNat)
  case atStart => exact ⟨a0, b0, lim0, true, true, d, rfl, rfl, rfl, rfl, rfl, by omega, by omega, by omega, hlim0, rfl, HX, HBe, fun R h1 h2 => ⟨h1, h2⟩⟩
  case round =>
    clear HX HBe
    obtain ⟨a, b, lim, wb, wp, dk, rfl, rfl, rfl, rfl, rfl, haa, hab, hbb, hlim, hsk, HX, HBe, HFI⟩ := hrel
    by_cases h12 : b - a ≤ 12
    · have HC := hid (insertion_any w0 g off cap a b dk wr HX.out hab (by omega) (by omega))
      rw [hsk] at HC
      have HE := hid (Sort.insertionSort_holds Sort.swo_ltInt dk a b hab (by omega))
      have HF := hid (HFI.out _ HE.out.1 HE.out.2)
      generalize Sort.insertionSort ltInt dk a b = dz at HC HE HF
      go_wp2_with (first
        | (go_at_call 81; with_reducible refine HC.out.mono ?_; rintro e w1 ⟨rfl, HX1⟩)
        | fail)
      (try simp only [Exit.inBlock, Exit.then])
      refine bodyPost_ret (results_none rfl _ _ _) rfl ?_
      exact ⟨rfl, dz, HX1, HF⟩
    · by_cases hl0 : lim = 0
      · subst hl0
        have HC := hid (heap_any w0 g off cap a b dk wr HX.out (by omega) (by omega) (by omega))
        rw [hsk] at HC
        have HE := hid (Sort.heapSort_holds Sort.swo_ltInt dk a b hab (by omega))
        have HF := hid (HFI.out _ HE.out.1 HE.out.2)
        generalize Sort.heapSort ltInt dk a b = dz at HC HE HF
        go_wp2_with (first
          | (go_at_call 82; with_reducible refine HC.out.mono ?_; rintro e w1 ⟨rfl, HX1⟩)
          | fail)
        (try simp only [Exit.inBlock, Exit.then])
        refine bodyPost_ret (results_none rfl _ _ _) rfl ?_
        exact ⟨rfl, dz, HX1, HF⟩
      · skip
        have hl1 : 1 ≤ lim := by omega
        have hab2 : a + 12 < b := by omega
        have HCB : Hid (∀ (dj : Array Int) (w1 : World), dj.size = d.size → SW w0 w1 g off dj → Calls Try.prog 83 #[.slice (some ⟨g, off, none⟩) d.size cap, .int .i64 a, .int .i64 b] w1 fun e w' => e = .returned (.tuple #[]) ∧ ∃ d', Hid (SW w0 w' g off d') ∧ PermIn a b dj d') := fun dj w1 h y => by rw [← h]; exact break_any w0 g off cap a b dj w1 y hab2 (by omega) (by omega)
        have HCC : Hid (∀ (dj : Array Int) (w1 : World), dj.size = d.size → SW w0 w1 g off dj → Calls Try.prog 84 #[.slice (some ⟨g, off, none⟩) d.size cap, .int .i64 a, .int .i64 b] w1 fun e w' => ∃ (u : Nat) (h : Int), e = .returned (.tuple #[.int .i64 u, .int .i64 h]) ∧ a ≤ u ∧ u < b ∧ (h = 0 ∨ h = 1 ∨ h = 2) ∧ Hid (SW w0 w' g off dj)) := fun dj w1 h y => by rw [← h]; exact choose_any w0 g off cap a b dj w1 y hab2 (by omega) (by omega)
        have HCR : Hid (∀ (dj : Array Int) (w1 : World), dj.size = d.size → SW w0 w1 g off dj → Calls Try.prog 85 #[.slice (some ⟨g, off, none⟩) d.size cap, .int .i64 a, .int .i64 b] w1 fun e w' => e = .returned (.tuple #[]) ∧ ∃ d', Hid (SW w0 w' g off d') ∧ PermIn a b dj d') := fun dj w1 h y => by rw [← h]; exact reverse_any w0 g off cap a b dj w1 y (by omega) (by omega) (by omega)
        have HCP : Hid (∀ (dj : Array Int) (w1 : World), dj.size = d.size → SW w0 w1 g off dj → Sort.Below ltInt a b dj → Calls Try.prog 86 #[.slice (some ⟨g, off, none⟩) d.size cap, .int .i64 a, .int .i64 b] w1 fun e w' => ∃ (q : Bool) (d' : Array Int), e = .returned (.bool q) ∧ Hid (SW w0 w' g off d') ∧ Hid (PermIn a b dj d') ∧ (q = true → SortedIn ltInt a b d')) := fun dj w1 h y hb => by rw [← h]; exact partial_any w0 g off cap a b dj w1 y (by omega) (by omega) hb (by omega)
        have HP0 : Hid (PermIn a b dk dk) := Sort.permIn_refl _ _ _

        cases wb with
        | false =>
          obtain ⟨lim2, hlim2⟩ : ∃ z, z = lim - 1 := ⟨_, rfl⟩
          have hlmi : (lim : Int) - 1 = lim2 := by omega
          have hlim3 : lim2 ≤ 64 := by omega
          clear hlim2
          go_wp2_with (first
          | (go_at_call 83; with_reducible refine (HCB.out dk wr hsk HX.out).mono ?_; rintro e w1 ⟨rfl, d1, HX1, hP1⟩)
          | fail)
          have hs1 : d1.size = d.size := by have := hP1.1; omega
          have HP1 := hid hP1
          clear hP1
          go_wp2_with (first
            | (go_at_call 84; with_reducible refine (HCC.out d1 w1 hs1 HX1.out).mono ?_; rintro e wz ⟨p0, h, rfl, hq1, hq2, hh, HX2⟩; obtain rfl | rfl | rfl := hh)
            | fail)
          · skip
            obtain ⟨d3, hd3⟩ : ∃ z, z = d1 := ⟨_, rfl⟩
            have HX3 : Hid (SW w0 wz g off d3) := by unfold Hid; rw [hd3]; exact HX2.out
            have HP3 : Hid (PermIn a b dk d3) := by unfold Hid; rw [hd3]; exact HP1.out
            clear hd3
            obtain ⟨p, hp⟩ : ∃ z, z = p0 := ⟨_, rfl⟩
            rw [← hp] at hq1 hq2 ⊢
            have hp1 := hq1
            have hp2 := hq2
            clear hp hq1 hq2
            as_aux_lemma =>
              have hs3 : d3.size = d.size := by have := HP3.out.1; omega
              have HB3 : Hid (Sort.Below ltInt a b d3) := HBe.out.perm (by omega) HP3.out
              obtain ⟨G, HG, hcw, hfw⟩ := HX3.out.row0.fam hs3
              by_cases ha0 : 0 < a
              · go_quiet (first | (go_at_call 87; refine Calls.quiet_of_same (less_any _ _ _)))
                go_wp2_with fail
                · have hl : ltInt (G (a - 1)) (G p) = false := by
                    have h : (!ltInt (G (a - 1)) (G p)) = true := by assumption
                    simpa using h
                  have HNL : Hid (ltInt d3[a - 1]! d3[p]! = false) := by unfold Hid; rw [← HG.out, ← HG.out]; exact hl
                  have HXq := hid (HX3.out.drewN nq)
                  generalize wz.drewN nq = wq at HXq ⊢
                  clear HX3 hcw hfw hl HG
                  have HPE := hid (parteq_any w0 g off cap a b p d3 wq HXq.out hp1 hp2 (by omega) (by omega))
                  rw [hs3] at HPE
                  go_wp2_with (first
                    | (go_at_call 88; with_reducible refine HPE.out.mono ?_; rintro e w4 ⟨mid, d4, rfl, HX4, hq4⟩; have HR := hid (Sort.round_eq Sort.swo_ltInt (Sort.partitionEqual_holds _) ha0 hp1 hp2 (by omega) HB3.out HNL.out hq4); have hm1 : a < mid := HR.out.1; have hm2 : mid ≤ b := HR.out.2.1; have hs4 : d4.size = d.size := by { have := HR.out.2.2.1; omega })
                    | fail)
                  go_roundw
                  case rel => exact ⟨mid, b, lim2, false, wp, d4, rfl, rfl, rfl, rfl, rfl, by omega, by omega, by omega, by omega, hs4, HX4, HR.out.2.2.2.1, HFI.out.next2 HP3.out HR.out.2.2.2.2⟩
                  case measure => simp [intOf]; omega
                · have HXq := hid (HX3.out.drewN nq)
                  generalize wz.drewN nq = wq at HXq ⊢
                  clear HX3 hcw hfw HG
                  have HX3 := HXq
                  clear HXq
                  have HPR := hid (part_any w0 g off cap a b p d3 wq HX3.out hp1 hp2 (by omega) (by omega))
                  rw [hs3] at HPR
                  by_cases hz : True
                  · go_wp2_with (first
                      | (go_at_call 89; with_reducible refine HPR.out.mono ?_; rintro e w4 ⟨mid, q4, d4, rfl, HX4, hq4⟩; obtain ⟨q5, hq5⟩ := hq4; have HR := hid (Sort.round_part Sort.swo_ltInt (Sort.partition_holds _) hp1 hp2 (by omega) HB3.out hq5); have hm1 : a ≤ mid := HR.out.1; have hm2 : mid < b := HR.out.2.1; have hs4 : d4.size = d.size := by { have := HR.out.2.2.1; omega })
                      | fail)
                    all_goals clear HPR hq5
                    · have hl : mid - a < b - mid := by omega
                      have HI := hid (IH.out w0 a mid lim2 d4 _ HX4.out (by omega) (by omega) (by omega) HR.out.2.2.2.1 (by omega) (by omega))
                      rw [hs4] at HI
                      go_wp2_with (first
                        | (go_at_call 78; with_reducible refine HI.out.mono ?_; rintro e w5 ⟨rfl, d5, HX5, HO5⟩)
                        | fail)
                      have HR2 := hid (HR.out.2.2.2.2.2.1 d5 HO5.out.1 HO5.out.2)
                      have hs5 : d5.size = d.size := by have := HO5.out.1.1; omega
                      go_roundw
                      case rel => exact ⟨mid + 1, b, lim2, _, q4, d5, by go_num, rfl, rfl, rfl, rfl, by omega, by omega, by omega, by omega, hs5, HX5, HR2.out.1, HFI.out.next2 HP3.out HR2.out.2⟩
                      case measure => simp [intOf]; omega
                    · have hl : ¬ mid - a < b - mid := by omega
                      have HI0 := hid (IH.out w0 (mid + 1) b lim2 d4 _ HX4.out (by omega) (by omega) (by omega) HR.out.2.2.2.2.1 (by omega) (by omega))
                      rw [hs4] at HI0
                      have HI := hid (pdq_cast HI0.out)
                      clear HI0
                      go_wp2_with (first
                        | (go_at_call 78; with_reducible refine HI.out.mono ?_; rintro e w5 ⟨rfl, d5, HX5, HO5⟩)
                        | fail)
                      have HR2 := hid (HR.out.2.2.2.2.2.2 d5 HO5.out.1 HO5.out.2)
                      have hs5 : d5.size = d.size := by have := HO5.out.1.1; omega
                      go_roundw
                      case rel => exact ⟨a, mid, lim2, _, q4, d5, rfl, rfl, rfl, rfl, rfl, by omega, by omega, by omega, by omega, hs5, HX5, HR2.out.1, HFI.out.next2 HP3.out HR2.out.2⟩
                      case measure => simp [intOf]; omega
                  · exact absurd trivial hz

              · go_quiet (first | (go_at_call 87; refine Calls.quiet_of_same (less_any _ _ _)))
                go_wp2_with fail
                have HXq := hid (HX3.out.drewN nq)
                generalize wz.drewN nq = wq at HXq ⊢
                clear HX3 hcw hfw HG
                have HX3 := HXq
                clear HXq
                have HPR := hid (part_any w0 g off cap a b p d3 wq HX3.out hp1 hp2 (by omega) (by omega))
                rw [hs3] at HPR
                by_cases hz : True
                · go_wp2_with (first
                    | (go_at_call 89; with_reducible refine HPR.out.mono ?_; rintro e w4 ⟨mid, q4, d4, rfl, HX4, hq4⟩; obtain ⟨q5, hq5⟩ := hq4; have HR := hid (Sort.round_part Sort.swo_ltInt (Sort.partition_holds _) hp1 hp2 (by omega) HB3.out hq5); have hm1 : a ≤ mid := HR.out.1; have hm2 : mid < b := HR.out.2.1; have hs4 : d4.size = d.size := by { have := HR.out.2.2.1; omega })
                    | fail)
                  all_goals clear HPR hq5
                  · have hl : mid - a < b - mid := by omega
                    have HI := hid (IH.out w0 a mid lim2 d4 _ HX4.out (by omega) (by omega) (by omega) HR.out.2.2.2.1 (by omega) (by omega))
                    rw [hs4] at HI
                    go_wp2_with (first
                      | (go_at_call 78; with_reducible refine HI.out.mono ?_; rintro e w5 ⟨rfl, d5, HX5, HO5⟩)
                      | fail)
                    have HR2 := hid (HR.out.2.2.2.2.2.1 d5 HO5.out.1 HO5.out.2)
                    have hs5 : d5.size = d.size := by have := HO5.out.1.1; omega
                    go_roundw
                    case rel => exact ⟨mid + 1, b, lim2, _, q4, d5, by go_num, rfl, rfl, rfl, rfl, by omega, by omega, by omega, by omega, hs5, HX5, HR2.out.1, HFI.out.next2 HP3.out HR2.out.2⟩
                    case measure => simp [intOf]; omega
                  · have hl : ¬ mid - a < b - mid := by omega
                    have HI0 := hid (IH.out w0 (mid + 1) b lim2 d4 _ HX4.out (by omega) (by omega) (by omega) HR.out.2.2.2.2.1 (by omega) (by omega))
                    rw [hs4] at HI0
                    have HI := hid (pdq_cast HI0.out)
                    clear HI0
                    go_wp2_with (first
                      | (go_at_call 78; with_reducible refine HI.out.mono ?_; rintro e w5 ⟨rfl, d5, HX5, HO5⟩)
                      | fail)
                    have HR2 := hid (HR.out.2.2.2.2.2.2 d5 HO5.out.1 HO5.out.2)
                    have hs5 : d5.size = d.size := by have := HO5.out.1.1; omega
                    go_roundw
                    case rel => exact ⟨a, mid, lim2, _, q4, d5, rfl, rfl, rfl, rfl, rfl, by omega, by omega, by omega, by omega, hs5, HX5, HR2.out.1, HFI.out.next2 HP3.out HR2.out.2⟩
                    case measure => simp [intOf]; omega
                · exact absurd trivial hz

          · skip
            obtain ⟨d3, hd3⟩ : ∃ z, z = d1 := ⟨_, rfl⟩
            have HX3 : Hid (SW w0 wz g off d3) := by unfold Hid; rw [hd3]; exact HX2.out
            have HP3 : Hid (PermIn a b dk d3) := by unfold Hid; rw [hd3]; exact HP1.out
            clear hd3
            obtain ⟨p, hp⟩ : ∃ z, z = p0 := ⟨_, rfl⟩
            rw [← hp] at hq1 hq2 ⊢
            have hp1 := hq1
            have hp2 := hq2
            clear hp hq1 hq2
            as_aux_lemma =>
              have hs3 : d3.size = d.size := by have := HP3.out.1; omega
              have HB3 : Hid (Sort.Below ltInt a b d3) := HBe.out.perm (by omega) HP3.out
              obtain ⟨G, HG, hcw, hfw⟩ := HX3.out.row0.fam hs3
              by_cases ha0 : 0 < a
              · go_quiet (first | (go_at_call 87; refine Calls.quiet_of_same (less_any _ _ _)))
                go_wp2_with fail
                · have hl : ltInt (G (a - 1)) (G p) = false := by
                    have h : (!ltInt (G (a - 1)) (G p)) = true := by assumption
                    simpa using h
                  have HNL : Hid (ltInt d3[a - 1]! d3[p]! = false) := by unfold Hid; rw [← HG.out, ← HG.out]; exact hl
                  have HXq := hid (HX3.out.drewN nq)
                  generalize wz.drewN nq = wq at HXq ⊢
                  clear HX3 hcw hfw hl HG
                  have HPE := hid (parteq_any w0 g off cap a b p d3 wq HXq.out hp1 hp2 (by omega) (by omega))
                  rw [hs3] at HPE
                  go_wp2_with (first
                    | (go_at_call 88; with_reducible refine HPE.out.mono ?_; rintro e w4 ⟨mid, d4, rfl, HX4, hq4⟩; have HR := hid (Sort.round_eq Sort.swo_ltInt (Sort.partitionEqual_holds _) ha0 hp1 hp2 (by omega) HB3.out HNL.out hq4); have hm1 : a < mid := HR.out.1; have hm2 : mid ≤ b := HR.out.2.1; have hs4 : d4.size = d.size := by { have := HR.out.2.2.1; omega })
                    | fail)
                  go_roundw
                  case rel => exact ⟨mid, b, lim2, false, wp, d4, rfl, rfl, rfl, rfl, rfl, by omega, by omega, by omega, by omega, hs4, HX4, HR.out.2.2.2.1, HFI.out.next2 HP3.out HR.out.2.2.2.2⟩
                  case measure => simp [intOf]; omega
                · have HXq := hid (HX3.out.drewN nq)
                  generalize wz.drewN nq = wq at HXq ⊢
                  clear HX3 hcw hfw HG
                  have HX3 := HXq
                  clear HXq
                  have HPR := hid (part_any w0 g off cap a b p d3 wq HX3.out hp1 hp2 (by omega) (by omega))
                  rw [hs3] at HPR
                  by_cases hz : True
                  · go_wp2_with (first
                      | (go_at_call 89; with_reducible refine HPR.out.mono ?_; rintro e w4 ⟨mid, q4, d4, rfl, HX4, hq4⟩; obtain ⟨q5, hq5⟩ := hq4; have HR := hid (Sort.round_part Sort.swo_ltInt (Sort.partition_holds _) hp1 hp2 (by omega) HB3.out hq5); have hm1 : a ≤ mid := HR.out.1; have hm2 : mid < b := HR.out.2.1; have hs4 : d4.size = d.size := by { have := HR.out.2.2.1; omega })
                      | fail)
                    all_goals clear HPR hq5
                    · have hl : mid - a < b - mid := by omega
                      have HI := hid (IH.out w0 a mid lim2 d4 _ HX4.out (by omega) (by omega) (by omega) HR.out.2.2.2.1 (by omega) (by omega))
                      rw [hs4] at HI
                      go_wp2_with (first
                        | (go_at_call 78; with_reducible refine HI.out.mono ?_; rintro e w5 ⟨rfl, d5, HX5, HO5⟩)
                        | fail)
                      have HR2 := hid (HR.out.2.2.2.2.2.1 d5 HO5.out.1 HO5.out.2)
                      have hs5 : d5.size = d.size := by have := HO5.out.1.1; omega
                      go_roundw
                      case rel => exact ⟨mid + 1, b, lim2, _, q4, d5, by go_num, rfl, rfl, rfl, rfl, by omega, by omega, by omega, by omega, hs5, HX5, HR2.out.1, HFI.out.next2 HP3.out HR2.out.2⟩
                      case measure => simp [intOf]; omega
                    · have hl : ¬ mid - a < b - mid := by omega
                      have HI0 := hid (IH.out w0 (mid + 1) b lim2 d4 _ HX4.out (by omega) (by omega) (by omega) HR.out.2.2.2.2.1 (by omega) (by omega))
                      rw [hs4] at HI0
                      have HI := hid (pdq_cast HI0.out)
                      clear HI0
                      go_wp2_with (first
                        | (go_at_call 78; with_reducible refine HI.out.mono ?_; rintro e w5 ⟨rfl, d5, HX5, HO5⟩)
                        | fail)
                      have HR2 := hid (HR.out.2.2.2.2.2.2 d5 HO5.out.1 HO5.out.2)
                      have hs5 : d5.size = d.size := by have := HO5.out.1.1; omega
                      go_roundw
                      case rel => exact ⟨a, mid, lim2, _, q4, d5, rfl, rfl, rfl, rfl, rfl, by omega, by omega, by omega, by omega, hs5, HX5, HR2.out.1, HFI.out.next2 HP3.out HR2.out.2⟩
                      case measure => simp [intOf]; omega
                  · exact absurd trivial hz

              · go_quiet (first | (go_at_call 87; refine Calls.quiet_of_same (less_any _ _ _)))
                go_wp2_with fail
                have HXq := hid (HX3.out.drewN nq)
                generalize wz.drewN nq = wq at HXq ⊢
                clear HX3 hcw hfw HG
                have HX3 := HXq
                clear HXq
                have HPR := hid (part_any w0 g off cap a b p d3 wq HX3.out hp1 hp2 (by omega) (by omega))
                rw [hs3] at HPR
                by_cases hz : True
                · go_wp2_with (first
                    | (go_at_call 89; with_reducible refine HPR.out.mono ?_; rintro e w4 ⟨mid, q4, d4, rfl, HX4, hq4⟩; obtain ⟨q5, hq5⟩ := hq4; have HR := hid (Sort.round_part Sort.swo_ltInt (Sort.partition_holds _) hp1 hp2 (by omega) HB3.out hq5); have hm1 : a ≤ mid := HR.out.1; have hm2 : mid < b := HR.out.2.1; have hs4 : d4.size = d.size := by { have := HR.out.2.2.1; omega })
                    | fail)
                  all_goals clear HPR hq5
                  · have hl : mid - a < b - mid := by omega
                    have HI := hid (IH.out w0 a mid lim2 d4 _ HX4.out (by omega) (by omega) (by omega) HR.out.2.2.2.1 (by omega) (by omega))
                    rw [hs4] at HI
                    go_wp2_with (first
                      | (go_at_call 78; with_reducible refine HI.out.mono ?_; rintro e w5 ⟨rfl, d5, HX5, HO5⟩)
                      | fail)
                    have HR2 := hid (HR.out.2.2.2.2.2.1 d5 HO5.out.1 HO5.out.2)
                    have hs5 : d5.size = d.size := by have := HO5.out.1.1; omega
                    go_roundw
                    case rel => exact ⟨mid + 1, b, lim2, _, q4, d5, by go_num, rfl, rfl, rfl, rfl, by omega, by omega, by omega, by omega, hs5, HX5, HR2.out.1, HFI.out.next2 HP3.out HR2.out.2⟩
                    case measure => simp [intOf]; omega
                  · have hl : ¬ mid - a < b - mid := by omega
                    have HI0 := hid (IH.out w0 (mid + 1) b lim2 d4 _ HX4.out (by omega) (by omega) (by omega) HR.out.2.2.2.2.1 (by omega) (by omega))
                    rw [hs4] at HI0
                    have HI := hid (pdq_cast HI0.out)
                    clear HI0
                    go_wp2_with (first
                      | (go_at_call 78; with_reducible refine HI.out.mono ?_; rintro e w5 ⟨rfl, d5, HX5, HO5⟩)
                      | fail)
                    have HR2 := hid (HR.out.2.2.2.2.2.2 d5 HO5.out.1 HO5.out.2)
                    have hs5 : d5.size = d.size := by have := HO5.out.1.1; omega
                    go_roundw
                    case rel => exact ⟨a, mid, lim2, _, q4, d5, rfl, rfl, rfl, rfl, rfl, by omega, by omega, by omega, by omega, hs5, HX5, HR2.out.1, HFI.out.next2 HP3.out HR2.out.2⟩
                    case measure => simp [intOf]; omega
                · exact absurd trivial hz

          · go_wp2_with (first
            | (go_at_call 85; with_reducible refine (HCR.out d1 wz hs1 HX2.out).mono ?_; rintro e wz ⟨rfl, d3, HX3, hP3⟩)
            | fail)
            skip
            have HP3 : Hid (PermIn a b dk d3) := Sort.permIn_trans _ _ _ _ _ HP1.out hP3
            obtain ⟨p, hp⟩ : ∃ p, p = b - 1 - (p0 - a) := ⟨_, rfl⟩
            have hpi : (b : Int) - 1 - ((p0 : Int) - a) = p := by omega
            have hp1 : a ≤ p := by omega
            have hp2 : p < b := by omega
            simp only [hpi]
            clear hp hpi hq1 hq2
            as_aux_lemma =>
              have hs3 : d3.size = d.size := by have := HP3.out.1; omega
              have HB3 : Hid (Sort.Below ltInt a b d3) := HBe.out.perm (by omega) HP3.out
              obtain ⟨G, HG, hcw, hfw⟩ := HX3.out.row0.fam hs3
              by_cases ha0 : 0 < a
              · go_quiet (first | (go_at_call 87; refine Calls.quiet_of_same (less_any _ _ _)))
                go_wp2_with fail
                · have hl : ltInt (G (a - 1)) (G p) = false := by
                    have h : (!ltInt (G (a - 1)) (G p)) = true := by assumption
                    simpa using h
                  have HNL : Hid (ltInt d3[a - 1]! d3[p]! = false) := by unfold Hid; rw [← HG.out, ← HG.out]; exact hl
                  have HXq := hid (HX3.out.drewN nq)
                  generalize wz.drewN nq = wq at HXq ⊢
                  clear HX3 hcw hfw hl HG
                  have HPE := hid (parteq_any w0 g off cap a b p d3 wq HXq.out hp1 hp2 (by omega) (by omega))
                  rw [hs3] at HPE
                  go_wp2_with (first
                    | (go_at_call 88; with_reducible refine HPE.out.mono ?_; rintro e w4 ⟨mid, d4, rfl, HX4, hq4⟩; have HR := hid (Sort.round_eq Sort.swo_ltInt (Sort.partitionEqual_holds _) ha0 hp1 hp2 (by omega) HB3.out HNL.out hq4); have hm1 : a < mid := HR.out.1; have hm2 : mid ≤ b := HR.out.2.1; have hs4 : d4.size = d.size := by { have := HR.out.2.2.1; omega })
                    | fail)
                  go_roundw
                  case rel => exact ⟨mid, b, lim2, false, wp, d4, rfl, rfl, rfl, rfl, rfl, by omega, by omega, by omega, by omega, hs4, HX4, HR.out.2.2.2.1, HFI.out.next2 HP3.out HR.out.2.2.2.2⟩
                  case measure => simp [intOf]; omega
                · have HXq := hid (HX3.out.drewN nq)
                  generalize wz.drewN nq = wq at HXq ⊢
                  clear HX3 hcw hfw HG
                  have HX3 := HXq
                  clear HXq
                  have HPR := hid (part_any w0 g off cap a b p d3 wq HX3.out hp1 hp2 (by omega) (by omega))
                  rw [hs3] at HPR
                  by_cases hz : True
                  · go_wp2_with (first
                      | (go_at_call 89; with_reducible refine HPR.out.mono ?_; rintro e w4 ⟨mid, q4, d4, rfl, HX4, hq4⟩; obtain ⟨q5, hq5⟩ := hq4; have HR := hid (Sort.round_part Sort.swo_ltInt (Sort.partition_holds _) hp1 hp2 (by omega) HB3.out hq5); have hm1 : a ≤ mid := HR.out.1; have hm2 : mid < b := HR.out.2.1; have hs4 : d4.size = d.size := by { have := HR.out.2.2.1; omega })
                      | fail)
                    all_goals clear HPR hq5
                    · have hl : mid - a < b - mid := by omega
                      have HI := hid (IH.out w0 a mid lim2 d4 _ HX4.out (by omega) (by omega) (by omega) HR.out.2.2.2.1 (by omega) (by omega))
                      rw [hs4] at HI
                      go_wp2_with (first
                        | (go_at_call 78; with_reducible refine HI.out.mono ?_; rintro e w5 ⟨rfl, d5, HX5, HO5⟩)
                        | fail)
                      have HR2 := hid (HR.out.2.2.2.2.2.1 d5 HO5.out.1 HO5.out.2)
                      have hs5 : d5.size = d.size := by have := HO5.out.1.1; omega
                      go_roundw
                      case rel => exact ⟨mid + 1, b, lim2, _, q4, d5, by go_num, rfl, rfl, rfl, rfl, by omega, by omega, by omega, by omega, hs5, HX5, HR2.out.1, HFI.out.next2 HP3.out HR2.out.2⟩
                      case measure => simp [intOf]; omega
                    · have hl : ¬ mid - a < b - mid := by omega
                      have HI0 := hid (IH.out w0 (mid + 1) b lim2 d4 _ HX4.out (by omega) (by omega) (by omega) HR.out.2.2.2.2.1 (by omega) (by omega))
                      rw [hs4] at HI0
                      have HI := hid (pdq_cast HI0.out)
                      clear HI0
                      go_wp2_with (first
                        | (go_at_call 78; with_reducible refine HI.out.mono ?_; rintro e w5 ⟨rfl, d5, HX5, HO5⟩)
                        | fail)
                      have HR2 := hid (HR.out.2.2.2.2.2.2 d5 HO5.out.1 HO5.out.2)
                      have hs5 : d5.size = d.size := by have := HO5.out.1.1; omega
                      go_roundw
                      case rel => exact ⟨a, mid, lim2, _, q4, d5, rfl, rfl, rfl, rfl, rfl, by omega, by omega, by omega, by omega, hs5, HX5, HR2.out.1, HFI.out.next2 HP3.out HR2.out.2⟩
                      case measure => simp [intOf]; omega
                  · exact absurd trivial hz

              · go_quiet (first | (go_at_call 87; refine Calls.quiet_of_same (less_any _ _ _)))
                go_wp2_with fail
                have HXq := hid (HX3.out.drewN nq)
                generalize wz.drewN nq = wq at HXq ⊢
                clear HX3 hcw hfw HG
                have HX3 := HXq
                clear HXq
                have HPR := hid (part_any w0 g off cap a b p d3 wq HX3.out hp1 hp2 (by omega) (by omega))
                rw [hs3] at HPR
                by_cases hz : True
                · go_wp2_with (first
                    | (go_at_call 89; with_reducible refine HPR.out.mono ?_; rintro e w4 ⟨mid, q4, d4, rfl, HX4, hq4⟩; obtain ⟨q5, hq5⟩ := hq4; have HR := hid (Sort.round_part Sort.swo_ltInt (Sort.partition_holds _) hp1 hp2 (by omega) HB3.out hq5); have hm1 : a ≤ mid := HR.out.1; have hm2 : mid < b := HR.out.2.1; have hs4 : d4.size = d.size := by { have := HR.out.2.2.1; omega })
                    | fail)
                  all_goals clear HPR hq5
                  · have hl : mid - a < b - mid := by omega
                    have HI := hid (IH.out w0 a mid lim2 d4 _ HX4.out (by omega) (by omega) (by omega) HR.out.2.2.2.1 (by omega) (by omega))
                    rw [hs4] at HI
                    go_wp2_with (first
                      | (go_at_call 78; with_reducible refine HI.out.mono ?_; rintro e w5 ⟨rfl, d5, HX5, HO5⟩)
                      | fail)
                    have HR2 := hid (HR.out.2.2.2.2.2.1 d5 HO5.out.1 HO5.out.2)
                    have hs5 : d5.size = d.size := by have := HO5.out.1.1; omega
                    go_roundw
                    case rel => exact ⟨mid + 1, b, lim2, _, q4, d5, by go_num, rfl, rfl, rfl, rfl, by omega, by omega, by omega, by omega, hs5, HX5, HR2.out.1, HFI.out.next2 HP3.out HR2.out.2⟩
                    case measure => simp [intOf]; omega
                  · have hl : ¬ mid - a < b - mid := by omega
                    have HI0 := hid (IH.out w0 (mid + 1) b lim2 d4 _ HX4.out (by omega) (by omega) (by omega) HR.out.2.2.2.2.1 (by omega) (by omega))
                    rw [hs4] at HI0
                    have HI := hid (pdq_cast HI0.out)
                    clear HI0
                    go_wp2_with (first
                      | (go_at_call 78; with_reducible refine HI.out.mono ?_; rintro e w5 ⟨rfl, d5, HX5, HO5⟩)
                      | fail)
                    have HR2 := hid (HR.out.2.2.2.2.2.2 d5 HO5.out.1 HO5.out.2)
                    have hs5 : d5.size = d.size := by have := HO5.out.1.1; omega
                    go_roundw
                    case rel => exact ⟨a, mid, lim2, _, q4, d5, rfl, rfl, rfl, rfl, rfl, by omega, by omega, by omega, by omega, hs5, HX5, HR2.out.1, HFI.out.next2 HP3.out HR2.out.2⟩
                    case measure => simp [intOf]; omega
                · exact absurd trivial hz

        | true =>
          have hlim3 := hlim
          cases wp with
          | false =>
            go_wp2_with (first
              | (go_at_call 84; with_reducible refine (HCC.out dk wr hsk HX.out).mono ?_; rintro e wz ⟨p0, h, rfl, hq1, hq2, hh, HX2⟩; obtain rfl | rfl | rfl := hh)
              | fail)
            · skip
              obtain ⟨d3, hd3⟩ : ∃ z, z = dk := ⟨_, rfl⟩
              have HX3 : Hid (SW w0 wz g off d3) := by unfold Hid; rw [hd3]; exact HX2.out
              have HP3 : Hid (PermIn a b dk d3) := by unfold Hid; rw [hd3]; exact HP0.out
              clear hd3
              obtain ⟨p, hp⟩ : ∃ z, z = p0 := ⟨_, rfl⟩
              rw [← hp] at hq1 hq2 ⊢
              have hp1 := hq1
              have hp2 := hq2
              clear hp hq1 hq2
              as_aux_lemma =>
                have hs3 : d3.size = d.size := by have := HP3.out.1; omega
                have HB3 : Hid (Sort.Below ltInt a b d3) := HBe.out.perm (by omega) HP3.out
                obtain ⟨G, HG, hcw, hfw⟩ := HX3.out.row0.fam hs3
                by_cases ha0 : 0 < a
                · go_quiet (first | (go_at_call 87; refine Calls.quiet_of_same (less_any _ _ _)))
                  go_wp2_with fail
                  · have hl : ltInt (G (a - 1)) (G p) = false := by
                      have h : (!ltInt (G (a - 1)) (G p)) = true := by assumption
                      simpa using h
                    have HNL : Hid (ltInt d3[a - 1]! d3[p]! = false) := by unfold Hid; rw [← HG.out, ← HG.out]; exact hl
                    have HXq := hid (HX3.out.drewN nq)
                    generalize wz.drewN nq = wq at HXq ⊢
                    clear HX3 hcw hfw hl HG
                    have HPE := hid (parteq_any w0 g off cap a b p d3 wq HXq.out hp1 hp2 (by omega) (by omega))
                    rw [hs3] at HPE
                    go_wp2_with (first
                      | (go_at_call 88; with_reducible refine HPE.out.mono ?_; rintro e w4 ⟨mid, d4, rfl, HX4, hq4⟩; have HR := hid (Sort.round_eq Sort.swo_ltInt (Sort.partitionEqual_holds _) ha0 hp1 hp2 (by omega) HB3.out HNL.out hq4); have hm1 : a < mid := HR.out.1; have hm2 : mid ≤ b := HR.out.2.1; have hs4 : d4.size = d.size := by { have := HR.out.2.2.1; omega })
                      | fail)
                    go_roundw
                    case rel => exact ⟨mid, b, lim, true, false, d4, rfl, rfl, rfl, rfl, rfl, by omega, by omega, by omega, by omega, hs4, HX4, HR.out.2.2.2.1, HFI.out.next2 HP3.out HR.out.2.2.2.2⟩
                    case measure => simp [intOf]; omega
                  · have HXq := hid (HX3.out.drewN nq)
                    generalize wz.drewN nq = wq at HXq ⊢
                    clear HX3 hcw hfw HG
                    have HX3 := HXq
                    clear HXq
                    have HPR := hid (part_any w0 g off cap a b p d3 wq HX3.out hp1 hp2 (by omega) (by omega))
                    rw [hs3] at HPR
                    by_cases hz : True
                    · go_wp2_with (first
                        | (go_at_call 89; with_reducible refine HPR.out.mono ?_; rintro e w4 ⟨mid, q4, d4, rfl, HX4, hq4⟩; obtain ⟨q5, hq5⟩ := hq4; have HR := hid (Sort.round_part Sort.swo_ltInt (Sort.partition_holds _) hp1 hp2 (by omega) HB3.out hq5); have hm1 : a ≤ mid := HR.out.1; have hm2 : mid < b := HR.out.2.1; have hs4 : d4.size = d.size := by { have := HR.out.2.2.1; omega })
                        | fail)
                      all_goals clear HPR hq5
                      · have hl : mid - a < b - mid := by omega
                        have HI := hid (IH.out w0 a mid lim d4 _ HX4.out (by omega) (by omega) (by omega) HR.out.2.2.2.1 (by omega) (by omega))
                        rw [hs4] at HI
                        go_wp2_with (first
                          | (go_at_call 78; with_reducible refine HI.out.mono ?_; rintro e w5 ⟨rfl, d5, HX5, HO5⟩)
                          | fail)
                        have HR2 := hid (HR.out.2.2.2.2.2.1 d5 HO5.out.1 HO5.out.2)
                        have hs5 : d5.size = d.size := by have := HO5.out.1.1; omega
                        go_roundw
                        case rel => exact ⟨mid + 1, b, lim, _, q4, d5, by go_num, rfl, rfl, rfl, rfl, by omega, by omega, by omega, by omega, hs5, HX5, HR2.out.1, HFI.out.next2 HP3.out HR2.out.2⟩
                        case measure => simp [intOf]; omega
                      · have hl : ¬ mid - a < b - mid := by omega
                        have HI0 := hid (IH.out w0 (mid + 1) b lim d4 _ HX4.out (by omega) (by omega) (by omega) HR.out.2.2.2.2.1 (by omega) (by omega))
                        rw [hs4] at HI0
                        have HI := hid (pdq_cast HI0.out)
                        clear HI0
                        go_wp2_with (first
                          | (go_at_call 78; with_reducible refine HI.out.mono ?_; rintro e w5 ⟨rfl, d5, HX5, HO5⟩)
                          | fail)
                        have HR2 := hid (HR.out.2.2.2.2.2.2 d5 HO5.out.1 HO5.out.2)
                        have hs5 : d5.size = d.size := by have := HO5.out.1.1; omega
                        go_roundw
                        case rel => exact ⟨a, mid, lim, _, q4, d5, rfl, rfl, rfl, rfl, rfl, by omega, by omega, by omega, by omega, hs5, HX5, HR2.out.1, HFI.out.next2 HP3.out HR2.out.2⟩
                        case measure => simp [intOf]; omega
                    · exact absurd trivial hz

                · go_quiet (first | (go_at_call 87; refine Calls.quiet_of_same (less_any _ _ _)))
                  go_wp2_with fail
                  have HXq := hid (HX3.out.drewN nq)
                  generalize wz.drewN nq = wq at HXq ⊢
                  clear HX3 hcw hfw HG
                  have HX3 := HXq
                  clear HXq
                  have HPR := hid (part_any w0 g off cap a b p d3 wq HX3.out hp1 hp2 (by omega) (by omega))
                  rw [hs3] at HPR
                  by_cases hz : True
                  · go_wp2_with (first
                      | (go_at_call 89; with_reducible refine HPR.out.mono ?_; rintro e w4 ⟨mid, q4, d4, rfl, HX4, hq4⟩; obtain ⟨q5, hq5⟩ := hq4; have HR := hid (Sort.round_part Sort.swo_ltInt (Sort.partition_holds _) hp1 hp2 (by omega) HB3.out hq5); have hm1 : a ≤ mid := HR.out.1; have hm2 : mid < b := HR.out.2.1; have hs4 : d4.size = d.size := by { have := HR.out.2.2.1; omega })
                      | fail)
                    all_goals clear HPR hq5
                    · have hl : mid - a < b - mid := by omega
                      have HI := hid (IH.out w0 a mid lim d4 _ HX4.out (by omega) (by omega) (by omega) HR.out.2.2.2.1 (by omega) (by omega))
                      rw [hs4] at HI
                      go_wp2_with (first
                        | (go_at_call 78; with_reducible refine HI.out.mono ?_; rintro e w5 ⟨rfl, d5, HX5, HO5⟩)
                        | fail)
                      have HR2 := hid (HR.out.2.2.2.2.2.1 d5 HO5.out.1 HO5.out.2)
                      have hs5 : d5.size = d.size := by have := HO5.out.1.1; omega
                      go_roundw
                      case rel => exact ⟨mid + 1, b, lim, _, q4, d5, by go_num, rfl, rfl, rfl, rfl, by omega, by omega, by omega, by omega, hs5, HX5, HR2.out.1, HFI.out.next2 HP3.out HR2.out.2⟩
                      case measure => simp [intOf]; omega
                    · have hl : ¬ mid - a < b - mid := by omega
                      have HI0 := hid (IH.out w0 (mid + 1) b lim d4 _ HX4.out (by omega) (by omega) (by omega) HR.out.2.2.2.2.1 (by omega) (by omega))
                      rw [hs4] at HI0
                      have HI := hid (pdq_cast HI0.out)
                      clear HI0
                      go_wp2_with (first
                        | (go_at_call 78; with_reducible refine HI.out.mono ?_; rintro e w5 ⟨rfl, d5, HX5, HO5⟩)
                        | fail)
                      have HR2 := hid (HR.out.2.2.2.2.2.2 d5 HO5.out.1 HO5.out.2)
                      have hs5 : d5.size = d.size := by have := HO5.out.1.1; omega
                      go_roundw
                      case rel => exact ⟨a, mid, lim, _, q4, d5, rfl, rfl, rfl, rfl, rfl, by omega, by omega, by omega, by omega, hs5, HX5, HR2.out.1, HFI.out.next2 HP3.out HR2.out.2⟩
                      case measure => simp [intOf]; omega
                  · exact absurd trivial hz

            · skip
              obtain ⟨d3, hd3⟩ : ∃ z, z = dk := ⟨_, rfl⟩
              have HX3 : Hid (SW w0 wz g off d3) := by unfold Hid; rw [hd3]; exact HX2.out
              have HP3 : Hid (PermIn a b dk d3) := by unfold Hid; rw [hd3]; exact HP0.out
              clear hd3
              obtain ⟨p, hp⟩ : ∃ z, z = p0 := ⟨_, rfl⟩
              rw [← hp] at hq1 hq2 ⊢
              have hp1 := hq1
              have hp2 := hq2
              clear hp hq1 hq2
              as_aux_lemma =>
                have hs3 : d3.size = d.size := by have := HP3.out.1; omega
                have HB3 : Hid (Sort.Below ltInt a b d3) := HBe.out.perm (by omega) HP3.out
                obtain ⟨G, HG, hcw, hfw⟩ := HX3.out.row0.fam hs3
                by_cases ha0 : 0 < a
                · go_quiet (first | (go_at_call 87; refine Calls.quiet_of_same (less_any _ _ _)))
                  go_wp2_with fail
                  · have hl : ltInt (G (a - 1)) (G p) = false := by
                      have h : (!ltInt (G (a - 1)) (G p)) = true := by assumption
                      simpa using h
                    have HNL : Hid (ltInt d3[a - 1]! d3[p]! = false) := by unfold Hid; rw [← HG.out, ← HG.out]; exact hl
                    have HXq := hid (HX3.out.drewN nq)
                    generalize wz.drewN nq = wq at HXq ⊢
                    clear HX3 hcw hfw hl HG
                    have HPE := hid (parteq_any w0 g off cap a b p d3 wq HXq.out hp1 hp2 (by omega) (by omega))
                    rw [hs3] at HPE
                    go_wp2_with (first
                      | (go_at_call 88; with_reducible refine HPE.out.mono ?_; rintro e w4 ⟨mid, d4, rfl, HX4, hq4⟩; have HR := hid (Sort.round_eq Sort.swo_ltInt (Sort.partitionEqual_holds _) ha0 hp1 hp2 (by omega) HB3.out HNL.out hq4); have hm1 : a < mid := HR.out.1; have hm2 : mid ≤ b := HR.out.2.1; have hs4 : d4.size = d.size := by { have := HR.out.2.2.1; omega })
                      | fail)
                    go_roundw
                    case rel => exact ⟨mid, b, lim, true, false, d4, rfl, rfl, rfl, rfl, rfl, by omega, by omega, by omega, by omega, hs4, HX4, HR.out.2.2.2.1, HFI.out.next2 HP3.out HR.out.2.2.2.2⟩
                    case measure => simp [intOf]; omega
                  · have HXq := hid (HX3.out.drewN nq)
                    generalize wz.drewN nq = wq at HXq ⊢
                    clear HX3 hcw hfw HG
                    have HX3 := HXq
                    clear HXq
                    have HPR := hid (part_any w0 g off cap a b p d3 wq HX3.out hp1 hp2 (by omega) (by omega))
                    rw [hs3] at HPR
                    by_cases hz : True
                    · go_wp2_with (first
                        | (go_at_call 89; with_reducible refine HPR.out.mono ?_; rintro e w4 ⟨mid, q4, d4, rfl, HX4, hq4⟩; obtain ⟨q5, hq5⟩ := hq4; have HR := hid (Sort.round_part Sort.swo_ltInt (Sort.partition_holds _) hp1 hp2 (by omega) HB3.out hq5); have hm1 : a ≤ mid := HR.out.1; have hm2 : mid < b := HR.out.2.1; have hs4 : d4.size = d.size := by { have := HR.out.2.2.1; omega })
                        | fail)
                      all_goals clear HPR hq5
                      · have hl : mid - a < b - mid := by omega
                        have HI := hid (IH.out w0 a mid lim d4 _ HX4.out (by omega) (by omega) (by omega) HR.out.2.2.2.1 (by omega) (by omega))
                        rw [hs4] at HI
                        go_wp2_with (first
                          | (go_at_call 78; with_reducible refine HI.out.mono ?_; rintro e w5 ⟨rfl, d5, HX5, HO5⟩)
                          | fail)
                        have HR2 := hid (HR.out.2.2.2.2.2.1 d5 HO5.out.1 HO5.out.2)
                        have hs5 : d5.size = d.size := by have := HO5.out.1.1; omega
                        go_roundw
                        case rel => exact ⟨mid + 1, b, lim, _, q4, d5, by go_num, rfl, rfl, rfl, rfl, by omega, by omega, by omega, by omega, hs5, HX5, HR2.out.1, HFI.out.next2 HP3.out HR2.out.2⟩
                        case measure => simp [intOf]; omega
                      · have hl : ¬ mid - a < b - mid := by omega
                        have HI0 := hid (IH.out w0 (mid + 1) b lim d4 _ HX4.out (by omega) (by omega) (by omega) HR.out.2.2.2.2.1 (by omega) (by omega))
                        rw [hs4] at HI0
                        have HI := hid (pdq_cast HI0.out)
                        clear HI0
                        go_wp2_with (first
                          | (go_at_call 78; with_reducible refine HI.out.mono ?_; rintro e w5 ⟨rfl, d5, HX5, HO5⟩)
                          | fail)
                        have HR2 := hid (HR.out.2.2.2.2.2.2 d5 HO5.out.1 HO5.out.2)
                        have hs5 : d5.size = d.size := by have := HO5.out.1.1; omega
                        go_roundw
                        case rel => exact ⟨a, mid, lim, _, q4, d5, rfl, rfl, rfl, rfl, rfl, by omega, by omega, by omega, by omega, hs5, HX5, HR2.out.1, HFI.out.next2 HP3.out HR2.out.2⟩
                        case measure => simp [intOf]; omega
                    · exact absurd trivial hz

                · go_quiet (first | (go_at_call 87; refine Calls.quiet_of_same (less_any _ _ _)))
                  go_wp2_with fail
                  have HXq := hid (HX3.out.drewN nq)
                  generalize wz.drewN nq = wq at HXq ⊢
                  clear HX3 hcw hfw HG
                  have HX3 := HXq
                  clear HXq
                  have HPR := hid (part_any w0 g off cap a b p d3 wq HX3.out hp1 hp2 (by omega) (by omega))
                  rw [hs3] at HPR
                  by_cases hz : True
                  · go_wp2_with (first
                      | (go_at_call 89; with_reducible refine HPR.out.mono ?_; rintro e w4 ⟨mid, q4, d4, rfl, HX4, hq4⟩; obtain ⟨q5, hq5⟩ := hq4; have HR := hid (Sort.round_part Sort.swo_ltInt (Sort.partition_holds _) hp1 hp2 (by omega) HB3.out hq5); have hm1 : a ≤ mid := HR.out.1; have hm2 : mid < b := HR.out.2.1; have hs4 : d4.size = d.size := by { have := HR.out.2.2.1; omega })
                      | fail)
                    all_goals clear HPR hq5
                    · have hl : mid - a < b - mid := by omega
                      have HI := hid (IH.out w0 a mid lim d4 _ HX4.out (by omega) (by omega) (by omega) HR.out.2.2.2.1 (by omega) (by omega))
                      rw [hs4] at HI
                      go_wp2_with (first
                        | (go_at_call 78; with_reducible refine HI.out.mono ?_; rintro e w5 ⟨rfl, d5, HX5, HO5⟩)
                        | fail)
                      have HR2 := hid (HR.out.2.2.2.2.2.1 d5 HO5.out.1 HO5.out.2)
                      have hs5 : d5.size = d.size := by have := HO5.out.1.1; omega
                      go_roundw
                      case rel => exact ⟨mid + 1, b, lim, _, q4, d5, by go_num, rfl, rfl, rfl, rfl, by omega, by omega, by omega, by omega, hs5, HX5, HR2.out.1, HFI.out.next2 HP3.out HR2.out.2⟩
                      case measure => simp [intOf]; omega
                    · have hl : ¬ mid - a < b - mid := by omega
                      have HI0 := hid (IH.out w0 (mid + 1) b lim d4 _ HX4.out (by omega) (by omega) (by omega) HR.out.2.2.2.2.1 (by omega) (by omega))
                      rw [hs4] at HI0
                      have HI := hid (pdq_cast HI0.out)
                      clear HI0
                      go_wp2_with (first
                        | (go_at_call 78; with_reducible refine HI.out.mono ?_; rintro e w5 ⟨rfl, d5, HX5, HO5⟩)
                        | fail)
                      have HR2 := hid (HR.out.2.2.2.2.2.2 d5 HO5.out.1 HO5.out.2)
                      have hs5 : d5.size = d.size := by have := HO5.out.1.1; omega
                      go_roundw
                      case rel => exact ⟨a, mid, lim, _, q4, d5, rfl, rfl, rfl, rfl, rfl, by omega, by omega, by omega, by omega, hs5, HX5, HR2.out.1, HFI.out.next2 HP3.out HR2.out.2⟩
                      case measure => simp [intOf]; omega
                  · exact absurd trivial hz

            · go_wp2_with (first
              | (go_at_call 85; with_reducible refine (HCR.out dk wz hsk HX2.out).mono ?_; rintro e wz ⟨rfl, d3, HX3, hP3⟩)
              | fail)
              skip
              have HP3 : Hid (PermIn a b dk d3) := Sort.permIn_trans _ _ _ _ _ HP0.out hP3
              obtain ⟨p, hp⟩ : ∃ p, p = b - 1 - (p0 - a) := ⟨_, rfl⟩
              have hpi : (b : Int) - 1 - ((p0 : Int) - a) = p := by omega
              have hp1 : a ≤ p := by omega
              have hp2 : p < b := by omega
              simp only [hpi]
              clear hp hpi hq1 hq2
              as_aux_lemma =>
                have hs3 : d3.size = d.size := by have := HP3.out.1; omega
                have HB3 : Hid (Sort.Below ltInt a b d3) := HBe.out.perm (by omega) HP3.out
                obtain ⟨G, HG, hcw, hfw⟩ := HX3.out.row0.fam hs3
                by_cases ha0 : 0 < a
                · go_quiet (first | (go_at_call 87; refine Calls.quiet_of_same (less_any _ _ _)))
                  go_wp2_with fail
                  · have hl : ltInt (G (a - 1)) (G p) = false := by
                      have h : (!ltInt (G (a - 1)) (G p)) = true := by assumption
                      simpa using h
                    have HNL : Hid (ltInt d3[a - 1]! d3[p]! = false) := by unfold Hid; rw [← HG.out, ← HG.out]; exact hl
                    have HXq := hid (HX3.out.drewN nq)
                    generalize wz.drewN nq = wq at HXq ⊢
                    clear HX3 hcw hfw hl HG
                    have HPE := hid (parteq_any w0 g off cap a b p d3 wq HXq.out hp1 hp2 (by omega) (by omega))
                    rw [hs3] at HPE
                    go_wp2_with (first
                      | (go_at_call 88; with_reducible refine HPE.out.mono ?_; rintro e w4 ⟨mid, d4, rfl, HX4, hq4⟩; have HR := hid (Sort.round_eq Sort.swo_ltInt (Sort.partitionEqual_holds _) ha0 hp1 hp2 (by omega) HB3.out HNL.out hq4); have hm1 : a < mid := HR.out.1; have hm2 : mid ≤ b := HR.out.2.1; have hs4 : d4.size = d.size := by { have := HR.out.2.2.1; omega })
                      | fail)
                    go_roundw
                    case rel => exact ⟨mid, b, lim, true, false, d4, rfl, rfl, rfl, rfl, rfl, by omega, by omega, by omega, by omega, hs4, HX4, HR.out.2.2.2.1, HFI.out.next2 HP3.out HR.out.2.2.2.2⟩
                    case measure => simp [intOf]; omega
                  · have HXq := hid (HX3.out.drewN nq)
                    generalize wz.drewN nq = wq at HXq ⊢
                    clear HX3 hcw hfw HG
                    have HX3 := HXq
                    clear HXq
                    have HPR := hid (part_any w0 g off cap a b p d3 wq HX3.out hp1 hp2 (by omega) (by omega))
                    rw [hs3] at HPR
                    by_cases hz : True
                    · go_wp2_with (first
                        | (go_at_call 89; with_reducible refine HPR.out.mono ?_; rintro e w4 ⟨mid, q4, d4, rfl, HX4, hq4⟩; obtain ⟨q5, hq5⟩ := hq4; have HR := hid (Sort.round_part Sort.swo_ltInt (Sort.partition_holds _) hp1 hp2 (by omega) HB3.out hq5); have hm1 : a ≤ mid := HR.out.1; have hm2 : mid < b := HR.out.2.1; have hs4 : d4.size = d.size := by { have := HR.out.2.2.1; omega })
                        | fail)
                      all_goals clear HPR hq5
                      · have hl : mid - a < b - mid := by omega
                        have HI := hid (IH.out w0 a mid lim d4 _ HX4.out (by omega) (by omega) (by omega) HR.out.2.2.2.1 (by omega) (by omega))
                        rw [hs4] at HI
                        go_wp2_with (first
                          | (go_at_call 78; with_reducible refine HI.out.mono ?_; rintro e w5 ⟨rfl, d5, HX5, HO5⟩)
                          | fail)
                        have HR2 := hid (HR.out.2.2.2.2.2.1 d5 HO5.out.1 HO5.out.2)
                        have hs5 : d5.size = d.size := by have := HO5.out.1.1; omega
                        go_roundw
                        case rel => exact ⟨mid + 1, b, lim, _, q4, d5, by go_num, rfl, rfl, rfl, rfl, by omega, by omega, by omega, by omega, hs5, HX5, HR2.out.1, HFI.out.next2 HP3.out HR2.out.2⟩
                        case measure => simp [intOf]; omega
                      · have hl : ¬ mid - a < b - mid := by omega
                        have HI0 := hid (IH.out w0 (mid + 1) b lim d4 _ HX4.out (by omega) (by omega) (by omega) HR.out.2.2.2.2.1 (by omega) (by omega))
                        rw [hs4] at HI0
                        have HI := hid (pdq_cast HI0.out)
                        clear HI0
                        go_wp2_with (first
                          | (go_at_call 78; with_reducible refine HI.out.mono ?_; rintro e w5 ⟨rfl, d5, HX5, HO5⟩)
                          | fail)
                        have HR2 := hid (HR.out.2.2.2.2.2.2 d5 HO5.out.1 HO5.out.2)
                        have hs5 : d5.size = d.size := by have := HO5.out.1.1; omega
                        go_roundw
                        case rel => exact ⟨a, mid, lim, _, q4, d5, rfl, rfl, rfl, rfl, rfl, by omega, by omega, by omega, by omega, hs5, HX5, HR2.out.1, HFI.out.next2 HP3.out HR2.out.2⟩
                        case measure => simp [intOf]; omega
                    · exact absurd trivial hz

                · go_quiet (first | (go_at_call 87; refine Calls.quiet_of_same (less_any _ _ _)))
                  go_wp2_with fail
                  have HXq := hid (HX3.out.drewN nq)
                  generalize wz.drewN nq = wq at HXq ⊢
                  clear HX3 hcw hfw HG
                  have HX3 := HXq
                  clear HXq
                  have HPR := hid (part_any w0 g off cap a b p d3 wq HX3.out hp1 hp2 (by omega) (by omega))
                  rw [hs3] at HPR
                  by_cases hz : True
                  · go_wp2_with (first
                      | (go_at_call 89; with_reducible refine HPR.out.mono ?_; rintro e w4 ⟨mid, q4, d4, rfl, HX4, hq4⟩; obtain ⟨q5, hq5⟩ := hq4; have HR := hid (Sort.round_part Sort.swo_ltInt (Sort.partition_holds _) hp1 hp2 (by omega) HB3.out hq5); have hm1 : a ≤ mid := HR.out.1; have hm2 : mid < b := HR.out.2.1; have hs4 : d4.size = d.size := by { have := HR.out.2.2.1; omega })
                      | fail)
                    all_goals clear HPR hq5
                    · have hl : mid - a < b - mid := by omega
                      have HI := hid (IH.out w0 a mid lim d4 _ HX4.out (by omega) (by omega) (by omega) HR.out.2.2.2.1 (by omega) (by omega))
                      rw [hs4] at HI
                      go_wp2_with (first
                        | (go_at_call 78; with_reducible refine HI.out.mono ?_; rintro e w5 ⟨rfl, d5, HX5, HO5⟩)
                        | fail)
                      have HR2 := hid (HR.out.2.2.2.2.2.1 d5 HO5.out.1 HO5.out.2)
                      have hs5 : d5.size = d.size := by have := HO5.out.1.1; omega
                      go_roundw
                      case rel => exact ⟨mid + 1, b, lim, _, q4, d5, by go_num, rfl, rfl, rfl, rfl, by omega, by omega, by omega, by omega, hs5, HX5, HR2.out.1, HFI.out.next2 HP3.out HR2.out.2⟩
                      case measure => simp [intOf]; omega
                    · have hl : ¬ mid - a < b - mid := by omega
                      have HI0 := hid (IH.out w0 (mid + 1) b lim d4 _ HX4.out (by omega) (by omega) (by omega) HR.out.2.2.2.2.1 (by omega) (by omega))
                      rw [hs4] at HI0
                      have HI := hid (pdq_cast HI0.out)
                      clear HI0
                      go_wp2_with (first
                        | (go_at_call 78; with_reducible refine HI.out.mono ?_; rintro e w5 ⟨rfl, d5, HX5, HO5⟩)
                        | fail)
                      have HR2 := hid (HR.out.2.2.2.2.2.2 d5 HO5.out.1 HO5.out.2)
                      have hs5 : d5.size = d.size := by have := HO5.out.1.1; omega
                      go_roundw
                      case rel => exact ⟨a, mid, lim, _, q4, d5, rfl, rfl, rfl, rfl, rfl, by omega, by omega, by omega, by omega, hs5, HX5, HR2.out.1, HFI.out.next2 HP3.out HR2.out.2⟩
                      case measure => simp [intOf]; omega
                  · exact absurd trivial hz

          | true =>
            go_wp2_with (first
              | (go_at_call 84; with_reducible refine (HCC.out dk wr hsk HX.out).mono ?_; rintro e wz ⟨p0, h, rfl, hq1, hq2, hh, HX2⟩; obtain rfl | rfl | rfl := hh)
              | fail)
            · skip
              obtain ⟨d3, hd3⟩ : ∃ z, z = dk := ⟨_, rfl⟩
              have HX3 : Hid (SW w0 wz g off d3) := by unfold Hid; rw [hd3]; exact HX2.out
              have HP3 : Hid (PermIn a b dk d3) := by unfold Hid; rw [hd3]; exact HP0.out
              clear hd3
              obtain ⟨p, hp⟩ : ∃ z, z = p0 := ⟨_, rfl⟩
              rw [← hp] at hq1 hq2 ⊢
              have hp1 := hq1
              have hp2 := hq2
              clear hp hq1 hq2
              as_aux_lemma =>
                have hs3 : d3.size = d.size := by have := HP3.out.1; omega
                have HB3 : Hid (Sort.Below ltInt a b d3) := HBe.out.perm (by omega) HP3.out
                obtain ⟨G, HG, hcw, hfw⟩ := HX3.out.row0.fam hs3
                by_cases ha0 : 0 < a
                · go_quiet (first | (go_at_call 87; refine Calls.quiet_of_same (less_any _ _ _)))
                  go_wp2_with fail
                  · have hl : ltInt (G (a - 1)) (G p) = false := by
                      have h : (!ltInt (G (a - 1)) (G p)) = true := by assumption
                      simpa using h
                    have HNL : Hid (ltInt d3[a - 1]! d3[p]! = false) := by unfold Hid; rw [← HG.out, ← HG.out]; exact hl
                    have HXq := hid (HX3.out.drewN nq)
                    generalize wz.drewN nq = wq at HXq ⊢
                    clear HX3 hcw hfw hl HG
                    have HPE := hid (parteq_any w0 g off cap a b p d3 wq HXq.out hp1 hp2 (by omega) (by omega))
                    rw [hs3] at HPE
                    go_wp2_with (first
                      | (go_at_call 88; with_reducible refine HPE.out.mono ?_; rintro e w4 ⟨mid, d4, rfl, HX4, hq4⟩; have HR := hid (Sort.round_eq Sort.swo_ltInt (Sort.partitionEqual_holds _) ha0 hp1 hp2 (by omega) HB3.out HNL.out hq4); have hm1 : a < mid := HR.out.1; have hm2 : mid ≤ b := HR.out.2.1; have hs4 : d4.size = d.size := by { have := HR.out.2.2.1; omega })
                      | fail)
                    go_roundw
                    case rel => exact ⟨mid, b, lim, true, true, d4, rfl, rfl, rfl, rfl, rfl, by omega, by omega, by omega, by omega, hs4, HX4, HR.out.2.2.2.1, HFI.out.next2 HP3.out HR.out.2.2.2.2⟩
                    case measure => simp [intOf]; omega
                  · have HXq := hid (HX3.out.drewN nq)
                    generalize wz.drewN nq = wq at HXq ⊢
                    clear HX3 hcw hfw HG
                    have HX3 := HXq
                    clear HXq
                    have HPR := hid (part_any w0 g off cap a b p d3 wq HX3.out hp1 hp2 (by omega) (by omega))
                    rw [hs3] at HPR
                    by_cases hz : True
                    · go_wp2_with (first
                        | (go_at_call 89; with_reducible refine HPR.out.mono ?_; rintro e w4 ⟨mid, q4, d4, rfl, HX4, hq4⟩; obtain ⟨q5, hq5⟩ := hq4; have HR := hid (Sort.round_part Sort.swo_ltInt (Sort.partition_holds _) hp1 hp2 (by omega) HB3.out hq5); have hm1 : a ≤ mid := HR.out.1; have hm2 : mid < b := HR.out.2.1; have hs4 : d4.size = d.size := by { have := HR.out.2.2.1; omega })
                        | fail)
                      all_goals clear HPR hq5
                      · have hl : mid - a < b - mid := by omega
                        have HI := hid (IH.out w0 a mid lim d4 _ HX4.out (by omega) (by omega) (by omega) HR.out.2.2.2.1 (by omega) (by omega))
                        rw [hs4] at HI
                        go_wp2_with (first
                          | (go_at_call 78; with_reducible refine HI.out.mono ?_; rintro e w5 ⟨rfl, d5, HX5, HO5⟩)
                          | fail)
                        have HR2 := hid (HR.out.2.2.2.2.2.1 d5 HO5.out.1 HO5.out.2)
                        have hs5 : d5.size = d.size := by have := HO5.out.1.1; omega
                        go_roundw
                        case rel => exact ⟨mid + 1, b, lim, _, q4, d5, by go_num, rfl, rfl, rfl, rfl, by omega, by omega, by omega, by omega, hs5, HX5, HR2.out.1, HFI.out.next2 HP3.out HR2.out.2⟩
                        case measure => simp [intOf]; omega
                      · have hl : ¬ mid - a < b - mid := by omega
                        have HI0 := hid (IH.out w0 (mid + 1) b lim d4 _ HX4.out (by omega) (by omega) (by omega) HR.out.2.2.2.2.1 (by omega) (by omega))
                        rw [hs4] at HI0
                        have HI := hid (pdq_cast HI0.out)
                        clear HI0
                        go_wp2_with (first
                          | (go_at_call 78; with_reducible refine HI.out.mono ?_; rintro e w5 ⟨rfl, d5, HX5, HO5⟩)
                          | fail)
                        have HR2 := hid (HR.out.2.2.2.2.2.2 d5 HO5.out.1 HO5.out.2)
                        have hs5 : d5.size = d.size := by have := HO5.out.1.1; omega
                        go_roundw
                        case rel => exact ⟨a, mid, lim, _, q4, d5, rfl, rfl, rfl, rfl, rfl, by omega, by omega, by omega, by omega, hs5, HX5, HR2.out.1, HFI.out.next2 HP3.out HR2.out.2⟩
                        case measure => simp [intOf]; omega
                    · exact absurd trivial hz

                · go_quiet (first | (go_at_call 87; refine Calls.quiet_of_same (less_any _ _ _)))
                  go_wp2_with fail
                  have HXq := hid (HX3.out.drewN nq)
                  generalize wz.drewN nq = wq at HXq ⊢
                  clear HX3 hcw hfw HG
                  have HX3 := HXq
                  clear HXq
                  have HPR := hid (part_any w0 g off cap a b p d3 wq HX3.out hp1 hp2 (by omega) (by omega))
                  rw [hs3] at HPR
                  by_cases hz : True
                  · go_wp2_with (first
                      | (go_at_call 89; with_reducible refine HPR.out.mono ?_; rintro e w4 ⟨mid, q4, d4, rfl, HX4, hq4⟩; obtain ⟨q5, hq5⟩ := hq4; have HR := hid (Sort.round_part Sort.swo_ltInt (Sort.partition_holds _) hp1 hp2 (by omega) HB3.out hq5); have hm1 : a ≤ mid := HR.out.1; have hm2 : mid < b := HR.out.2.1; have hs4 : d4.size = d.size := by { have := HR.out.2.2.1; omega })
                      | fail)
                    all_goals clear HPR hq5
                    · have hl : mid - a < b - mid := by omega
                      have HI := hid (IH.out w0 a mid lim d4 _ HX4.out (by omega) (by omega) (by omega) HR.out.2.2.2.1 (by omega) (by omega))
                      rw [hs4] at HI
                      go_wp2_with (first
                        | (go_at_call 78; with_reducible refine HI.out.mono ?_; rintro e w5 ⟨rfl, d5, HX5, HO5⟩)
                        | fail)
                      have HR2 := hid (HR.out.2.2.2.2.2.1 d5 HO5.out.1 HO5.out.2)
                      have hs5 : d5.size = d.size := by have := HO5.out.1.1; omega
                      go_roundw
                      case rel => exact ⟨mid + 1, b, lim, _, q4, d5, by go_num, rfl, rfl, rfl, rfl, by omega, by omega, by omega, by omega, hs5, HX5, HR2.out.1, HFI.out.next2 HP3.out HR2.out.2⟩
                      case measure => simp [intOf]; omega
                    · have hl : ¬ mid - a < b - mid := by omega
                      have HI0 := hid (IH.out w0 (mid + 1) b lim d4 _ HX4.out (by omega) (by omega) (by omega) HR.out.2.2.2.2.1 (by omega) (by omega))
                      rw [hs4] at HI0
                      have HI := hid (pdq_cast HI0.out)
                      clear HI0
                      go_wp2_with (first
                        | (go_at_call 78; with_reducible refine HI.out.mono ?_; rintro e w5 ⟨rfl, d5, HX5, HO5⟩)
                        | fail)
                      have HR2 := hid (HR.out.2.2.2.2.2.2 d5 HO5.out.1 HO5.out.2)
                      have hs5 : d5.size = d.size := by have := HO5.out.1.1; omega
                      go_roundw
                      case rel => exact ⟨a, mid, lim, _, q4, d5, rfl, rfl, rfl, rfl, rfl, by omega, by omega, by omega, by omega, hs5, HX5, HR2.out.1, HFI.out.next2 HP3.out HR2.out.2⟩
                      case measure => simp [intOf]; omega
                  · exact absurd trivial hz

            · go_wp2_with (first
              | (go_at_call 86; with_reducible refine (HCP.out dk wz hsk HX2.out HBe.out).mono ?_; rintro e wy ⟨qq, d4, rfl, HX4, HP4, hqq⟩; cases qq)
              | fail)
              · clear HX2
                obtain ⟨d3, hd3⟩ : ∃ z, z = d4 := ⟨_, rfl⟩
                have HX3 : Hid (SW w0 wy g off d3) := by unfold Hid; rw [hd3]; exact HX4.out
                have HP3 : Hid (PermIn a b dk d3) := by unfold Hid; rw [hd3]; exact HP4.out
                clear hd3
                obtain ⟨p, hp⟩ : ∃ z, z = p0 := ⟨_, rfl⟩
                rw [← hp] at hq1 hq2 ⊢
                have hp1 := hq1
                have hp2 := hq2
                clear hp hq1 hq2
                as_aux_lemma =>
                  have hs3 : d3.size = d.size := by have := HP3.out.1; omega
                  have HB3 : Hid (Sort.Below ltInt a b d3) := HBe.out.perm (by omega) HP3.out
                  obtain ⟨G, HG, hcw, hfw⟩ := HX3.out.row0.fam hs3
                  by_cases ha0 : 0 < a
                  · go_quiet (first | (go_at_call 87; refine Calls.quiet_of_same (less_any _ _ _)))
                    go_wp2_with fail
                    · have hl : ltInt (G (a - 1)) (G p) = false := by
                        have h : (!ltInt (G (a - 1)) (G p)) = true := by assumption
                        simpa using h
                      have HNL : Hid (ltInt d3[a - 1]! d3[p]! = false) := by unfold Hid; rw [← HG.out, ← HG.out]; exact hl
                      have HXq := hid (HX3.out.drewN nq)
                      generalize wy.drewN nq = wq at HXq ⊢
                      clear HX3 hcw hfw hl HG
                      have HPE := hid (parteq_any w0 g off cap a b p d3 wq HXq.out hp1 hp2 (by omega) (by omega))
                      rw [hs3] at HPE
                      go_wp2_with (first
                        | (go_at_call 88; with_reducible refine HPE.out.mono ?_; rintro e w4 ⟨mid, d4, rfl, HX4, hq4⟩; have HR := hid (Sort.round_eq Sort.swo_ltInt (Sort.partitionEqual_holds _) ha0 hp1 hp2 (by omega) HB3.out HNL.out hq4); have hm1 : a < mid := HR.out.1; have hm2 : mid ≤ b := HR.out.2.1; have hs4 : d4.size = d.size := by { have := HR.out.2.2.1; omega })
                        | fail)
                      go_roundw
                      case rel => exact ⟨mid, b, lim, true, true, d4, rfl, rfl, rfl, rfl, rfl, by omega, by omega, by omega, by omega, hs4, HX4, HR.out.2.2.2.1, HFI.out.next2 HP3.out HR.out.2.2.2.2⟩
                      case measure => simp [intOf]; omega
                    · have HXq := hid (HX3.out.drewN nq)
                      generalize wy.drewN nq = wq at HXq ⊢
                      clear HX3 hcw hfw HG
                      have HX3 := HXq
                      clear HXq
                      have HPR := hid (part_any w0 g off cap a b p d3 wq HX3.out hp1 hp2 (by omega) (by omega))
                      rw [hs3] at HPR
                      by_cases hz : True
                      · go_wp2_with (first
                          | (go_at_call 89; with_reducible refine HPR.out.mono ?_; rintro e w4 ⟨mid, q4, d4, rfl, HX4, hq4⟩; obtain ⟨q5, hq5⟩ := hq4; have HR := hid (Sort.round_part Sort.swo_ltInt (Sort.partition_holds _) hp1 hp2 (by omega) HB3.out hq5); have hm1 : a ≤ mid := HR.out.1; have hm2 : mid < b := HR.out.2.1; have hs4 : d4.size = d.size := by { have := HR.out.2.2.1; omega })
                          | fail)
                        all_goals clear HPR hq5
                        · have hl : mid - a < b - mid := by omega
                          have HI := hid (IH.out w0 a mid lim d4 _ HX4.out (by omega) (by omega) (by omega) HR.out.2.2.2.1 (by omega) (by omega))
                          rw [hs4] at HI
                          go_wp2_with (first
                            | (go_at_call 78; with_reducible refine HI.out.mono ?_; rintro e w5 ⟨rfl, d5, HX5, HO5⟩)
                            | fail)
                          have HR2 := hid (HR.out.2.2.2.2.2.1 d5 HO5.out.1 HO5.out.2)
                          have hs5 : d5.size = d.size := by have := HO5.out.1.1; omega
                          go_roundw
                          case rel => exact ⟨mid + 1, b, lim, _, q4, d5, by go_num, rfl, rfl, rfl, rfl, by omega, by omega, by omega, by omega, hs5, HX5, HR2.out.1, HFI.out.next2 HP3.out HR2.out.2⟩
                          case measure => simp [intOf]; omega
                        · have hl : ¬ mid - a < b - mid := by omega
                          have HI0 := hid (IH.out w0 (mid + 1) b lim d4 _ HX4.out (by omega) (by omega) (by omega) HR.out.2.2.2.2.1 (by omega) (by omega))
                          rw [hs4] at HI0
                          have HI := hid (pdq_cast HI0.out)
                          clear HI0
                          go_wp2_with (first
                            | (go_at_call 78; with_reducible refine HI.out.mono ?_; rintro e w5 ⟨rfl, d5, HX5, HO5⟩)
                            | fail)
                          have HR2 := hid (HR.out.2.2.2.2.2.2 d5 HO5.out.1 HO5.out.2)
                          have hs5 : d5.size = d.size := by have := HO5.out.1.1; omega
                          go_roundw
                          case rel => exact ⟨a, mid, lim, _, q4, d5, rfl, rfl, rfl, rfl, rfl, by omega, by omega, by omega, by omega, hs5, HX5, HR2.out.1, HFI.out.next2 HP3.out HR2.out.2⟩
                          case measure => simp [intOf]; omega
                      · exact absurd trivial hz

                  · go_quiet (first | (go_at_call 87; refine Calls.quiet_of_same (less_any _ _ _)))
                    go_wp2_with fail
                    have HXq := hid (HX3.out.drewN nq)
                    generalize wy.drewN nq = wq at HXq ⊢
                    clear HX3 hcw hfw HG
                    have HX3 := HXq
                    clear HXq
                    have HPR := hid (part_any w0 g off cap a b p d3 wq HX3.out hp1 hp2 (by omega) (by omega))
                    rw [hs3] at HPR
                    by_cases hz : True
                    · go_wp2_with (first
                        | (go_at_call 89; with_reducible refine HPR.out.mono ?_; rintro e w4 ⟨mid, q4, d4, rfl, HX4, hq4⟩; obtain ⟨q5, hq5⟩ := hq4; have HR := hid (Sort.round_part Sort.swo_ltInt (Sort.partition_holds _) hp1 hp2 (by omega) HB3.out hq5); have hm1 : a ≤ mid := HR.out.1; have hm2 : mid < b := HR.out.2.1; have hs4 : d4.size = d.size := by { have := HR.out.2.2.1; omega })
                        | fail)
                      all_goals clear HPR hq5
                      · have hl : mid - a < b - mid := by omega
                        have HI := hid (IH.out w0 a mid lim d4 _ HX4.out (by omega) (by omega) (by omega) HR.out.2.2.2.1 (by omega) (by omega))
                        rw [hs4] at HI
                        go_wp2_with (first
                          | (go_at_call 78; with_reducible refine HI.out.mono ?_; rintro e w5 ⟨rfl, d5, HX5, HO5⟩)
                          | fail)
                        have HR2 := hid (HR.out.2.2.2.2.2.1 d5 HO5.out.1 HO5.out.2)
                        have hs5 : d5.size = d.size := by have := HO5.out.1.1; omega
                        go_roundw
                        case rel => exact ⟨mid + 1, b, lim, _, q4, d5, by go_num, rfl, rfl, rfl, rfl, by omega, by omega, by omega, by omega, hs5, HX5, HR2.out.1, HFI.out.next2 HP3.out HR2.out.2⟩
                        case measure => simp [intOf]; omega
                      · have hl : ¬ mid - a < b - mid := by omega
                        have HI0 := hid (IH.out w0 (mid + 1) b lim d4 _ HX4.out (by omega) (by omega) (by omega) HR.out.2.2.2.2.1 (by omega) (by omega))
                        rw [hs4] at HI0
                        have HI := hid (pdq_cast HI0.out)
                        clear HI0
                        go_wp2_with (first
                          | (go_at_call 78; with_reducible refine HI.out.mono ?_; rintro e w5 ⟨rfl, d5, HX5, HO5⟩)
                          | fail)
                        have HR2 := hid (HR.out.2.2.2.2.2.2 d5 HO5.out.1 HO5.out.2)
                        have hs5 : d5.size = d.size := by have := HO5.out.1.1; omega
                        go_roundw
                        case rel => exact ⟨a, mid, lim, _, q4, d5, rfl, rfl, rfl, rfl, rfl, by omega, by omega, by omega, by omega, hs5, HX5, HR2.out.1, HFI.out.next2 HP3.out HR2.out.2⟩
                        case measure => simp [intOf]; omega
                    · exact absurd trivial hz

              · (try simp only [Exit.inBlock, Exit.then])
                refine bodyPost_ret (results_none rfl _ _ _) rfl ?_
                exact ⟨rfl, d4, HX4, HFI.out d4 HP4.out (hqq (by trivial))⟩
            · go_wp2_with (first
              | (go_at_call 85; with_reducible refine (HCR.out dk wz hsk HX2.out).mono ?_; rintro e wz ⟨rfl, d3, HX3, hP3⟩)
              | fail)
              have hsr : d3.size = d.size := by have := hP3.1; omega
              have HBr : Hid (Sort.Below ltInt a b d3) := HBe.out.perm (by omega) hP3
              have HPr := hid hP3
              go_wp2_with (first
              | (go_at_call 86; with_reducible refine (HCP.out d3 wz hsr HX3.out HBr.out).mono ?_; rintro e wy ⟨qq, d4, rfl, HX4, HP4, hqq⟩; cases qq)
              | fail)
              · have HP5 : Hid (PermIn a b dk d4) := Sort.permIn_trans _ _ _ _ _ HPr.out HP4.out
                clear HX3 HP4 hqq hP3 HPr HBr hsr
                clear d3
                obtain ⟨d3, hd3⟩ : ∃ z, z = d4 := ⟨_, rfl⟩
                have HX3 : Hid (SW w0 wy g off d3) := by unfold Hid; rw [hd3]; exact HX4.out
                have HP3 : Hid (PermIn a b dk d3) := by unfold Hid; rw [hd3]; exact HP5.out
                clear hd3
                obtain ⟨p, hp⟩ : ∃ p, p = b - 1 - (p0 - a) := ⟨_, rfl⟩
                have hpi : (b : Int) - 1 - ((p0 : Int) - a) = p := by omega
                have hp1 : a ≤ p := by omega
                have hp2 : p < b := by omega
                simp only [hpi]
                clear hp hpi hq1 hq2
                as_aux_lemma =>
                  have hs3 : d3.size = d.size := by have := HP3.out.1; omega
                  have HB3 : Hid (Sort.Below ltInt a b d3) := HBe.out.perm (by omega) HP3.out
                  obtain ⟨G, HG, hcw, hfw⟩ := HX3.out.row0.fam hs3
                  by_cases ha0 : 0 < a
                  · go_quiet (first | (go_at_call 87; refine Calls.quiet_of_same (less_any _ _ _)))
                    go_wp2_with fail
                    · have hl : ltInt (G (a - 1)) (G p) = false := by
                        have h : (!ltInt (G (a - 1)) (G p)) = true := by assumption
                        simpa using h
                      have HNL : Hid (ltInt d3[a - 1]! d3[p]! = false) := by unfold Hid; rw [← HG.out, ← HG.out]; exact hl
                      have HXq := hid (HX3.out.drewN nq)
                      generalize wy.drewN nq = wq at HXq ⊢
                      clear HX3 hcw hfw hl HG
                      have HPE := hid (parteq_any w0 g off cap a b p d3 wq HXq.out hp1 hp2 (by omega) (by omega))
                      rw [hs3] at HPE
                      go_wp2_with (first
                        | (go_at_call 88; with_reducible refine HPE.out.mono ?_; rintro e w4 ⟨mid, d4, rfl, HX4, hq4⟩; have HR := hid (Sort.round_eq Sort.swo_ltInt (Sort.partitionEqual_holds _) ha0 hp1 hp2 (by omega) HB3.out HNL.out hq4); have hm1 : a < mid := HR.out.1; have hm2 : mid ≤ b := HR.out.2.1; have hs4 : d4.size = d.size := by { have := HR.out.2.2.1; omega })
                        | fail)
                      go_roundw
                      case rel => exact ⟨mid, b, lim, true, true, d4, rfl, rfl, rfl, rfl, rfl, by omega, by omega, by omega, by omega, hs4, HX4, HR.out.2.2.2.1, HFI.out.next2 HP3.out HR.out.2.2.2.2⟩
                      case measure => simp [intOf]; omega
                    · have HXq := hid (HX3.out.drewN nq)
                      generalize wy.drewN nq = wq at HXq ⊢
                      clear HX3 hcw hfw HG
                      have HX3 := HXq
                      clear HXq
                      have HPR := hid (part_any w0 g off cap a b p d3 wq HX3.out hp1 hp2 (by omega) (by omega))
                      rw [hs3] at HPR
                      by_cases hz : True
                      · go_wp2_with (first
                          | (go_at_call 89; with_reducible refine HPR.out.mono ?_; rintro e w4 ⟨mid, q4, d4, rfl, HX4, hq4⟩; obtain ⟨q5, hq5⟩ := hq4; have HR := hid (Sort.round_part Sort.swo_ltInt (Sort.partition_holds _) hp1 hp2 (by omega) HB3.out hq5); have hm1 : a ≤ mid := HR.out.1; have hm2 : mid < b := HR.out.2.1; have hs4 : d4.size = d.size := by { have := HR.out.2.2.1; omega })
                          | fail)
                        all_goals clear HPR hq5
                        · have hl : mid - a < b - mid := by omega
                          have HI := hid (IH.out w0 a mid lim d4 _ HX4.out (by omega) (by omega) (by omega) HR.out.2.2.2.1 (by omega) (by omega))
                          rw [hs4] at HI
                          go_wp2_with (first
                            | (go_at_call 78; with_reducible refine HI.out.mono ?_; rintro e w5 ⟨rfl, d5, HX5, HO5⟩)
                            | fail)
                          have HR2 := hid (HR.out.2.2.2.2.2.1 d5 HO5.out.1 HO5.out.2)
                          have hs5 : d5.size = d.size := by have := HO5.out.1.1; omega
                          go_roundw
                          case rel => exact ⟨mid + 1, b, lim, _, q4, d5, by go_num, rfl, rfl, rfl, rfl, by omega, by omega, by omega, by omega, hs5, HX5, HR2.out.1, HFI.out.next2 HP3.out HR2.out.2⟩
                          case measure => simp [intOf]; omega
                        · have hl : ¬ mid - a < b - mid := by omega
                          have HI0 := hid (IH.out w0 (mid + 1) b lim d4 _ HX4.out (by omega) (by omega) (by omega) HR.out.2.2.2.2.1 (by omega) (by omega))
                          rw [hs4] at HI0
                          have HI := hid (pdq_cast HI0.out)
                          clear HI0
                          go_wp2_with (first
                            | (go_at_call 78; with_reducible refine HI.out.mono ?_; rintro e w5 ⟨rfl, d5, HX5, HO5⟩)
                            | fail)
                          have HR2 := hid (HR.out.2.2.2.2.2.2 d5 HO5.out.1 HO5.out.2)
                          have hs5 : d5.size = d.size := by have := HO5.out.1.1; omega
                          go_roundw
                          case rel => exact ⟨a, mid, lim, _, q4, d5, rfl, rfl, rfl, rfl, rfl, by omega, by omega, by omega, by omega, hs5, HX5, HR2.out.1, HFI.out.next2 HP3.out HR2.out.2⟩
                          case measure => simp [intOf]; omega
                      · exact absurd trivial hz

                  · go_quiet (first | (go_at_call 87; refine Calls.quiet_of_same (less_any _ _ _)))
                    go_wp2_with fail
                    have HXq := hid (HX3.out.drewN nq)
                    generalize wy.drewN nq = wq at HXq ⊢
                    clear HX3 hcw hfw HG
                    have HX3 := HXq
                    clear HXq
                    have HPR := hid (part_any w0 g off cap a b p d3 wq HX3.out hp1 hp2 (by omega) (by omega))
                    rw [hs3] at HPR
                    by_cases hz : True
                    · go_wp2_with (first
                        | (go_at_call 89; with_reducible refine HPR.out.mono ?_; rintro e w4 ⟨mid, q4, d4, rfl, HX4, hq4⟩; obtain ⟨q5, hq5⟩ := hq4; have HR := hid (Sort.round_part Sort.swo_ltInt (Sort.partition_holds _) hp1 hp2 (by omega) HB3.out hq5); have hm1 : a ≤ mid := HR.out.1; have hm2 : mid < b := HR.out.2.1; have hs4 : d4.size = d.size := by { have := HR.out.2.2.1; omega })
                        | fail)
                      all_goals clear HPR hq5
                      · have hl : mid - a < b - mid := by omega
                        have HI := hid (IH.out w0 a mid lim d4 _ HX4.out (by omega) (by omega) (by omega) HR.out.2.2.2.1 (by omega) (by omega))
                        rw [hs4] at HI
                        go_wp2_with (first
                          | (go_at_call 78; with_reducible refine HI.out.mono ?_; rintro e w5 ⟨rfl, d5, HX5, HO5⟩)
                          | fail)
                        have HR2 := hid (HR.out.2.2.2.2.2.1 d5 HO5.out.1 HO5.out.2)
                        have hs5 : d5.size = d.size := by have := HO5.out.1.1; omega
                        go_roundw
                        case rel => exact ⟨mid + 1, b, lim, _, q4, d5, by go_num, rfl, rfl, rfl, rfl, by omega, by omega, by omega, by omega, hs5, HX5, HR2.out.1, HFI.out.next2 HP3.out HR2.out.2⟩
                        case measure => simp [intOf]; omega
                      · have hl : ¬ mid - a < b - mid := by omega
                        have HI0 := hid (IH.out w0 (mid + 1) b lim d4 _ HX4.out (by omega) (by omega) (by omega) HR.out.2.2.2.2.1 (by omega) (by omega))
                        rw [hs4] at HI0
                        have HI := hid (pdq_cast HI0.out)
                        clear HI0
                        go_wp2_with (first
                          | (go_at_call 78; with_reducible refine HI.out.mono ?_; rintro e w5 ⟨rfl, d5, HX5, HO5⟩)
                          | fail)
                        have HR2 := hid (HR.out.2.2.2.2.2.2 d5 HO5.out.1 HO5.out.2)
                        have hs5 : d5.size = d.size := by have := HO5.out.1.1; omega
                        go_roundw
                        case rel => exact ⟨a, mid, lim, _, q4, d5, rfl, rfl, rfl, rfl, rfl, by omega, by omega, by omega, by omega, hs5, HX5, HR2.out.1, HFI.out.next2 HP3.out HR2.out.2⟩
                        case measure => simp [intOf]; omega
                    · exact absurd trivial hz

              · (try simp only [Exit.inBlock, Exit.then])
                refine bodyPost_ret (results_none rfl _ _ _) rfl ?_
                exact ⟨rfl, d4, HX4, HFI.out d4 (Sort.permIn_trans _ _ _ _ _ HPr.out HP4.out) (hqq (by trivial))⟩
theorem pdq_all (g off cap : Nat) : ∀ n, Pdq g off cap n
  | 0 => fun w0 a b lim d w x h => by omega
  | n + 1 => fun w0 a b lim d w x h hab hb hB hsz hl => pdq_step g off cap n (pdq_all g off cap n) w0 a b lim d w x (by omega) hab hb hB hsz hl
theorem sort_any (w0 : World) (g off cap : Nat) (d : Array Int) (w : World) (x : SW w0 w g off d) (hsz : d.size < 1152921504606846976) :
    Calls Try.prog 71 #[.slice (some ⟨g, off, none⟩) d.size cap] w fun e w' => e = .returned (.tuple #[]) ∧ Hid (SW w0 w' g off (d.toList.mergeSort fun x y => !ltInt y x).toArray) := by
  have hb := Try.bits_Len d.size w (by omega) (by omega)
  rw [Int.toNat_natCast] at hb
  have hl : Lib.bitLen d.size ≤ 64 := Lib.bitLen_le _ 64 (Nat.le_refl _) (by omega)
  have HP := hid (pdq_all g off cap (d.size + 1) w0 0 d.size (Lib.bitLen d.size) d w x (by omega) (by omega) (Nat.le_refl _) (Or.inl rfl) hsz hl)
  have HB := hid hb
  clear hb x
  generalize Lib.bitLen d.size = k at *
  have HP2 : Hid (Calls Try.prog 78 #[.slice (some ⟨g, off, none⟩) d.size cap, .int .i64 0, .int .i64 d.size, .int .i64 k] w fun e w' => e = .returned (.tuple #[]) ∧ ∃ d', Hid (SW w0 w' g off d') ∧ Hid (PermIn 0 d.size d d' ∧ SortedIn ltInt 0 d.size d')) := HP
  clear HP
  go_enter Try.func71, Try.ntmps71
  go_wp2_with (first
    | (go_at_call 79; with_reducible refine HB.out.mono ?_; rintro e w' ⟨rfl, hw⟩; subst w')
    | (go_at_call 78; with_reducible refine HP2.out.mono ?_; rintro e w1 ⟨rfl, d', HX, HO⟩)
    | fail)
  go_end0
  refine ⟨rfl, ?_⟩
  have h := Sort.sorted_unique_holds (lt := ltInt) Sort.swo_ltInt (fun x y h1 h2 => by simp only [ltInt, decide_eq_false_iff_not] at h1 h2; omega) d d' HO.out.1 HO.out.2
  unfold Hid
  rw [← h]
  exact HX.out
end Go.Proofs.Ytaaoelhmanahpaa
