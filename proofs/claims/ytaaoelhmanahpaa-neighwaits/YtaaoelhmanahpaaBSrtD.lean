/-
  slices.Sort at uint32: the two partings.
-/
import Derived.Test.YtaaoelhmanahpaaBSrtC
namespace Go.Proofs.Ytaaoelhmanahpaa
open Go.RowKit
open Go.Sort (swp scanUp scanDown partLoop partEqLoop partition partitionEqual ltInt PermIn SortedIn SWO)
set_option linter.all false

theorem cell_set {w : World} {g off n : Nat} {G : Nat → Int} (hc : ∀ t, t < n → w.cell? ⟨g, off + t, none⟩ = some (.int .u32 (G t))) {i j : Nat} (hi : i < n) (hj : j < n) (v : Value) : ∃ u, (w.setCell ⟨g, off + i, none⟩ v).cell? ⟨g, off + j, none⟩ = some u := by
  by_cases e : i = j
  · subst e; exact ⟨_, World.cell?_setCell_same _ _ _ (hc i hi)⟩
  · exact ⟨_, by rw [World.cell?_setCell_other (h := by intro h; injection h with _ h; omega)]; exact hc j hj⟩
section
variable {p : Int → Bool} {d : Array Int} {i j : Nat}
theorem scan_up (h : i ≤ j) (hl : p d[i]! = true) : scanUp p d j i = scanUp p d j (i + 1) := by rw [scanUp, if_pos (by simp [h, hl])]
theorem scan_up0 (h : ¬ i ≤ j ∨ p d[i]! = false) : scanUp p d j i = i := by
  rw [scanUp, if_neg]
  rcases h with h | h <;> simp [h]
theorem scan_dn (h : i ≤ j) (hj : 0 < j) (hl : p d[j]! = true) : scanDown p d i j = scanDown p d i (j - 1) := by
  cases j with
  | zero => omega
  | succ k => rw [scanDown, if_pos (by simp [h, hl])]; rfl
theorem scan_dn0 (h : ¬ i ≤ j ∨ p d[j]! = false) : scanDown p d i j = j := by
  cases j with
  | zero => rw [scanDown]
  | succ k =>
    rw [scanDown, if_neg]
    rcases h with h | h <;> simp [h]
end
section
variable {lt : Int → Int → Bool} {d dk d1 : Array Int} {a b pv i j i0 j0 : Nat}
theorem part_stop (hi : scanUp (fun x => lt x dk[a]!) dk j0 i0 = i) (hj : scanDown (fun x => !lt x dk[a]!) dk i j0 = j) (h : j < i) : partLoop lt a i0 j0 dk = (j, dk) := by
  rw [Sort.partLoop_eq, hi, hj, if_pos h]
theorem part_go (hi : scanUp (fun x => lt x dk[a]!) dk j0 i0 = i) (hj : scanDown (fun x => !lt x dk[a]!) dk i j0 = j) (h : ¬ j < i) : partLoop lt a i0 j0 dk = partLoop lt a (i + 1) (j - 1) (swp dk i j) := by
  rw [Sort.partLoop_eq, hi, hj, if_neg h]
theorem parteq_stop (hi : scanUp (fun x => !lt dk[a]! x) dk j0 i0 = i) (hj : scanDown (fun x => lt dk[a]! x) dk i j0 = j) (h : j < i) : partEqLoop lt a i0 j0 dk = (i, dk) := by
  rw [Sort.partEqLoop_eq, hi, hj, if_pos h]
theorem parteq_go (hi : scanUp (fun x => !lt dk[a]! x) dk j0 i0 = i) (hj : scanDown (fun x => lt dk[a]! x) dk i j0 = j) (h : ¬ j < i) : partEqLoop lt a i0 j0 dk = partEqLoop lt a (i + 1) (j - 1) (swp dk i j) := by
  rw [Sort.partEqLoop_eq, hi, hj, if_neg h]
theorem part_arr (h : partLoop lt a (a + 1) (b - 1) (swp d a pv) = (j, dk)) : ∃ q, partition lt d a b pv = (j, q, swp dk j a) := by
  have h1 := Sort.partition_fst lt d a b pv
  have h2 := Sort.partition_arr lt d a b pv
  rw [h] at h1 h2
  simp only at h1 h2
  exact ⟨(partition lt d a b pv).2.1, by rw [← h2, ← h1]⟩
end

set_option maxRecDepth 100000 in
set_option maxHeartbeats 16000000 in
theorem part_any (w0 : World) (g off cap a b pv : Nat) (d : Array Int) (w : World) (x : SW w0 w g off d) (hap : a ≤ pv) (hpb : pv < b) (hb : b ≤ d.size) (hsz : d.size < 1152921504606846976) :
    Calls Try.prog 89 #[.slice (some ⟨g, off, none⟩) d.size cap, .int .i64 a, .int .i64 b, .int .i64 pv] w fun e w' => ∃ (mid : Nat) (q : Bool) (d' : Array Int), e = .returned (.tuple #[.int .i64 mid, .bool q]) ∧ Hid (SW w0 w' g off d') ∧ ∃ q', partition ltInt d a b pv = (mid, q', d') := by
  have HX := hid x
  clear x
  obtain ⟨d1, hd1⟩ : ∃ d1, d1 = swp d a pv := ⟨_, rfl⟩
  have HD := hid hd1
  have hsk : d1.size = d.size := by rw [hd1, swp_len]
  obtain ⟨G, HG, hcw, hfw⟩ := HX.out.fam (n := d.size) rfl
  obtain ⟨u, hu⟩ := cell_set hcw (i := a) (j := pv) (by omega) (by omega) (.int .u32 (G pv))
  have HX2 : Hid (SW w0 ((w.setCell ⟨g, off + a, none⟩ (.int .u32 (G pv))).setCell ⟨g, off + pv, none⟩ (.int .u32 (G a))).drew g off d1) := by
    unfold Hid; rw [HG.out, HG.out, hd1]; exact (HX.out.swap (by omega) (by omega)).drew
  clear HX hd1
  go_enter Try.func89, Try.ntmps89
  go_wp2
  go_region
  all_goals go_wp2
  have HX := HX2
  clear HX2 hu hcw hfw
  generalize ((w.setCell ⟨g, off + a, none⟩ (.int .u32 (G pv))).setCell ⟨g, off + pv, none⟩ (.int .u32 (G a))).drew = w1 at HX ⊢
  clear HG
  have HPO : Hid (∀ (j : Nat) (dk : Array Int), partLoop ltInt a (a + 1) (b - 1) d1 = (j, dk) → ∃ q, partition ltInt d a b pv = (j, q, swp dk j a)) := fun j dk h => part_arr (by rw [← HD.out]; exact h)
  clear HD
  obtain ⟨dk, hdk⟩ : ∃ dk, dk = d1 := ⟨_, rfl⟩
  obtain ⟨i0, hi00⟩ : ∃ i0, i0 = a + 1 := ⟨_, rfl⟩
  obtain ⟨j0, hj00⟩ : ∃ j0, j0 = b - 1 := ⟨_, rfl⟩
  have HO : Hid (partLoop ltInt a i0 j0 dk = partLoop ltInt a (a + 1) (b - 1) d1) := by unfold Hid; rw [hdk, hi00, hj00]
  rw [← hdk] at HX hsk
  rw [show ((a : Int) + 1) = (i0 : Int) from by omega, show ((b : Int) - 1) = (j0 : Int) from by omega]
  have ha0 : a < i0 := by omega
  have hi0 : i0 ≤ b := by omega
  have hja0 : a ≤ j0 := by omega
  have hjb0 : j0 < b := by omega
  clear hdk hi00 hj00 hap hpb
  go_loopw [10] (fun vi wr2 => ∃ (i : Nat), vi = .int .i64 i ∧ i0 ≤ i ∧ a < i ∧ i ≤ b ∧ Hid (SW w0 wr2 g off dk) ∧ Hid (scanUp (fun x => ltInt x dk[a]!) dk j0 i = scanUp (fun x => ltInt x dk[a]!) dk j0 i0)) (fun vi _ => b + 1 - (intOf vi).toNat)
  case atStart => exact ⟨i0, rfl, Nat.le_refl _, ha0, hi0, HX, rfl⟩
  case round =>
    clear HX
    obtain ⟨i, rfl, hii, hai, hib, HX, HS⟩ := hrel
    obtain ⟨G, HG, hcw, hfw⟩ := HX.out.fam hsk
    go_wp2
    by_cases hij : i ≤ j0
    · go_quiet (first | (go_at_call 87; refine Calls.quiet_of_same (less_any _ _ _)))
      go_wp2
      · have hl : ltInt (G i) (G a) = true := by assumption
        go_roundw
        case rel => exact ⟨i + 1, by go_num, by omega, by omega, by omega, HX.out.drewN nq, by unfold Hid; rw [← HS.out, scan_up hij (by simp only [← HG.out]; exact hl)]⟩
        case measure => simp [intOf]; omega
      · have hl : ltInt (G i) (G a) = false := by assumption
        have HI : Hid (scanUp (fun x => ltInt x dk[a]!) dk j0 i0 = i) := by unfold Hid; rw [← HS.out, scan_up0 (Or.inr (by simp only [← HG.out]; exact hl))]
        have HXq := hid (HX.out.drewN nq)
        generalize wr.drewN nq = wq at HXq ⊢
        clear HX HS hcw hfw hl HG
        have HX := HXq
        clear HXq
        go_loopw [11] (fun vj wr2 => ∃ (j : Nat), vj = .int .i64 j ∧ a ≤ j ∧ j ≤ j0 ∧ Hid (SW w0 wr2 g off dk) ∧ Hid (scanDown (fun x => !ltInt x dk[a]!) dk i j = scanDown (fun x => !ltInt x dk[a]!) dk i j0)) (fun vj _ => (intOf vj).toNat)
        case atStart => exact ⟨j0, rfl, hja0, Nat.le_refl _, HX, rfl⟩
        case round =>
          clear HX
          obtain ⟨j, rfl, haj, hjj, HX, HT⟩ := hrel
          obtain ⟨G, HG, hcw, hfw⟩ := HX.out.fam hsk
          go_wp2
          by_cases hij2 : i ≤ j
          · go_quiet (first | (go_at_call 87; refine Calls.quiet_of_same (less_any _ _ _)))
            go_wp2
            · have hl : (!ltInt (G j) (G a)) = true := by assumption
              go_roundw
              case rel => exact ⟨j - 1, by congr 1; omega, by omega, by omega, HX.out.drewN nq, by unfold Hid; rw [← HT.out, scan_dn hij2 (by omega) (by simp only [← HG.out]; exact hl)]⟩
              case measure => simp [intOf]; omega
            · have hl : (!ltInt (G j) (G a)) = false := by assumption
              have HJ : Hid (scanDown (fun x => !ltInt x dk[a]!) dk i j0 = j) := by unfold Hid; rw [← HT.out, scan_dn0 (Or.inr (by simp only [← HG.out]; exact hl))]
              have HXq := hid (HX.out.drewN nq)
              generalize wr.drewN nq = wq at HXq ⊢
              clear HX HT hcw hfw hl
              obtain ⟨hcw, hfw⟩ := HXq.out.fam2 hsk HG.out
              have HL : Hid (partLoop ltInt a (i + 1) (j - 1) (swp dk i j) = partLoop ltInt a (a + 1) (b - 1) d1) := by unfold Hid; rw [← HO.out]; exact (part_go HI.out HJ.out (by omega)).symm

              obtain ⟨u, hu⟩ := cell_set hcw (i := i) (j := j) (by omega) (by omega) (.int .u32 (G (j)))
              have HX2 : Hid (SW w0 ((wq.setCell ⟨g, off + i, none⟩ (.int .u32 (G (j)))).setCell ⟨g, off + j, none⟩ (.int .u32 (G (i)))).drew g off (swp dk (i) (j))) := by
                unfold Hid; rw [HG.out, HG.out]; exact (HXq.out.swap (by omega) (by omega)).drew
              go_region
              all_goals go_wp2
              clear hu hcw hfw HXq

              have hsz2 : (swp dk i j).size = d.size := by rw [swp_len]; exact hsk
              clear HI HJ HO
              go_loopw [10, 11] (fun vi vj wr => ∃ (i0 j0 : Nat) (dk : Array Int), vi = .int .i64 i0 ∧ vj = .int .i64 j0 ∧ a < i0 ∧ i0 ≤ b ∧ a ≤ j0 ∧ j0 < b ∧ dk.size = d.size ∧ Hid (SW w0 wr g off dk) ∧ Hid (partLoop ltInt a i0 j0 dk = partLoop ltInt a (a + 1) (b - 1) d1)) (fun vi vj _ => (intOf vj + 1 - intOf vi).toNat)
              case atStart => exact ⟨i + 1, j - 1, _, by go_num, by congr 1; omega, by omega, by omega, by omega, by omega, hsz2, HX2, HL⟩
              case round =>
                clear HX2 HL hsz2 HG hsk
                clear hij hij2 haj hjj hii hai hib ha0 hi0 hja0 hjb0
                obtain ⟨i0, j0, dk, rfl, rfl, ha0, hi0, hja0, hjb0, hsk, HX, HO⟩ := hrel
                go_wp2
                go_loopw [10] (fun vi wr2 => ∃ (i : Nat), vi = .int .i64 i ∧ i0 ≤ i ∧ a < i ∧ i ≤ b ∧ Hid (SW w0 wr2 g off dk) ∧ Hid (scanUp (fun x => ltInt x dk[a]!) dk j0 i = scanUp (fun x => ltInt x dk[a]!) dk j0 i0)) (fun vi _ => b + 1 - (intOf vi).toNat)
                case atStart => exact ⟨i0, rfl, Nat.le_refl _, ha0, hi0, HX, rfl⟩
                case round =>
                  clear HX
                  obtain ⟨i, rfl, hii, hai, hib, HX, HS⟩ := hrel
                  obtain ⟨G, HG, hcw, hfw⟩ := HX.out.fam hsk
                  go_wp2
                  by_cases hij : i ≤ j0
                  · go_quiet (first | (go_at_call 87; refine Calls.quiet_of_same (less_any _ _ _)))
                    go_wp2
                    · have hl : ltInt (G i) (G a) = true := by assumption
                      go_roundw
                      case rel => exact ⟨i + 1, by go_num, by omega, by omega, by omega, HX.out.drewN nq, by unfold Hid; rw [← HS.out, scan_up hij (by simp only [← HG.out]; exact hl)]⟩
                      case measure => simp [intOf]; omega
                    · have hl : ltInt (G i) (G a) = false := by assumption
                      have HI : Hid (scanUp (fun x => ltInt x dk[a]!) dk j0 i0 = i) := by unfold Hid; rw [← HS.out, scan_up0 (Or.inr (by simp only [← HG.out]; exact hl))]
                      have HXq := hid (HX.out.drewN nq)
                      generalize wr.drewN nq = wq at HXq ⊢
                      clear HX HS hcw hfw hl HG
                      have HX := HXq
                      clear HXq
                      go_loopw [11] (fun vj wr2 => ∃ (j : Nat), vj = .int .i64 j ∧ a ≤ j ∧ j ≤ j0 ∧ Hid (SW w0 wr2 g off dk) ∧ Hid (scanDown (fun x => !ltInt x dk[a]!) dk i j = scanDown (fun x => !ltInt x dk[a]!) dk i j0)) (fun vj _ => (intOf vj).toNat)
                      case atStart => exact ⟨j0, rfl, hja0, Nat.le_refl _, HX, rfl⟩
                      case round =>
                        clear HX
                        obtain ⟨j, rfl, haj, hjj, HX, HT⟩ := hrel
                        obtain ⟨G, HG, hcw, hfw⟩ := HX.out.fam hsk
                        go_wp2
                        by_cases hij2 : i ≤ j
                        · go_quiet (first | (go_at_call 87; refine Calls.quiet_of_same (less_any _ _ _)))
                          go_wp2
                          · have hl : (!ltInt (G j) (G a)) = true := by assumption
                            go_roundw
                            case rel => exact ⟨j - 1, by congr 1; omega, by omega, by omega, HX.out.drewN nq, by unfold Hid; rw [← HT.out, scan_dn hij2 (by omega) (by simp only [← HG.out]; exact hl)]⟩
                            case measure => simp [intOf]; omega
                          · have hl : (!ltInt (G j) (G a)) = false := by assumption
                            have HJ : Hid (scanDown (fun x => !ltInt x dk[a]!) dk i j0 = j) := by unfold Hid; rw [← HT.out, scan_dn0 (Or.inr (by simp only [← HG.out]; exact hl))]
                            have HXq := hid (HX.out.drewN nq)
                            generalize wr.drewN nq = wq at HXq ⊢
                            clear HX HT hcw hfw hl
                            obtain ⟨hcw, hfw⟩ := HXq.out.fam2 hsk HG.out
                            have HL : Hid (partLoop ltInt a (i + 1) (j - 1) (swp dk i j) = partLoop ltInt a (a + 1) (b - 1) d1) := by unfold Hid; rw [← HO.out]; exact (part_go HI.out HJ.out (by omega)).symm

                            obtain ⟨u, hu⟩ := cell_set hcw (i := i) (j := j) (by omega) (by omega) (.int .u32 (G (j)))
                            have HX2 : Hid (SW w0 ((wq.setCell ⟨g, off + i, none⟩ (.int .u32 (G (j)))).setCell ⟨g, off + j, none⟩ (.int .u32 (G (i)))).drew g off (swp dk (i) (j))) := by
                              unfold Hid; rw [HG.out, HG.out]; exact (HXq.out.swap (by omega) (by omega)).drew
                            go_region
                            all_goals go_wp2
                            clear hu hcw hfw HXq

                            go_roundw
                            case rel => exact ⟨i + 1, j - 1, _, by go_num, by congr 1; omega, by omega, by omega, by omega, by omega, by rw [swp_len]; exact hsk, HX2, HL⟩
                            case measure => simp [intOf]; omega
                        · go_quiet (first | (go_at_call 87; refine Calls.quiet_of_same (less_any _ _ _)))
                          go_wp2
                          have HJ : Hid (scanDown (fun x => !ltInt x dk[a]!) dk i j0 = j) := by unfold Hid; rw [← HT.out, scan_dn0 (Or.inl hij2)]
                          have HXq := hid (HX.out.drewN nq)
                          generalize wr.drewN nq = wq at HXq ⊢
                          clear HX HT hcw hfw
                          obtain ⟨hcw, hfw⟩ := HXq.out.fam2 hsk HG.out
                          have HL : Hid (partLoop ltInt a (a + 1) (b - 1) d1 = (j, dk)) := by unfold Hid; rw [← HO.out]; exact part_stop HI.out HJ.out (by omega)

                          obtain ⟨u, hu⟩ := cell_set hcw (i := j) (j := a) (by omega) (by omega) (.int .u32 (G (a)))
                          have HX2 : Hid (SW w0 ((wq.setCell ⟨g, off + j, none⟩ (.int .u32 (G (a)))).setCell ⟨g, off + a, none⟩ (.int .u32 (G (j)))).drew g off (swp dk (j) (a))) := by
                            unfold Hid; rw [HG.out, HG.out]; exact (HXq.out.swap (by omega) (by omega)).drew
                          go_region
                          all_goals go_wp2
                          clear hu hcw hfw HXq

                          go_ret2
                          exact ⟨j, false, _, rfl, HX2, HPO.out _ _ HL.out⟩
                  · go_quiet (first | (go_at_call 87; refine Calls.quiet_of_same (less_any _ _ _)))
                    go_wp2
                    have HI : Hid (scanUp (fun x => ltInt x dk[a]!) dk j0 i0 = i) := by unfold Hid; rw [← HS.out, scan_up0 (Or.inl hij)]
                    have HXq := hid (HX.out.drewN nq)
                    generalize wr.drewN nq = wq at HXq ⊢
                    clear HX HS hcw hfw HG
                    have HX := HXq
                    clear HXq
                    go_loopw [11] (fun vj wr2 => vj = .int .i64 j0 ∧ Hid (SW w0 wr2 g off dk)) (fun _ _ => 0)
                    case atStart => exact ⟨rfl, HX⟩
                    case round =>
                      clear HX
                      obtain ⟨rfl, HX⟩ := hrel
                      obtain ⟨G, HG, hcw, hfw⟩ := HX.out.fam hsk
                      go_wp2
                      go_quiet (first | (go_at_call 87; refine Calls.quiet_of_same (less_any _ _ _)))
                      go_wp2
                      have HJ : Hid (scanDown (fun x => !ltInt x dk[a]!) dk i j0 = j0) := scan_dn0 (Or.inl hij)
                      have HXq := hid (HX.out.drewN nq)
                      generalize wr.drewN nq = wq at HXq ⊢
                      clear HX hcw hfw
                      obtain ⟨hcw, hfw⟩ := HXq.out.fam2 hsk HG.out
                      obtain ⟨j, hjz⟩ : ∃ j, j = j0 := ⟨_, rfl⟩
                      have hij2 : ¬ i ≤ j := by omega
                      have haj : a ≤ j := by omega
                      have hjj : j ≤ j0 := by omega
                      rw [← hjz] at hjb0 ⊢
                      have HJ : Hid (scanDown (fun x => !ltInt x dk[a]!) dk i j0 = j) := by unfold Hid; rw [HJ.out, hjz]
                      clear hjz
                      have HL : Hid (partLoop ltInt a (a + 1) (b - 1) d1 = (j, dk)) := by unfold Hid; rw [← HO.out]; exact part_stop HI.out HJ.out (by omega)

                      obtain ⟨u, hu⟩ := cell_set hcw (i := j) (j := a) (by omega) (by omega) (.int .u32 (G (a)))
                      have HX2 : Hid (SW w0 ((wq.setCell ⟨g, off + j, none⟩ (.int .u32 (G (a)))).setCell ⟨g, off + a, none⟩ (.int .u32 (G (j)))).drew g off (swp dk (j) (a))) := by
                        unfold Hid; rw [HG.out, HG.out]; exact (HXq.out.swap (by omega) (by omega)).drew
                      go_region
                      all_goals go_wp2
                      clear hu hcw hfw HXq

                      go_ret2
                      exact ⟨j, false, _, rfl, HX2, HPO.out _ _ HL.out⟩
          · go_quiet (first | (go_at_call 87; refine Calls.quiet_of_same (less_any _ _ _)))
            go_wp2
            have HJ : Hid (scanDown (fun x => !ltInt x dk[a]!) dk i j0 = j) := by unfold Hid; rw [← HT.out, scan_dn0 (Or.inl hij2)]
            have HXq := hid (HX.out.drewN nq)
            generalize wr.drewN nq = wq at HXq ⊢
            clear HX HT hcw hfw
            obtain ⟨hcw, hfw⟩ := HXq.out.fam2 hsk HG.out
            have HL : Hid (partLoop ltInt a (a + 1) (b - 1) d1 = (j, dk)) := by unfold Hid; rw [← HO.out]; exact part_stop HI.out HJ.out (by omega)

            obtain ⟨u, hu⟩ := cell_set hcw (i := j) (j := a) (by omega) (by omega) (.int .u32 (G (a)))
            have HX2 : Hid (SW w0 ((wq.setCell ⟨g, off + j, none⟩ (.int .u32 (G (a)))).setCell ⟨g, off + a, none⟩ (.int .u32 (G (j)))).drew g off (swp dk (j) (a))) := by
              unfold Hid; rw [HG.out, HG.out]; exact (HXq.out.swap (by omega) (by omega)).drew
            go_region
            all_goals go_wp2
            clear hu hcw hfw HXq

            go_ret2
            exact ⟨j, true, _, rfl, HX2, HPO.out _ _ HL.out⟩
    · go_quiet (first | (go_at_call 87; refine Calls.quiet_of_same (less_any _ _ _)))
      go_wp2
      have HI : Hid (scanUp (fun x => ltInt x dk[a]!) dk j0 i0 = i) := by unfold Hid; rw [← HS.out, scan_up0 (Or.inl hij)]
      have HXq := hid (HX.out.drewN nq)
      generalize wr.drewN nq = wq at HXq ⊢
      clear HX HS hcw hfw HG
      have HX := HXq
      clear HXq
      go_loopw [11] (fun vj wr2 => vj = .int .i64 j0 ∧ Hid (SW w0 wr2 g off dk)) (fun _ _ => 0)
      case atStart => exact ⟨rfl, HX⟩
      case round =>
        clear HX
        obtain ⟨rfl, HX⟩ := hrel
        obtain ⟨G, HG, hcw, hfw⟩ := HX.out.fam hsk
        go_wp2
        go_quiet (first | (go_at_call 87; refine Calls.quiet_of_same (less_any _ _ _)))
        go_wp2
        have HJ : Hid (scanDown (fun x => !ltInt x dk[a]!) dk i j0 = j0) := scan_dn0 (Or.inl hij)
        have HXq := hid (HX.out.drewN nq)
        generalize wr.drewN nq = wq at HXq ⊢
        clear HX hcw hfw
        obtain ⟨hcw, hfw⟩ := HXq.out.fam2 hsk HG.out
        obtain ⟨j, hjz⟩ : ∃ j, j = j0 := ⟨_, rfl⟩
        have hij2 : ¬ i ≤ j := by omega
        have haj : a ≤ j := by omega
        have hjj : j ≤ j0 := by omega
        rw [← hjz] at hjb0 ⊢
        have HJ : Hid (scanDown (fun x => !ltInt x dk[a]!) dk i j0 = j) := by unfold Hid; rw [HJ.out, hjz]
        clear hjz
        have HL : Hid (partLoop ltInt a (a + 1) (b - 1) d1 = (j, dk)) := by unfold Hid; rw [← HO.out]; exact part_stop HI.out HJ.out (by omega)

        obtain ⟨u, hu⟩ := cell_set hcw (i := j) (j := a) (by omega) (by omega) (.int .u32 (G (a)))
        have HX2 : Hid (SW w0 ((wq.setCell ⟨g, off + j, none⟩ (.int .u32 (G (a)))).setCell ⟨g, off + a, none⟩ (.int .u32 (G (j)))).drew g off (swp dk (j) (a))) := by
          unfold Hid; rw [HG.out, HG.out]; exact (HXq.out.swap (by omega) (by omega)).drew
        go_region
        all_goals go_wp2
        clear hu hcw hfw HXq

        go_ret2
        exact ⟨j, true, _, rfl, HX2, HPO.out _ _ HL.out⟩


set_option maxRecDepth 100000 in
set_option maxHeartbeats 16000000 in
theorem parteq_any (w0 : World) (g off cap a b pv : Nat) (d : Array Int) (w : World) (x : SW w0 w g off d) (hap : a ≤ pv) (hpb : pv < b) (hb : b ≤ d.size) (hsz : d.size < 1152921504606846976) :
    Calls Try.prog 88 #[.slice (some ⟨g, off, none⟩) d.size cap, .int .i64 a, .int .i64 b, .int .i64 pv] w fun e w' => ∃ (mid : Nat) (d' : Array Int), e = .returned (.int .i64 mid) ∧ Hid (SW w0 w' g off d') ∧ partitionEqual ltInt d a b pv = (mid, d') := by
  have HX := hid x
  clear x
  obtain ⟨d1, hd1⟩ : ∃ d1, d1 = swp d a pv := ⟨_, rfl⟩
  have HD := hid hd1
  have hsk : d1.size = d.size := by rw [hd1, swp_len]
  obtain ⟨G, HG, hcw, hfw⟩ := HX.out.fam (n := d.size) rfl
  obtain ⟨u, hu⟩ := cell_set hcw (i := a) (j := pv) (by omega) (by omega) (.int .u32 (G pv))
  have HX2 : Hid (SW w0 ((w.setCell ⟨g, off + a, none⟩ (.int .u32 (G pv))).setCell ⟨g, off + pv, none⟩ (.int .u32 (G a))).drew g off d1) := by
    unfold Hid; rw [HG.out, HG.out, hd1]; exact (HX.out.swap (by omega) (by omega)).drew
  clear HX hd1
  go_enter Try.func88, Try.ntmps88
  go_wp2
  go_region
  all_goals go_wp2
  have HX := HX2
  clear HX2 hu hcw hfw
  generalize ((w.setCell ⟨g, off + a, none⟩ (.int .u32 (G pv))).setCell ⟨g, off + pv, none⟩ (.int .u32 (G a))).drew = w1 at HX ⊢
  clear HG
  go_loopw [9, 10] (fun vi vj wr => ∃ (i0 j0 : Nat) (dk : Array Int), vi = .int .i64 i0 ∧ vj = .int .i64 j0 ∧ a < i0 ∧ i0 ≤ b ∧ a ≤ j0 ∧ j0 < b ∧ dk.size = d.size ∧ Hid (SW w0 wr g off dk) ∧ Hid (partEqLoop ltInt a i0 j0 dk = partEqLoop ltInt a (a + 1) (b - 1) d1)) (fun vi vj _ => (intOf vj + 1 - intOf vi).toNat)
  case atStart => exact ⟨a + 1, b - 1, d1, by go_num, by congr 1; omega, by omega, by omega, by omega, by omega, hsk, HX, rfl⟩
  case round =>
    clear HX hsk
    obtain ⟨i0, j0, dk, rfl, rfl, ha0, hi0, hja0, hjb0, hsk, HX, HO⟩ := hrel
    go_wp2
    go_loopw [9] (fun vi wr2 => ∃ (i : Nat), vi = .int .i64 i ∧ i0 ≤ i ∧ a < i ∧ i ≤ b ∧ Hid (SW w0 wr2 g off dk) ∧ Hid (scanUp (fun x => !ltInt dk[a]! x) dk j0 i = scanUp (fun x => !ltInt dk[a]! x) dk j0 i0)) (fun vi _ => b + 1 - (intOf vi).toNat)
    case atStart => exact ⟨i0, rfl, Nat.le_refl _, ha0, hi0, HX, rfl⟩
    case round =>
      clear HX
      obtain ⟨i, rfl, hii, hai, hib, HX, HS⟩ := hrel
      obtain ⟨G, HG, hcw, hfw⟩ := HX.out.fam hsk
      go_wp2
      by_cases hij : i ≤ j0
      · go_quiet (first | (go_at_call 87; refine Calls.quiet_of_same (less_any _ _ _)))
        go_wp2
        · have hl : (!ltInt (G a) (G i)) = true := by assumption
          go_roundw
          case rel => exact ⟨i + 1, by go_num, by omega, by omega, by omega, HX.out.drewN nq, by unfold Hid; rw [← HS.out, scan_up hij (by simp only [← HG.out]; exact hl)]⟩
          case measure => simp [intOf]; omega
        · have hl : (!ltInt (G a) (G i)) = false := by assumption
          have HI : Hid (scanUp (fun x => !ltInt dk[a]! x) dk j0 i0 = i) := by unfold Hid; rw [← HS.out, scan_up0 (Or.inr (by simp only [← HG.out]; exact hl))]
          have HXq := hid (HX.out.drewN nq)
          generalize wr.drewN nq = wq at HXq ⊢
          clear HX HS hcw hfw hl HG
          have HX := HXq
          clear HXq
          go_loopw [10] (fun vj wr2 => ∃ (j : Nat), vj = .int .i64 j ∧ a ≤ j ∧ j ≤ j0 ∧ Hid (SW w0 wr2 g off dk) ∧ Hid (scanDown (fun x => ltInt dk[a]! x) dk i j = scanDown (fun x => ltInt dk[a]! x) dk i j0)) (fun vj _ => (intOf vj).toNat)
          case atStart => exact ⟨j0, rfl, hja0, Nat.le_refl _, HX, rfl⟩
          case round =>
            clear HX
            obtain ⟨j, rfl, haj, hjj, HX, HT⟩ := hrel
            obtain ⟨G, HG, hcw, hfw⟩ := HX.out.fam hsk
            go_wp2
            by_cases hij2 : i ≤ j
            · go_quiet (first | (go_at_call 87; refine Calls.quiet_of_same (less_any _ _ _)))
              go_wp2
              · have hl : ltInt (G a) (G j) = true := by assumption
                go_roundw
                case rel => exact ⟨j - 1, by congr 1; omega, by omega, by omega, HX.out.drewN nq, by unfold Hid; rw [← HT.out, scan_dn hij2 (by omega) (by simp only [← HG.out]; exact hl)]⟩
                case measure => simp [intOf]; omega
              · have hl : ltInt (G a) (G j) = false := by assumption
                have HJ : Hid (scanDown (fun x => ltInt dk[a]! x) dk i j0 = j) := by unfold Hid; rw [← HT.out, scan_dn0 (Or.inr (by simp only [← HG.out]; exact hl))]
                have HXq := hid (HX.out.drewN nq)
                generalize wr.drewN nq = wq at HXq ⊢
                clear HX HT hcw hfw hl
                obtain ⟨hcw, hfw⟩ := HXq.out.fam2 hsk HG.out
                have HL : Hid (partEqLoop ltInt a (i + 1) (j - 1) (swp dk i j) = partEqLoop ltInt a (a + 1) (b - 1) d1) := by unfold Hid; rw [← HO.out]; exact (parteq_go HI.out HJ.out (by omega)).symm

                obtain ⟨u, hu⟩ := cell_set hcw (i := i) (j := j) (by omega) (by omega) (.int .u32 (G (j)))
                have HX2 : Hid (SW w0 ((wq.setCell ⟨g, off + i, none⟩ (.int .u32 (G (j)))).setCell ⟨g, off + j, none⟩ (.int .u32 (G (i)))).drew g off (swp dk (i) (j))) := by
                  unfold Hid; rw [HG.out, HG.out]; exact (HXq.out.swap (by omega) (by omega)).drew
                go_region
                all_goals go_wp2
                clear hu hcw hfw HXq

                go_roundw
                case rel => exact ⟨i + 1, j - 1, _, by go_num, by congr 1; omega, by omega, by omega, by omega, by omega, by rw [swp_len]; exact hsk, HX2, HL⟩
                case measure => simp [intOf]; omega
            · go_quiet (first | (go_at_call 87; refine Calls.quiet_of_same (less_any _ _ _)))
              go_wp2
              have HJ : Hid (scanDown (fun x => ltInt dk[a]! x) dk i j0 = j) := by unfold Hid; rw [← HT.out, scan_dn0 (Or.inl hij2)]
              have HXq := hid (HX.out.drewN nq)
              generalize wr.drewN nq = wq at HXq ⊢
              clear HX HT hcw hfw
              obtain ⟨hcw, hfw⟩ := HXq.out.fam2 hsk HG.out
              have HL : Hid (partEqLoop ltInt a (a + 1) (b - 1) d1 = (i, dk)) := by unfold Hid; rw [← HO.out]; exact parteq_stop HI.out HJ.out (by omega)
              go_ret
              exact ⟨i, dk, rfl, HXq, by rw [← HL.out, HD.out]; rfl⟩
      · go_quiet (first | (go_at_call 87; refine Calls.quiet_of_same (less_any _ _ _)))
        go_wp2
        have HI : Hid (scanUp (fun x => !ltInt dk[a]! x) dk j0 i0 = i) := by unfold Hid; rw [← HS.out, scan_up0 (Or.inl hij)]
        have HXq := hid (HX.out.drewN nq)
        generalize wr.drewN nq = wq at HXq ⊢
        clear HX HS hcw hfw HG
        have HX := HXq
        clear HXq
        go_loopw [10] (fun vj wr2 => vj = .int .i64 j0 ∧ Hid (SW w0 wr2 g off dk)) (fun _ _ => 0)
        case atStart => exact ⟨rfl, HX⟩
        case round =>
          clear HX
          obtain ⟨rfl, HX⟩ := hrel
          obtain ⟨G, HG, hcw, hfw⟩ := HX.out.fam hsk
          go_wp2
          go_quiet (first | (go_at_call 87; refine Calls.quiet_of_same (less_any _ _ _)))
          go_wp2
          have HJ : Hid (scanDown (fun x => ltInt dk[a]! x) dk i j0 = j0) := scan_dn0 (Or.inl hij)
          have HXq := hid (HX.out.drewN nq)
          generalize wr.drewN nq = wq at HXq ⊢
          clear HX hcw hfw
          obtain ⟨hcw, hfw⟩ := HXq.out.fam2 hsk HG.out
          obtain ⟨j, hjz⟩ : ∃ j, j = j0 := ⟨_, rfl⟩
          have hij2 : ¬ i ≤ j := by omega
          have haj : a ≤ j := by omega
          have hjj : j ≤ j0 := by omega
          rw [← hjz] at hjb0 ⊢
          have HJ : Hid (scanDown (fun x => ltInt dk[a]! x) dk i j0 = j) := by unfold Hid; rw [HJ.out, hjz]
          clear hjz
          have HL : Hid (partEqLoop ltInt a (a + 1) (b - 1) d1 = (i, dk)) := by unfold Hid; rw [← HO.out]; exact parteq_stop HI.out HJ.out (by omega)
          go_ret
          exact ⟨i, dk, rfl, HXq, by rw [← HL.out, HD.out]; rfl⟩

end Go.Proofs.Ytaaoelhmanahpaa
