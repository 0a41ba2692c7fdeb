/-
  slices.Sort at uint32: a few steps of insertion.
-/
import Derived.Test.YtaaoelhmanahpaaNwSrJ
namespace Go.Proofs.Ytaaoelhmanahpaa
open Go.RowKit
open Go.Sort (swp ltInt PermIn SortedIn SWO)
set_option linter.all false

theorem ins_done {a j k : Nat} {d : Array Int} (h : Sort.Ins ltInt a j (k - 1) d) (hk : 0 < k) (hs : j ≤ a ∨ ltInt d[j]! d[j - 1]! = false) : SortedIn ltInt a k d := by
  have := h.stop Sort.swo_ltInt hs
  rwa [Nat.sub_add_cancel hk] at this
theorem ins_on {a j i : Nat} {d : Array Int} (h : Sort.Ins ltInt a j i d) (hl : ltInt d[j]! d[j - 1]! = true) (haj : a < j) (hsz : j < d.size) : Sort.Ins ltInt a (j - 1) i (swp d j (j - 1)) := by
  cases j with
  | zero => omega
  | succ j => exact h.step hl (by omega) hsz
theorem ins_above {a b j : Nat} {d d' : Array Int} (hB : Sort.Below ltInt a b d) (hb : b ≤ d.size) (hP : PermIn a b d d') (haj : a ≤ j) (hjb : j < b) (hj : 1 ≤ j) (hl : ltInt d'[j]! d'[j - 1]! = true) : a < j := by
  rcases Nat.lt_or_eq_of_le haj with h | h
  · exact h
  · subst h
    rcases hB.perm hb hP with h | h
    · omega
    · rw [h a (Nat.le_refl _) hjb] at hl; cases hl
theorem ins_begin {a k : Nat} {d : Array Int} (h : SortedIn ltInt a k d) (hk : a < k) : Sort.Ins ltInt a (k - 1) (k - 1) (swp d k (k - 1)) :=
  ⟨fun p q hp hpq hq h1 h2 => by rw [Sort.swp_other _ _ _ _ (by omega) h2, Sort.swp_other _ _ _ _ (by omega) h1]; exact h p q hp hpq (by omega), fun q h1 h2 => by omega⟩
set_option maxRecDepth 100000 in
set_option maxHeartbeats 16000000 in
theorem partial_any (w0 : World) (g off cap a b : Nat) (d : Array Int) (w : World) (x : SW w0 w g off d) (hab : a < b) (hb : b ≤ d.size) (hB : Sort.Below ltInt a b d) (hsz : d.size < 1152921504606846976) :
    Calls Try.prog 86 #[.slice (some ⟨g, off, none⟩) d.size cap, .int .i64 a, .int .i64 b] w fun e w' => ∃ (q : Bool) (d' : Array Int), e = .returned (.bool q) ∧ Hid (SW w0 w' g off d') ∧ Hid (PermIn a b d d') ∧ (q = true → SortedIn ltInt a b d') := by
  have HX := hid x
  have HB := hid hB
  clear x hB
  go_enter Try.func86, Try.ntmps86
  go_wp2
  go_loopw [7, 8, 9, 10] (fun vi vs _ _ wr => ∃ (i s : Nat) (dk : Array Int), vi = .int .i64 i ∧ vs = .int .i64 s ∧ s ≤ 5 ∧ a < i ∧ i ≤ b ∧ dk.size = d.size ∧ Hid (SW w0 wr g off dk) ∧ Hid (PermIn a b d dk) ∧ Hid (SortedIn ltInt a i dk)) (fun _ vs _ _ _ => 5 - (intOf vs).toNat)
  case atStart => exact ⟨a + 1, 0, d, by go_num, rfl, by omega, by omega, by omega, rfl, HX, Sort.permIn_refl _ _ _, fun p q hp hpq hq => by omega⟩
  case round =>
    clear HX
    obtain ⟨i, s, dk, rfl, rfl, hs5, hai, hib, hsk, HX, HP, HS⟩ := hrel
    by_cases hs : s < 5
    · go_wp2
      go_loopw [7] (fun vi wr2 => ∃ (k : Nat), vi = .int .i64 k ∧ a < k ∧ k ≤ b ∧ Hid (SW w0 wr2 g off dk) ∧ Hid (SortedIn ltInt a k dk)) (fun vi _ => b - (intOf vi).toNat)
      case atStart => exact ⟨i, rfl, hai, hib, HX, HS⟩
      case round =>
        clear HX HS hai hib
        obtain ⟨k, rfl, hak, hkb, HX, HS⟩ := hrel
        obtain ⟨G, HG, hcw, hfw⟩ := HX.out.fam hsk
        go_wp2
        by_cases hkl : k < b
        · go_quiet (first | (go_at_call 87; refine Calls.quiet_of_same (less_any _ _ _)))
          go_wp2
          · have hl : ltInt (G k) (G (k - 1)) = false := by
              have h : (!ltInt (G k) (G (k - 1))) = true := by assumption
              simpa using h
            go_roundw
            case rel => exact ⟨k + 1, by go_num, by omega, by omega, HX.out.drewN nq, HS.out.snoc Sort.swo_ltInt (by rw [← HG.out, ← HG.out]; exact hl)⟩
            case measure => simp [intOf]; omega
          all_goals first
            | (go_ret
               exact ⟨false, dk, rfl, HX.out.drewN nq, HP, fun h => by cases h⟩)
            | (
               have HN := hid (ins_begin HS.out hak)
               have hsj0 : (swp dk k (k - 1)).size = d.size := by rw [swp_len]; exact hsk
               have HP2 : Hid (PermIn a b d (swp dk k (k - 1))) := Sort.permIn_trans _ _ _ _ _ HP.out (Sort.swp_permIn _ _ _ _ _ (by omega) (by omega) (by omega) (by omega) (by omega))
               have HXq := hid (HX.out.drewN nq)
               generalize wr.drewN nq = wq at HXq ⊢
               clear HX hcw hfw
               obtain ⟨hcw, hfw⟩ := HXq.out.fam2 hsk HG.out
               have HX2 : Hid (SW w0 ((wq.setCell ⟨g, off + k, none⟩ (.int .u32 (G (k - 1)))).setCell ⟨g, off + (k - 1), none⟩ (.int .u32 (G k))).drew g off (swp dk k (k - 1))) := by
                 unfold Hid; rw [HG.out, HG.out]; exact (HXq.out.swap (by omega) (by omega)).drew
               clear HXq HG HP HS
               by_cases hb2 : k + 2 ≤ b
               · skip
                 by_cases hka : a + 2 ≤ k
                 · skip
                   go_region
                   all_goals go_wp2_with fail
                   generalize ((wq.setCell ⟨g, off + k, none⟩ (.int .u32 (G (k - 1)))).setCell ⟨g, off + (k - 1), none⟩ (.int .u32 (G k))).drew = wz at HX2 ⊢
                   clear hcw hfw

                   go_loopw [9] (fun vj wr2 => ∃ (j : Nat) (dj : Array Int), vj = .int .i64 j ∧ a ≤ j ∧ j < k ∧ dj.size = d.size ∧ Hid (SW w0 wr2 g off dj) ∧ Hid (PermIn a b d dj) ∧ Hid (Sort.Ins ltInt a j (k - 1) dj)) (fun vj _ => (intOf vj).toNat)
                   case atStart => exact ⟨k - 1, swp dk k (k - 1), by congr 1; omega, by omega, by omega, hsj0, HX2, HP2, HN⟩
                   case round =>
                     clear HX2 HP2 HN hsj0
                     obtain ⟨j, dj, rfl, haj, hjk, hsj, HX, HP, HN⟩ := hrel
                     by_cases hj1 : 1 ≤ j
                     · obtain ⟨G, HG, hcw, hfw⟩ := HX.out.fam hsj
                       go_wp2
                       go_quiet (first | (go_at_call 87; refine Calls.quiet_of_same (less_any _ _ _)))
                       go_wp2
                       · have hl : ltInt (G j) (G (j - 1)) = false := by
                           have h : (!ltInt (G j) (G (j - 1))) = true := by assumption
                           simpa using h
                         have HSO : Hid (SortedIn ltInt a k dj) := ins_done HN.out (by omega) (Or.inr (by rw [← HG.out, ← HG.out]; exact hl))
                         have HXq := hid (HX.out.drewN nq)
                         generalize wr.drewN nq = wq at HXq ⊢
                         clear HX hcw hfw hl HN HG
                         have HX := HXq
                         clear HXq hj1 haj hjk
                         · skip
                           go_loopw [10] (fun vj wr2 => ∃ (j : Nat) (dj : Array Int), vj = .int .i64 j ∧ k < j ∧ j ≤ b ∧ dj.size = d.size ∧ Hid (SW w0 wr2 g off dj) ∧ Hid (PermIn a b d dj) ∧ Hid (SortedIn ltInt a k dj)) (fun vj _ => b - (intOf vj).toNat)
                           case atStart => exact ⟨k + 1, dj, by go_num, by omega, by omega, hsj, HX, HP, HSO⟩
                           case round =>
                             clear HX HP HSO hsj
                             obtain ⟨j, dj, rfl, hkj, hjb, hsj, HX, HP, HSO⟩ := hrel
                             by_cases hjl : j < b
                             · obtain ⟨G, HG, hcw, hfw⟩ := HX.out.fam hsj
                               go_wp2
                               go_quiet (first | (go_at_call 87; refine Calls.quiet_of_same (less_any _ _ _)))
                               go_wp2
                               · have HXq := hid (HX.out.drewN nq)
                                 generalize wr.drewN nq = wq at HXq ⊢
                                 clear HX hcw hfw
                                 have HX := HXq
                                 clear HXq HG
                                 go_roundw
                                 case rel => exact ⟨k, s + 1, dj, rfl, by go_num, by omega, by omega, by omega, hsj, HX, HP, HSO⟩
                                 case measure => simp [intOf]; omega

                               · have HXq := hid (HX.out.drewN nq)
                                 generalize wr.drewN nq = wq at HXq ⊢
                                 clear HX hcw hfw
                                 obtain ⟨hcw, hfw⟩ := HXq.out.fam2 hsj HG.out
                                 have HX2 : Hid (SW w0 ((wq.setCell ⟨g, off + j, none⟩ (.int .u32 (G (j - 1)))).setCell ⟨g, off + (j - 1), none⟩ (.int .u32 (G j))).drew g off (swp dj j (j - 1))) := by
                                   unfold Hid; rw [HG.out, HG.out]; exact (HXq.out.swap (by omega) (by omega)).drew
                                 go_region
                                 all_goals go_wp2
                                 go_roundw
                                 case rel => exact ⟨j + 1, swp dj j (j - 1), by go_num, by omega, by omega, by rw [swp_len]; exact hsj, HX2, Sort.permIn_trans _ _ _ _ _ HP.out (Sort.swp_permIn _ _ _ _ _ (by omega) (by omega) (by omega) (by omega) (by omega)), HSO.out.congrA fun p hp => Sort.swp_other _ _ _ _ (by omega) (by omega)⟩
                                 case measure => simp [intOf]; omega
                             · go_wp2
                               go_roundw
                               case rel => exact ⟨k, s + 1, dj, rfl, by go_num, by omega, by omega, by omega, hsj, HX, HP, HSO⟩
                               case measure => simp [intOf]; omega

                       · have hl : ltInt (G j) (G (j - 1)) = true := by
                           have h : (!ltInt (G j) (G (j - 1))) = false := by assumption
                           simpa using h
                         have haj2 : a < j := ins_above HB.out hb HP.out haj (by omega) hj1 (by rw [← HG.out, ← HG.out]; exact hl)
                         have HN2 : Hid (Sort.Ins ltInt a (j - 1) (k - 1) (swp dj j (j - 1))) := ins_on HN.out (by rw [← HG.out, ← HG.out]; exact hl) haj2 (by omega)
                         have HXq := hid (HX.out.drewN nq)
                         generalize wr.drewN nq = wq at HXq ⊢
                         clear HX hcw hfw hl
                         obtain ⟨hcw, hfw⟩ := HXq.out.fam2 hsj HG.out
                         have HX2 : Hid (SW w0 ((wq.setCell ⟨g, off + j, none⟩ (.int .u32 (G (j - 1)))).setCell ⟨g, off + (j - 1), none⟩ (.int .u32 (G j))).drew g off (swp dj j (j - 1))) := by
                           unfold Hid; rw [HG.out, HG.out]; exact (HXq.out.swap (by omega) (by omega)).drew
                         go_region
                         all_goals go_wp2
                         go_roundw
                         case rel => exact ⟨j - 1, swp dj j (j - 1), by congr 1; omega, by omega, by omega, by rw [swp_len]; exact hsj, HX2, Sort.permIn_trans _ _ _ _ _ HP.out (Sort.swp_permIn _ _ _ _ _ (by omega) (by omega) (by omega) (by omega) (by omega)), HN2⟩
                         case measure => simp [intOf]; omega
                     · have HSO : Hid (SortedIn ltInt a k dj) := ins_done HN.out (by omega) (Or.inl (by omega))
                       go_wp2
                       clear HN hj1 haj hjk
                       · skip
                         go_loopw [10] (fun vj wr2 => ∃ (j : Nat) (dj : Array Int), vj = .int .i64 j ∧ k < j ∧ j ≤ b ∧ dj.size = d.size ∧ Hid (SW w0 wr2 g off dj) ∧ Hid (PermIn a b d dj) ∧ Hid (SortedIn ltInt a k dj)) (fun vj _ => b - (intOf vj).toNat)
                         case atStart => exact ⟨k + 1, dj, by go_num, by omega, by omega, hsj, HX, HP, HSO⟩
                         case round =>
                           clear HX HP HSO hsj
                           obtain ⟨j, dj, rfl, hkj, hjb, hsj, HX, HP, HSO⟩ := hrel
                           by_cases hjl : j < b
                           · obtain ⟨G, HG, hcw, hfw⟩ := HX.out.fam hsj
                             go_wp2
                             go_quiet (first | (go_at_call 87; refine Calls.quiet_of_same (less_any _ _ _)))
                             go_wp2
                             · have HXq := hid (HX.out.drewN nq)
                               generalize wr.drewN nq = wq at HXq ⊢
                               clear HX hcw hfw
                               have HX := HXq
                               clear HXq HG
                               go_roundw
                               case rel => exact ⟨k, s + 1, dj, rfl, by go_num, by omega, by omega, by omega, hsj, HX, HP, HSO⟩
                               case measure => simp [intOf]; omega

                             · have HXq := hid (HX.out.drewN nq)
                               generalize wr.drewN nq = wq at HXq ⊢
                               clear HX hcw hfw
                               obtain ⟨hcw, hfw⟩ := HXq.out.fam2 hsj HG.out
                               have HX2 : Hid (SW w0 ((wq.setCell ⟨g, off + j, none⟩ (.int .u32 (G (j - 1)))).setCell ⟨g, off + (j - 1), none⟩ (.int .u32 (G j))).drew g off (swp dj j (j - 1))) := by
                                 unfold Hid; rw [HG.out, HG.out]; exact (HXq.out.swap (by omega) (by omega)).drew
                               go_region
                               all_goals go_wp2
                               go_roundw
                               case rel => exact ⟨j + 1, swp dj j (j - 1), by go_num, by omega, by omega, by rw [swp_len]; exact hsj, HX2, Sort.permIn_trans _ _ _ _ _ HP.out (Sort.swp_permIn _ _ _ _ _ (by omega) (by omega) (by omega) (by omega) (by omega)), HSO.out.congrA fun p hp => Sort.swp_other _ _ _ _ (by omega) (by omega)⟩
                               case measure => simp [intOf]; omega
                           · go_wp2
                             go_roundw
                             case rel => exact ⟨k, s + 1, dj, rfl, by go_num, by omega, by omega, by omega, hsj, HX, HP, HSO⟩
                             case measure => simp [intOf]; omega

                 · skip
                   go_region
                   all_goals go_wp2_with fail
                   generalize ((wq.setCell ⟨g, off + k, none⟩ (.int .u32 (G (k - 1)))).setCell ⟨g, off + (k - 1), none⟩ (.int .u32 (G k))).drew = wz at HX2 ⊢
                   clear hcw hfw

                   have HSO : Hid (SortedIn ltInt a k (swp dk k (k - 1))) := fun p q hp hpq hq => by omega
                   obtain ⟨dj, hdj⟩ : ∃ z, z = swp dk k (k - 1) := ⟨_, rfl⟩
                   rw [← hdj] at HSO HX2 HP2 hsj0
                   have HX := HX2
                   have HP := HP2
                   have hsj := hsj0
                   clear hdj HX2 HP2 hsj0 HN
                   · skip
                     go_loopw [10] (fun vj wr2 => ∃ (j : Nat) (dj : Array Int), vj = .int .i64 j ∧ k < j ∧ j ≤ b ∧ dj.size = d.size ∧ Hid (SW w0 wr2 g off dj) ∧ Hid (PermIn a b d dj) ∧ Hid (SortedIn ltInt a k dj)) (fun vj _ => b - (intOf vj).toNat)
                     case atStart => exact ⟨k + 1, dj, by go_num, by omega, by omega, hsj, HX, HP, HSO⟩
                     case round =>
                       clear HX HP HSO hsj
                       obtain ⟨j, dj, rfl, hkj, hjb, hsj, HX, HP, HSO⟩ := hrel
                       by_cases hjl : j < b
                       · obtain ⟨G, HG, hcw, hfw⟩ := HX.out.fam hsj
                         go_wp2
                         go_quiet (first | (go_at_call 87; refine Calls.quiet_of_same (less_any _ _ _)))
                         go_wp2
                         · have HXq := hid (HX.out.drewN nq)
                           generalize wr.drewN nq = wq at HXq ⊢
                           clear HX hcw hfw
                           have HX := HXq
                           clear HXq HG
                           go_roundw
                           case rel => exact ⟨k, s + 1, dj, rfl, by go_num, by omega, by omega, by omega, hsj, HX, HP, HSO⟩
                           case measure => simp [intOf]; omega

                         · have HXq := hid (HX.out.drewN nq)
                           generalize wr.drewN nq = wq at HXq ⊢
                           clear HX hcw hfw
                           obtain ⟨hcw, hfw⟩ := HXq.out.fam2 hsj HG.out
                           have HX2 : Hid (SW w0 ((wq.setCell ⟨g, off + j, none⟩ (.int .u32 (G (j - 1)))).setCell ⟨g, off + (j - 1), none⟩ (.int .u32 (G j))).drew g off (swp dj j (j - 1))) := by
                             unfold Hid; rw [HG.out, HG.out]; exact (HXq.out.swap (by omega) (by omega)).drew
                           go_region
                           all_goals go_wp2
                           go_roundw
                           case rel => exact ⟨j + 1, swp dj j (j - 1), by go_num, by omega, by omega, by rw [swp_len]; exact hsj, HX2, Sort.permIn_trans _ _ _ _ _ HP.out (Sort.swp_permIn _ _ _ _ _ (by omega) (by omega) (by omega) (by omega) (by omega)), HSO.out.congrA fun p hp => Sort.swp_other _ _ _ _ (by omega) (by omega)⟩
                           case measure => simp [intOf]; omega
                       · go_wp2
                         go_roundw
                         case rel => exact ⟨k, s + 1, dj, rfl, by go_num, by omega, by omega, by omega, hsj, HX, HP, HSO⟩
                         case measure => simp [intOf]; omega

               · have hka : a + 2 ≤ k := by omega
                 go_region
                 all_goals go_wp2_with fail
                 generalize ((wq.setCell ⟨g, off + k, none⟩ (.int .u32 (G (k - 1)))).setCell ⟨g, off + (k - 1), none⟩ (.int .u32 (G k))).drew = wz at HX2 ⊢
                 clear hcw hfw

                 go_loopw [9] (fun vj wr2 => ∃ (j : Nat) (dj : Array Int), vj = .int .i64 j ∧ a ≤ j ∧ j < k ∧ dj.size = d.size ∧ Hid (SW w0 wr2 g off dj) ∧ Hid (PermIn a b d dj) ∧ Hid (Sort.Ins ltInt a j (k - 1) dj)) (fun vj _ => (intOf vj).toNat)
                 case atStart => exact ⟨k - 1, swp dk k (k - 1), by congr 1; omega, by omega, by omega, hsj0, HX2, HP2, HN⟩
                 case round =>
                   clear HX2 HP2 HN hsj0
                   obtain ⟨j, dj, rfl, haj, hjk, hsj, HX, HP, HN⟩ := hrel
                   by_cases hj1 : 1 ≤ j
                   · obtain ⟨G, HG, hcw, hfw⟩ := HX.out.fam hsj
                     go_wp2
                     go_quiet (first | (go_at_call 87; refine Calls.quiet_of_same (less_any _ _ _)))
                     go_wp2
                     · have hl : ltInt (G j) (G (j - 1)) = false := by
                         have h : (!ltInt (G j) (G (j - 1))) = true := by assumption
                         simpa using h
                       have HSO : Hid (SortedIn ltInt a k dj) := ins_done HN.out (by omega) (Or.inr (by rw [← HG.out, ← HG.out]; exact hl))
                       have HXq := hid (HX.out.drewN nq)
                       generalize wr.drewN nq = wq at HXq ⊢
                       clear HX hcw hfw hl HN HG
                       have HX := HXq
                       clear HXq hj1 haj hjk
                       go_roundw
                       case rel => exact ⟨k, s + 1, dj, rfl, by go_num, by omega, by omega, by omega, hsj, HX, HP, HSO⟩
                       case measure => simp [intOf]; omega

                     · have hl : ltInt (G j) (G (j - 1)) = true := by
                         have h : (!ltInt (G j) (G (j - 1))) = false := by assumption
                         simpa using h
                       have haj2 : a < j := ins_above HB.out hb HP.out haj (by omega) hj1 (by rw [← HG.out, ← HG.out]; exact hl)
                       have HN2 : Hid (Sort.Ins ltInt a (j - 1) (k - 1) (swp dj j (j - 1))) := ins_on HN.out (by rw [← HG.out, ← HG.out]; exact hl) haj2 (by omega)
                       have HXq := hid (HX.out.drewN nq)
                       generalize wr.drewN nq = wq at HXq ⊢
                       clear HX hcw hfw hl
                       obtain ⟨hcw, hfw⟩ := HXq.out.fam2 hsj HG.out
                       have HX2 : Hid (SW w0 ((wq.setCell ⟨g, off + j, none⟩ (.int .u32 (G (j - 1)))).setCell ⟨g, off + (j - 1), none⟩ (.int .u32 (G j))).drew g off (swp dj j (j - 1))) := by
                         unfold Hid; rw [HG.out, HG.out]; exact (HXq.out.swap (by omega) (by omega)).drew
                       go_region
                       all_goals go_wp2
                       go_roundw
                       case rel => exact ⟨j - 1, swp dj j (j - 1), by congr 1; omega, by omega, by omega, by rw [swp_len]; exact hsj, HX2, Sort.permIn_trans _ _ _ _ _ HP.out (Sort.swp_permIn _ _ _ _ _ (by omega) (by omega) (by omega) (by omega) (by omega)), HN2⟩
                       case measure => simp [intOf]; omega
                   · have HSO : Hid (SortedIn ltInt a k dj) := ins_done HN.out (by omega) (Or.inl (by omega))
                     go_wp2
                     clear HN hj1 haj hjk
                     go_roundw
                     case rel => exact ⟨k, s + 1, dj, rfl, by go_num, by omega, by omega, by omega, hsj, HX, HP, HSO⟩
                     case measure => simp [intOf]; omega
              )
        · have hkb2 : k = b := by omega
          subst hkb2
          go_quiet (first | (go_at_call 87; refine Calls.quiet_of_same (less_any _ _ _)))
          go_wp2
          go_ret
          exact ⟨true, dk, rfl, HX.out.drewN nq, HP, fun _ => HS.out⟩
    · go_wp2
      go_ret
      exact ⟨false, dk, rfl, HX, HP, fun h => by cases h⟩
end Go.Proofs.Ytaaoelhmanahpaa
