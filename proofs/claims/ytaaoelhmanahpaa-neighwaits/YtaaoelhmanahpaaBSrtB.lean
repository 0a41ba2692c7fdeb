/-
  slices.Sort at uint32: the heap, and the turning round.
-/
import Derived.Test.YtaaoelhmanahpaaBSrtA
import Derived.BigRegion
namespace Go.Proofs.Ytaaoelhmanahpaa
open Go.RowKit
open Go.Sort (swp siftDown heapBuild heapPop ltInt PermIn SortedIn SWO)
set_option linter.all false

theorem SW.fam2 {w0 w : World} {g off n : Nat} {d : Array Int} (x : SW w0 w g off d) (hn : d.size = n) {G : Nat → Int} (hG : ∀ t, G t = d[t]!) : (∀ t, t < n → w.cell? ⟨g, off + t, none⟩ = some (.int .u32 (G t))) ∧ ∀ t, t < n → w.frozen? ⟨g, off + t, none⟩ = false :=
  ⟨fun t ht => by rw [hG]; exact x.cell t (by omega), fun t ht => x.free t (by omega)⟩
section
variable {lt : Int → Int → Bool} {hi f r : Nat} {d : Array Int}
theorem sift_end (h : ¬ 2 * r + 1 < hi) : siftDown lt hi f r d = d := by rw [siftDown, dif_pos (by omega)]
/-- c is the child that is looked at. -/
def Child (lt : Int → Int → Bool) (hi f r c : Nat) (d : Array Int) : Prop :=
  (c = 2 * r + 2 ∧ c < hi ∧ lt d[f + (2 * r + 1)]! d[f + (2 * r + 1) + 1]! = true) ∨ (c = 2 * r + 1 ∧ c < hi ∧ (2 * r + 2 < hi → lt d[f + (2 * r + 1)]! d[f + (2 * r + 1) + 1]! = false))
theorem Child.stop {c : Nat} (h : Child lt hi f r c d) (hl : lt d[f + r]! d[f + c]! = false) : siftDown lt hi f r d = d := by
  rcases h with ⟨rfl, h1, h2⟩ | ⟨rfl, h1, h2⟩
  · rw [siftDown, dif_neg (by omega), if_pos (by simp [h2]; omega), if_pos (by simp [hl])]
  · rw [siftDown, dif_neg (by omega)]
    by_cases h3 : 2 * r + 2 < hi
    · rw [if_neg (by simp [h2 h3]), if_pos (by simp [hl])]
    · rw [if_neg (by simp; omega), if_pos (by simp [hl])]
theorem Child.go {c : Nat} (h : Child lt hi f r c d) (hl : lt d[f + r]! d[f + c]! = true) : siftDown lt hi f r d = siftDown lt hi f c (swp d (f + r) (f + c)) := by
  rcases h with ⟨rfl, h1, h2⟩ | ⟨rfl, h1, h2⟩
  · rw [siftDown, dif_neg (by omega), if_pos (by simp [h2]; omega), if_neg (by simp [hl]), dif_pos h1]
  · rw [siftDown, dif_neg (by omega)]
    by_cases h3 : 2 * r + 2 < hi
    · rw [if_neg (by simp [h2 h3]), if_neg (by simp [hl])]
    · rw [if_neg (by simp; omega), if_neg (by simp [hl])]
theorem Child.at1 {B : Nat} (hB : B = 2 * r + 1) {G : Nat → Int} (hG : ∀ t, G t = d[t]!) (hl : lt (G (f + B)) (G (f + B + 1)) = true) (h2 : B + 1 < hi) : Child lt hi f r (B + 1) d := by
  subst hB; simp only [hG] at hl
  exact Or.inl ⟨by omega, by omega, hl⟩
theorem Child.at0 {B : Nat} (hB : B = 2 * r + 1) {G : Nat → Int} (hG : ∀ t, G t = d[t]!) (hl : B + 1 < hi → lt (G (f + B)) (G (f + B + 1)) = false) (h2 : B < hi) : Child lt hi f r B d := by
  subst hB; simp only [hG] at hl
  exact Or.inr ⟨rfl, h2, fun h => hl (by omega)⟩
end
set_option maxHeartbeats 4000000 in
theorem sift_any (w0 : World) (g off cap lo hi f : Nat) (d : Array Int) (w : World) (x : SW w0 w g off d) (hb : f + hi ≤ d.size) (hlo : lo ≤ hi) (hsz : d.size < 1152921504606846976) :
    Calls Try.prog 92 #[.slice (some ⟨g, off, none⟩) d.size cap, .int .i64 lo, .int .i64 hi, .int .i64 f] w fun e w' => e = .returned (.tuple #[]) ∧ Hid (SW w0 w' g off (siftDown ltInt hi f lo d)) := by
  have HX := hid x
  clear x
  go_enter Try.func92, Try.ntmps92
  go_wp2
  go_loopw [8, 9] (fun vi _ wr => ∃ (r : Nat) (dk : Array Int), vi = .int .i64 r ∧ r ≤ hi ∧ dk.size = d.size ∧ Hid (SW w0 wr g off dk) ∧ Hid (siftDown ltInt hi f r dk = siftDown ltInt hi f lo d)) (fun vi _ _ => hi - (intOf vi).toNat)
  case atStart => exact ⟨lo, d, rfl, hlo, rfl, HX, rfl⟩
  case round =>
    clear HX
    obtain ⟨r, dk, rfl, hr, hsk, HX, HO⟩ := hrel
    obtain ⟨G, HG, hcw, hfw⟩ := HX.out.fam hsk
    obtain ⟨B, hB⟩ : ∃ B, B = 2 * r + 1 := ⟨_, rfl⟩
    have HB := hid hB
    clear hB
    by_cases hlt : 2 * r + 1 < hi
    · go_wp2
      rw [show (2 * (r : Int) + 1) = (B : Int) from by have := HB.out; omega]
      have hbr : r < B := by have := HB.out; omega
      have hbh : B < hi := by have := HB.out; omega
      have hbs : B + 1 < 1152921504606846976 := by omega
      have hfs : f + B + 1 < 1152921504606846976 := by omega
      clear hlt
      have hw1 : IntKind.i64.wrap ((B : Int) + 1) = (B : Int) + 1 := IntWalk.i64_in _ (by omega)
      by_cases h2 : B + 1 < hi
      · have hd : decide ((B : Int) + 1 < (hi : Int)) = true := by simp; omega
        go_quiet (first | (go_at_call 87; refine Calls.quiet_of_same (less_any _ _ _)))
        go_wp2
        · have hl0 : ltInt (G (f + B)) (G (f + B + 1)) = true := by assumption
          have HCH := hid (Child.at1 HB.out HG.out hl0 h2)
          rw [show ((B : Int) + 1) = ((B + 1 : Nat) : Int) from by omega]
          obtain ⟨c, hc⟩ : ∃ c, c = B + 1 := ⟨_, rfl⟩
          rw [← hc] at HCH ⊢
          have hch : c < hi := by omega
          have hrc : r < c := by omega
          clear hw1 hd h2 hbr hbh hbs hfs HB hl0 hc
          have HXq := hid (HX.out.drewN nq)
          generalize wr.drewN nq = wq at HXq ⊢
          clear HX hcw hfw
          obtain ⟨hcw, hfw⟩ := HXq.out.fam2 hsk HG.out
          go_quiet (first | (go_at_call 87; refine Calls.quiet_of_same (less_any _ _ _)))
          go_wp2
          · have hl : ltInt (G (f + r)) (G (f + c)) = false := by
              have h : (!ltInt (G (f + r)) (G (f + c))) = true := by assumption
              simpa using h
            (try simp only [Exit.inBlock, Exit.then])
            refine bodyPost_ret (results_none rfl _ _ _) rfl ?_
            refine ⟨rfl, ?_⟩
            unfold Hid
            rw [← HO.out, HCH.out.stop (by rw [← HG.out, ← HG.out]; exact hl)]
            exact HXq.out.drewN _
          · have hl : ltInt (G (f + r)) (G (f + c)) = true := by
              have h : (!ltInt (G (f + r)) (G (f + c))) = false := by assumption
              simpa using h
            have HXr := hid (HXq.out.drewN nq)
            generalize wq.drewN nq = wz at HXr ⊢
            clear HXq hcw hfw
            obtain ⟨hcw, hfw⟩ := HXr.out.fam2 hsk HG.out
            go_region
            all_goals go_wp2
            go_roundw
            case rel =>
              refine ⟨c, swp dk (f + r) (f + c), rfl, by omega, by rw [swp_len]; exact hsk, ?_, ?_⟩
              · have := (HXr.out.drewN 1).swap (i := f + r) (j := f + c) (by omega) (by omega)
                rw [HG.out, HG.out]; exact this
              · unfold Hid; rw [← HO.out, HCH.out.go (by rw [← HG.out, ← HG.out]; exact hl)]
            case measure => simp [intOf]; omega

        · have hl0 : ltInt (G (f + B)) (G (f + B + 1)) = false := by assumption
          have HCH := hid (Child.at0 HB.out HG.out (fun _ => hl0) hbh)
          obtain ⟨c, hc⟩ : ∃ c, c = B := ⟨_, rfl⟩
          rw [← hc] at HCH ⊢
          have hch : c < hi := by omega
          have hrc : r < c := by omega
          clear hw1 hd h2 hbr hbh hbs hfs HB hl0 hc
          have HXq := hid (HX.out.drewN nq)
          generalize wr.drewN nq = wq at HXq ⊢
          clear HX hcw hfw
          obtain ⟨hcw, hfw⟩ := HXq.out.fam2 hsk HG.out
          go_quiet (first | (go_at_call 87; refine Calls.quiet_of_same (less_any _ _ _)))
          go_wp2
          · have hl : ltInt (G (f + r)) (G (f + c)) = false := by
              have h : (!ltInt (G (f + r)) (G (f + c))) = true := by assumption
              simpa using h
            (try simp only [Exit.inBlock, Exit.then])
            refine bodyPost_ret (results_none rfl _ _ _) rfl ?_
            refine ⟨rfl, ?_⟩
            unfold Hid
            rw [← HO.out, HCH.out.stop (by rw [← HG.out, ← HG.out]; exact hl)]
            exact HXq.out.drewN _
          · have hl : ltInt (G (f + r)) (G (f + c)) = true := by
              have h : (!ltInt (G (f + r)) (G (f + c))) = false := by assumption
              simpa using h
            have HXr := hid (HXq.out.drewN nq)
            generalize wq.drewN nq = wz at HXr ⊢
            clear HXq hcw hfw
            obtain ⟨hcw, hfw⟩ := HXr.out.fam2 hsk HG.out
            go_region
            all_goals go_wp2
            go_roundw
            case rel =>
              refine ⟨c, swp dk (f + r) (f + c), rfl, by omega, by rw [swp_len]; exact hsk, ?_, ?_⟩
              · have := (HXr.out.drewN 1).swap (i := f + r) (j := f + c) (by omega) (by omega)
                rw [HG.out, HG.out]; exact this
              · unfold Hid; rw [← HO.out, HCH.out.go (by rw [← HG.out, ← HG.out]; exact hl)]
            case measure => simp [intOf]; omega

      · have hd : decide ((B : Int) + 1 < (hi : Int)) = false := by simp; omega
        go_quiet (first | (go_at_call 87; refine Calls.quiet_of_same (less_any _ _ _)))
        go_wp2
        have HCH := hid (Child.at0 (lt := ltInt) (f := f) HB.out HG.out (fun h => absurd h h2) hbh)
        obtain ⟨c, hc⟩ : ∃ c, c = B := ⟨_, rfl⟩
        rw [← hc] at HCH ⊢
        have hch : c < hi := by omega
        have hrc : r < c := by omega
        clear hw1 hd h2 hbr hbh hbs hfs HB hc
        have HXq := hid (HX.out.drewN nq)
        generalize wr.drewN nq = wq at HXq ⊢
        clear HX hcw hfw
        obtain ⟨hcw, hfw⟩ := HXq.out.fam2 hsk HG.out
        go_quiet (first | (go_at_call 87; refine Calls.quiet_of_same (less_any _ _ _)))
        go_wp2
        · have hl : ltInt (G (f + r)) (G (f + c)) = false := by
            have h : (!ltInt (G (f + r)) (G (f + c))) = true := by assumption
            simpa using h
          (try simp only [Exit.inBlock, Exit.then])
          refine bodyPost_ret (results_none rfl _ _ _) rfl ?_
          refine ⟨rfl, ?_⟩
          unfold Hid
          rw [← HO.out, HCH.out.stop (by rw [← HG.out, ← HG.out]; exact hl)]
          exact HXq.out.drewN _
        · have hl : ltInt (G (f + r)) (G (f + c)) = true := by
            have h : (!ltInt (G (f + r)) (G (f + c))) = false := by assumption
            simpa using h
          have HXr := hid (HXq.out.drewN nq)
          generalize wq.drewN nq = wz at HXr ⊢
          clear HXq hcw hfw
          obtain ⟨hcw, hfw⟩ := HXr.out.fam2 hsk HG.out
          go_region
          all_goals go_wp2
          go_roundw
          case rel =>
            refine ⟨c, swp dk (f + r) (f + c), rfl, by omega, by rw [swp_len]; exact hsk, ?_, ?_⟩
            · have := (HXr.out.drewN 1).swap (i := f + r) (j := f + c) (by omega) (by omega)
              rw [HG.out, HG.out]; exact this
            · unfold Hid; rw [← HO.out, HCH.out.go (by rw [← HG.out, ← HG.out]; exact hl)]
          case measure => simp [intOf]; omega

    · have HF : Hid (siftDown ltInt hi f lo d = dk) := by unfold Hid; rw [← HO.out]; exact sift_end hlt
      go_wp2
      go_end0
      exact ⟨rfl, by rw [HF.out]; exact HX⟩
end Go.Proofs.Ytaaoelhmanahpaa
