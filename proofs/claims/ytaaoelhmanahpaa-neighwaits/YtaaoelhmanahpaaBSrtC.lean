/-
  slices.Sort at uint32: by the heap; turning round.
-/
import Derived.Test.YtaaoelhmanahpaaBSrtB
namespace Go.Proofs.Ytaaoelhmanahpaa
open Go.RowKit
open Go.Sort (swp siftDown heapBuild heapPop ltInt PermIn SortedIn SWO)
set_option linter.all false

theorem sift_len {lt : Int → Int → Bool} {hi f : Nat} : ∀ (n r : Nat) (d : Array Int), hi - r ≤ n → (siftDown lt hi f r d).size = d.size
  | 0, r, d, h => by rw [siftDown, dif_pos (by omega)]
  | n + 1, r, d, h => by
    rw [siftDown]
    split
    · rfl
    · split
      · split
        · rfl
        · split
          · rw [sift_len n _ _ (by omega), swp_len]
          · rfl
      · split
        · rfl
        · rw [sift_len n _ _ (by omega), swp_len]
theorem sift_size (lt : Int → Int → Bool) (hi f r : Nat) (d : Array Int) : (siftDown lt hi f r d).size = d.size := sift_len _ r d (Nat.le_refl _)
set_option maxHeartbeats 4000000 in
theorem heap_any (w0 : World) (g off cap a b : Nat) (d : Array Int) (w : World) (x : SW w0 w g off d) (hab : a < b) (hb : b ≤ d.size) (hsz : d.size < 1152921504606846976) :
    Calls Try.prog 82 #[.slice (some ⟨g, off, none⟩) d.size cap, .int .i64 a, .int .i64 b] w fun e w' => e = .returned (.tuple #[]) ∧ Hid (SW w0 w' g off (Sort.heapSort ltInt d a b)) := by
  have HX := hid x
  clear x
  obtain ⟨hi, hhi⟩ : ∃ hi, hi = b - a := ⟨_, rfl⟩
  have HHI := hid hhi
  have hhp : 0 < hi := by omega
  have hhd : a + hi ≤ d.size := by omega
  have hbi : (b : Int) - a = hi := by omega
  clear hhi
  obtain ⟨k0, hk0⟩ : ∃ k0, k0 = (hi - 1) / 2 := ⟨_, rfl⟩
  have hq : ((hi : Int) - 1) / 2 = k0 := by omega
  have HE : Hid (Sort.heapSort ltInt d a b = heapPop ltInt a hi (heapBuild ltInt hi a (k0 + 1) d)) := by unfold Hid Sort.heapSort; rw [hk0, HHI.out]
  have hkh : k0 + 1 ≤ hi := by omega
  have HQ := hid hq
  clear hk0 hq
  go_enter Try.func82, Try.ntmps82
  go_wp2
  simp only [hbi, HQ.out]
  go_loopw [9] (fun vi wr => ∃ (k : Nat) (dk : Array Int), vi = .int .i64 ((k : Int) - 1) ∧ k ≤ hi ∧ dk.size = d.size ∧ Hid (SW w0 wr g off dk) ∧ Hid (heapBuild ltInt hi a k dk = heapBuild ltInt hi a (k0 + 1) d)) (fun vi _ => (intOf vi + 1).toNat)
  case atStart => exact ⟨k0 + 1, d, by congr 1; omega, hkh, rfl, HX, rfl⟩
  case round =>
    clear HX
    obtain ⟨k, dk, rfl, hk, hsk, HX, HO⟩ := hrel
    cases k with
    | succ i =>
      rw [show (((i + 1 : Nat) : Int) - 1) = (i : Int) from by omega]
      have hkd : a + hi ≤ dk.size := by omega
      have HS := hid (fun w1 (y : SW w0 w1 g off dk) => sift_any w0 g off cap i hi a dk w1 y hkd (by omega) (by omega))
      rw [hsk] at HS
      go_wp2_with (first | (go_at_call 92; refine (HS.out _ HX.out).mono ?_; rintro e w1 ⟨rfl, HX1⟩))
      go_roundw
      case rel => exact ⟨i, _, rfl, by omega, by rw [sift_size]; exact hsk, HX1, HO⟩
      case measure => simp [intOf]
    | zero =>
      rw [show (((0 : Nat) : Int) - 1) = (-1 : Int) from by omega]
      have HE2 : Hid (Sort.heapSort ltInt d a b = heapPop ltInt a hi dk) := by unfold Hid; rw [HE.out, ← HO.out]; rfl
      clear HE HO
      go_wp2
      go_loopw [10] (fun vi wr => ∃ (k : Nat) (dk : Array Int), vi = .int .i64 ((k : Int) - 1) ∧ k ≤ hi ∧ dk.size = d.size ∧ Hid (SW w0 wr g off dk) ∧ Hid (heapPop ltInt a k dk = Sort.heapSort ltInt d a b)) (fun vi _ => (intOf vi + 1).toNat)
      case atStart => exact ⟨hi, dk, rfl, Nat.le_refl _, hsk, HX, HE2.out.symm⟩
      case round =>
        clear HX HE2 hsk
        obtain ⟨k, dk, rfl, hk, hsk, HX, HO⟩ := hrel
        cases k with
        | succ i =>
          rw [show (((i + 1 : Nat) : Int) - 1) = (i : Int) from by omega]
          obtain ⟨G, HG, hcw, hfw⟩ := HX.out.fam hsk
          obtain ⟨u, hu⟩ : ∃ u, (wr.setCell ⟨g, off + a, none⟩ (.int .u32 (G (a + i)))).cell? ⟨g, off + (a + i), none⟩ = some u := by
            cases i with
            | zero => exact ⟨_, World.cell?_setCell_same _ _ _ (hcw a (by omega))⟩
            | succ i => exact ⟨_, by rw [World.cell?_setCell_other (h := by intro h; injection h with _ h; omega)]; exact hcw (a + (i + 1)) (by omega)⟩
          have HX2 : Hid (SW w0 ((wr.setCell ⟨g, off + a, none⟩ (.int .u32 (G (a + i)))).setCell ⟨g, off + (a + i), none⟩ (.int .u32 (G a))).drew g off (swp dk a (a + i))) := by
            unfold Hid; rw [HG.out, HG.out]; exact (HX.out.swap (by omega) (by omega)).drew
          have HS : Hid (∀ w1, SW w0 w1 g off (swp dk a (a + i)) → Calls Try.prog 92 #[.slice (some ⟨g, off, none⟩) (swp dk a (a + i)).size cap, .int .i64 0, .int .i64 i, .int .i64 a] w1 fun e w' => e = .returned (.tuple #[]) ∧ Hid (SW w0 w' g off (siftDown ltInt i a 0 (swp dk a (a + i))))) := fun w1 y => sift_any w0 g off cap 0 i a _ w1 y (by rw [swp_len]; omega) (Nat.zero_le _) (by rw [swp_len]; omega)
          rw [swp_len, hsk] at HS
          clear HX HG
          go_wp2
          go_region
          all_goals go_wp2_with (first | (go_at_call 92; refine (HS.out _ HX2.out).mono ?_; rintro e w1 ⟨rfl, HX1⟩))
          go_roundw
          case rel => exact ⟨i, _, rfl, by omega, by rw [sift_size, swp_len]; exact hsk, HX1, HO⟩
          case measure => simp [intOf]
        | zero =>
          rw [show (((0 : Nat) : Int) - 1) = (-1 : Int) from by omega]
          go_wp2
          go_end0
          exact ⟨rfl, by rw [← HO.out]; exact HX⟩
set_option maxHeartbeats 4000000 in
theorem reverse_any (w0 : World) (g off cap a b : Nat) (d : Array Int) (w : World) (x : SW w0 w g off d) (hab : a < b) (hb : b ≤ d.size) (hsz : d.size < 1152921504606846976) :
    Calls Try.prog 85 #[.slice (some ⟨g, off, none⟩) d.size cap, .int .i64 a, .int .i64 b] w fun e w' => e = .returned (.tuple #[]) ∧ ∃ d', Hid (SW w0 w' g off d') ∧ PermIn a b d d' := by
  have HX := hid x
  clear x
  go_enter Try.func85, Try.ntmps85
  go_wp2
  go_loopw [6, 7] (fun vi vj wr => ∃ (i j : Nat) (dk : Array Int), vi = .int .i64 i ∧ vj = .int .i64 j ∧ a ≤ i ∧ j < b ∧ dk.size = d.size ∧ Hid (SW w0 wr g off dk) ∧ Hid (PermIn a b d dk)) (fun _ vj _ => (intOf vj).toNat)
  case atStart => exact ⟨a, b - 1, d, rfl, by congr 1; omega, Nat.le_refl _, by omega, rfl, HX, Sort.permIn_refl _ _ _⟩
  case round =>
    clear HX
    obtain ⟨i, j, dk, rfl, rfl, hai, hjb, hsk, HX, HP⟩ := hrel
    by_cases hij : i < j
    · obtain ⟨G, HG, hcw, hfw⟩ := HX.out.fam hsk
      go_wp2
      go_region
      all_goals go_wp2
      go_roundw
      case rel =>
        refine ⟨i + 1, j - 1, swp dk i j, by go_num, by congr 1; omega, by omega, by omega, by rw [swp_len]; exact hsk, ?_, ?_⟩
        · have := (HX.out.drewN 1).swap (i := i) (j := j) (by omega) (by omega)
          rw [HG.out, HG.out]; exact this
        · exact Sort.permIn_trans _ _ _ _ _ HP.out (Sort.swp_permIn _ _ _ _ _ hai (by omega) (by omega) hjb (by omega))
      case measure => simp [intOf]; omega
    · go_wp2
      go_end0
      exact ⟨rfl, dk, HX, HP.out⟩
end Go.Proofs.Ytaaoelhmanahpaa
