/-
  rise, of a wheel's heap.
-/
import Derived.Test.YthgcjocjkeieaaaWBef
namespace Go.Proofs.Ythgcjocjkeieaaa
open Go.RowKit
set_option linter.all false

/-- a wheel whose heap is being put in order. -/
structure HpI (w : World) (b m : Nat) (now last : Int) (T : List Tm) (V : Nat → Value) (R : Nat → List Int) (H : List Int) (wr : World) : Prop where
  wh : WheelW wr b m now last T V (upd R 256 H)
  turn : Turn b m w V wr V
  perm : H.Perm (R 256)
theorem HpI.start {w : World} {b m : Nat} {now last : Int} {T : List Tm} {V : Nat → Value} {R : Nat → List Int} (x : WheelW w b m now last T V R) : HpI w b m now last T V R (R 256) w := ⟨by rw [upd_self]; exact x, Turn.refl _ _ _ _, List.Perm.refl _⟩
theorem upd_upd (R : Nat → List Int) (i : Nat) (L M : List Int) : upd (upd R i L) i M = upd R i M := by funext j; unfold upd; split <;> rfl
theorem HpI.drewN {w : World} {b m : Nat} {now last : Int} {T : List Tm} {V : Nat → Value} {R : Nat → List Int} {H : List Int} {wr : World} (h : HpI w b m now last T V R H wr) (n : Nat) : HpI w b m now last T V R H (wr.drewN n) := ⟨h.wh.drewN n, h.turn.trans (Turn.drewN _ _ _ _ _), h.perm⟩
/-- what the walks read. -/
structure HpC (wr : World) (b : Nat) (H : List Int) (g cap : Nat) : Prop where
  first : wr.cell? ⟨b, 259, none⟩ = some (firstV b)
  ids : wr.cell? ⟨b, 260, none⟩ = some (.slice (some ⟨g, 0, none⟩) H.length cap)
  at_ : ∀ j, j < H.length → wr.cell? ⟨g, j, none⟩ = some (.int .i64 (nth H j))
  max : H.length ≤ 9223372036854775807
theorem HpI.cells {w : World} {b m : Nat} {now last : Int} {T : List Tm} {V : Nat → Value} {R : Nat → List Int} {H : List Int} {wr : World} (h : HpI w b m now last T V R H wr) (h0 : 0 < H.length) : ∃ g cap, HpC wr b H g cap := by
  have hrow := h.wh.rows 256 (by omega)
  rw [upd_same] at hrow
  obtain ⟨g, cap, hV, hl, hm⟩ := hrow.formI h0
  refine ⟨g, cap, h.wh.box.cFirst, by rw [← hV]; exact h.wh.box.cIds, fun j hj => ?_, by unfold maxLen at hm; omega⟩
  rw [hV] at hrow
  exact hrow.nthCell hj
theorem HpI.swap {w : World} {b m : Nat} {now last : Int} {T : List Tm} {V : Nat → Value} {R : Nat → List Int} {H : List Int} {wr : World} (h : HpI w b m now last T V R H wr) {i j : Nat} (hi : i < H.length) (hj : j < H.length) (hne : i ≠ j) :
    Calls Try.prog 47 #[.pointer (some ⟨b, 259, none⟩), .int .i64 i, .int .i64 j] wr fun e w' => e = .returned (.tuple #[]) ∧ Hid (HpI w b m now last T V R (swp H i j) w') := by
  refine (swap_any b m now last T V (upd R 256 H) i j (by rw [upd_same]; exact hi) (by rw [upd_same]; exact hj) hne wr h.wh).mono ?_
  rintro e w' ⟨rfl, HH⟩
  have h1 := HH.out.1
  rw [upd_same, upd_upd] at h1
  exact ⟨rfl, h1, h.turn.trans HH.out.2, (swp_perm hi hj).trans h.perm⟩
theorem HpI.bef {w : World} {b m : Nat} {now last : Int} {T : List Tm} {V : Nat → Value} {R : Nat → List Int} {H : List Int} {wr : World} (h : HpI w b m now last T V R H wr) (hf : ∀ a ∈ R 256, fits a) {i j : Nat} (hi : i < H.length) (hj : j < H.length) (n : Nat) :
    Calls Try.prog 20 #[.pointer (some ⟨b, 0, none⟩), .int .i64 (nth H i), .int .i64 (nth H j)] (wr.drewN n) fun e w' => e = .returned (.bool (decide (ahead (keyT T) (nth H i) (nth H j)))) ∧ ∃ q, w' = (wr.drewN n).drewN q :=
  before_any b m now last T V (upd R 256 H) _ _ (hf _ (h.perm.mem_iff.1 (nth_mem hi))) (hf _ (h.perm.mem_iff.1 (nth_mem hj))) _ (h.wh.drewN n)
set_option maxHeartbeats 2000000 in
theorem rise_any (b m : Nat) (now last : Int) (T : List Tm) (V : Nat → Value) (R : Nat → List Int) (H0 : List Int) (i : Nat) (hi : i < H0.length) (hu : HeapUp (keyT T) H0 i) (hf : ∀ a ∈ R 256, fits a) (w0 w : World) (x : HpI w0 b m now last T V R H0 w) :
    Calls Try.prog 44 #[.pointer (some ⟨b, 259, none⟩), .int .i64 i] w fun e w' => e = .returned (.tuple #[]) ∧ ∃ H, Hid (HpI w0 b m now last T V R H w') ∧ Hid (Heap (keyT T) H) := by
  have HX := hid x
  have HU := hid hu
  have HI := hid hi
  have HF := hid hf
  clear x hu hi hf
  go_enter Try.func44, Try.ntmps44
  go_wp2
  go_loopw [1, 4] (fun v _ wr => ∃ (i : Nat) (H : List Int), v = .int .i64 i ∧ Hid (i < H.length) ∧ Hid (HeapUp (keyT T) H i) ∧ Hid (HpI w0 b m now last T V R H wr)) (fun v _ _ => (intOf v).toNat)
  case atStart => exact ⟨i, H0, rfl, HI, HU, HX⟩
  case round =>
    clear HX HU HI
    obtain ⟨i, H, rfl, HI, HU, HX⟩ := hrel
    by_cases h0 : i = 0
    · subst h0
      clear HF
      go_wp2
      exact bodyPost_end (v := .tuple #[]) (by simp [results, Try.results44, go_sem]) rfl ⟨rfl, H, HX, rise_stop HU.out (fun h => absurd h (by omega))⟩
    · obtain ⟨g, cap, hC⟩ := HX.out.cells (by have := HI.out; omega)
      have hil := HI.out
      have hpl : (i - 1) / 2 < H.length := by omega
      obtain ⟨p, hp⟩ : ∃ p, p = (i - 1) / 2 := ⟨_, rfl⟩
      rw [← hp] at hpl
      have HP := hid hp
      have c1 := hC.first
      have c2 := hC.ids
      have c3 := hC.at_ i hil
      have c4 := hC.at_ p hpl
      have hmx := hC.max
      have HB := hid (fun n => HX.out.bef HF.out hil hpl n)
      have HS := hid (fun n => (HX.out.drewN n).swap hil hpl (show i ≠ p from by omega))
      have hq : ((i : Int) - 1).tdiv 2 = p := by rw [Int.tdiv_eq_ediv_of_nonneg (by omega)]; omega
      have hq2 : ((i : Int) - 1) / 2 = p := by omega
      have hi1 : (i : Int) < H.length := by omega
      have hp1 : (p : Int) < H.length := by omega
      have hi0 : (0 : Int) < i := by omega
      have hip : p < i := by omega
      unfold firstV at c1
      clear hC hp
      by_cases ha : ahead (keyT T) (nth H i) (nth H p)
      · have hd : decide (ahead (keyT T) (nth H i) (nth H p)) = true := by simp [ha]
        rw [hd] at HB
        have HG : Hid (HeapUp (keyT T) (swp H i p) p) := by
          have := rise_go HU.out (by omega) hil (by rw [← HP.out]; exact ha)
          rw [← HP.out] at this; exact this
        have HL : Hid (p < (swp H i p).length) := by unfold Hid; rw [swp_len]; exact hpl
        clear hd ha HU HX HI HP HF
        generalize nth H i = y at *
        generalize nth H p = z at *
        generalize swp H i p = H' at *
        generalize H.length = N at *
        go_wp2_with fail
        go_quiet (first | (go_at_call 20; refine Calls.quiet_of (HB.out _)))
        go_wp2_with (first | (go_at_call 47; refine (HS.out _).mono ?_; rintro e w' ⟨rfl, HX2⟩) | fail)
        go_roundw
        case rel => exact ⟨p, H', rfl, HL, HG, HX2⟩
        case measure => simp [intOf]; omega
      · have hd : decide (ahead (keyT T) (nth H i) (nth H p)) = false := by simp [ha]
        rw [hd] at HB
        have HG : Hid (Heap (keyT T) H) := rise_stop HU.out (fun _ => by rw [← HP.out]; exact ha)
        clear hd ha HU HI HP HF HS
        generalize nth H i = y at *
        generalize nth H p = z at *
        have HX3 := hid (fun n => HX.out.drewN n)
        clear HX
        go_wp2_with fail
        go_quiet (first | (go_at_call 20; refine Calls.quiet_of (HB.out _)))
        go_wp2
        exact bodyPost_ret (v := .tuple #[]) (by simp [results, Try.results44, go_sem]) rfl ⟨rfl, H, HX3.out _, HG⟩
end Go.Proofs.Ythgcjocjkeieaaa
