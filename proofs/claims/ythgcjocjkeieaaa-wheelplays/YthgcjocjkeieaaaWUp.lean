/-
  upcoming.
-/
import Derived.Test.YthgcjocjkeieaaaWFil2
namespace Go.Proofs.Ythgcjocjkeieaaa
open Go.RowKit
set_option linter.all false

theorem front_near {now last : Int} {T : List Tm} {R : Nat → List Int} (I : Inv now last T R []) {i : Nat} (hi : i < 256) (hb : ∀ j, j < i → R j = []) (h0 : 0 < (R i).length) : ∃ x, Front now T R i x ∧ x.id = nth (R i) 0 ∧ lev now x.t = i / 64 := by
  obtain ⟨x, hx, hxa, hp⟩ := I.has i (by omega) _ (nth_mem h0)
  exact ⟨x, ⟨hb, hx, hp, fun e => by omega⟩, hxa, by rw [← plc_div, hp]⟩
theorem front_far {now last : Int} {T : List Tm} {R : Nat → List Int} (I : Inv now last T R []) (hT : 0 < T.length) (hb : ∀ j, j < 256 → R j = []) : 0 < (R 256).length ∧ ∃ x, Front now T R 256 x ∧ x.id = nth (R 256) 0 ∧ lev now x.t = 4 := by
  obtain ⟨y, hy⟩ : ∃ y, y ∈ T := ⟨T[0], List.getElem_mem hT⟩
  have h0 : 0 < (R 256).length := by
    rcases I.lies y hy with h | h
    · simp at h
    · have := plc_le now y.t
      rcases Nat.lt_or_eq_of_le this with h1 | h1
      · rw [hb _ h1] at h; simp at h
      · rw [h1] at h; exact List.length_pos_of_mem h
  obtain ⟨x, hx, hxa, hp⟩ := I.has 256 (by omega) _ (nth_mem h0)
  exact ⟨h0, x, ⟨hb, hx, hp, fun _ => hxa⟩, hxa, plc_far.1 hp⟩
set_option maxHeartbeats 2000000 in
theorem upcoming_any (b m : Nat) (now last : Int) (T : List Tm) (V : Nat → Value) (R : Nat → List Int) (hT0 : 0 < T.length) (w : World) (x : WheelW w b m now last T V R) (I : Inv now last T R []) :
    Calls Try.prog 31 #[.pointer (some ⟨b, 0, none⟩)] w fun e w' => ∃ i y q, e = .returned (.tuple #[.int .i64 (lev now y.t : Nat), .int .i64 y.id]) ∧ Hid (Front now T R i y) ∧ w' = w.drewN q := by
  have HX := hid x
  have HI := hid I
  have HT := hid hT0
  clear x I hT0
  go_enter Try.func31, Try.ntmps31
  go_wp2
  go_loopw [4, 5, 6, 7] (fun _ _ _ kv wr => ∃ k : Nat, kv = .int .i64 k ∧ Hid (k ≤ 4 ∧ ∀ j, j < k * 64 → R j = []) ∧ wr = w) (fun _ _ _ kv _ => 4 - (intOf kv).toNat)
  case atStart => exact ⟨0, rfl, ⟨by omega, fun j hj => by omega⟩, rfl⟩
  case round =>
    obtain ⟨k, rfl, HK, rfl⟩ := hrel
    obtain ⟨hk4, hkb⟩ := HK.out
    by_cases hk : k < 4
    · have hk1 : (k : Int) < 4 := by omega
      clear HK
      have HKB := hid hkb
      clear hkb
      go_wp2
      go_loopw [5, 6, 10] (fun _ _ sv wr2 => ∃ s : Nat, sv = .int .i64 s ∧ Hid (s ≤ 64 ∧ ∀ j, j < k * 64 + s → R j = []) ∧ wr2 = wr) (fun _ _ sv _ => 64 - (intOf sv).toNat)
      case atStart => exact ⟨0, rfl, ⟨by omega, fun j hj => HKB.out j (by omega)⟩, rfl⟩
      case round =>
        clear HKB
        obtain ⟨s, rfl, HS, rfl⟩ := hrel
        obtain ⟨hs4, hsb⟩ := HS.out
        by_cases hs : s < 64
        · have hs1 : (s : Int) < 64 := by omega
          obtain ⟨p, hp⟩ : ∃ p, p = k * 64 + s := ⟨_, rfl⟩
          have HP := hid hp
          have hc := HX.out.box.cSlot (i := p) (by omega)
          have hrow := HX.out.rows p (by omega)
          have hlen : ((R p).length : Int) ≤ 9223372036854775807 := by obtain ⟨_, _, _, hl⟩ := hrow.form; rw [ints_len] at hl; unfold maxLen at hl; omega
          have hc' : wr.cell? ⟨b, 3 + k * 64 + s, none⟩ = some (V p) := by rw [show 3 + k * 64 + s = 3 + p from by omega]; exact hc
          rw [← hp] at hsb
          have HSB := hid hsb
          clear hc HS hsb hp
          by_cases hn : 0 < (R p).length
          · obtain ⟨g, cap, hV, hlc, _⟩ := hrow.formI hn
            rw [hV] at hc' hrow
            have hg0 := hrow.nthCell hn
            obtain ⟨y, hF, hyi, hyl⟩ := front_near HI.out (i := p) (by have := HP.out; omega) HSB.out hn
            have HF := hid hF
            have hkl : k = lev now y.t := by rw [hyl, HP.out]; omega
            rw [← hyi] at hg0
            have hn1 : (0 : Int) < (R p).length := by omega
            have HKL := hid hkl
            clear hkl hF hrow hV HX HI HT HSB hyl hyi hlc
            generalize (R p).length = N at *
            go_wp2_with (first | go_quiet (fail) | fail)
            all_goals
              refine bodyPost_ret (v := .tuple #[.int .i64 k, .int .i64 y.id]) (by simp [results, Try.results31, go_sem]) rfl ⟨p, y, _, ?_, HF, rfl⟩
              rw [← HKL.out]
          · obtain ⟨a, cap, hV, hl⟩ := hrow.form
            have h0 : (R p).length = 0 := by omega
            have hR : R p = [] := List.eq_nil_of_length_eq_zero h0
            rw [ints_len, h0] at hV
            rw [hV] at hc'
            have HS2 : Hid (s + 1 ≤ 64 ∧ ∀ j, j < k * 64 + (s + 1) → R j = []) := ⟨by omega, fun j hj => by
              by_cases e : j = p
              · rw [e, hR]
              · exact HSB.out j (by have := HP.out; omega)⟩
            clear hrow hV hR h0 hn hlen HSB HP HX HI HT hl
            go_wp2
            go_roundw
            case rel => exact ⟨s + 1, by go_num, HS2, by trivial⟩
            case measure => simp [intOf]; omega
        · have hs2 : s = 64 := by omega
          subst hs2
          have HK2 : Hid (k + 1 ≤ 4 ∧ ∀ j, j < (k + 1) * 64 → R j = []) := ⟨by omega, fun j hj => hsb j (by omega)⟩
          clear HS hsb hs HX HI HT
          go_wp2
          go_roundw
          case rel => exact ⟨k + 1, by go_num, HK2, by trivial⟩
          case measure => simp [intOf]; omega
    · have hk2 : k = 4 := by omega
      subst hk2
      obtain ⟨h0, y, hF, hyi, hyl⟩ := front_far HI.out HT.out hkb
      have hc := HX.out.box.cIds
      have hrow := HX.out.rows 256 (by omega)
      obtain ⟨g, cap, hV, hlc, hcm⟩ := hrow.formI h0
      rw [hV] at hc hrow
      have hg0 := hrow.nthCell h0
      rw [← hyi] at hg0
      have hlen : ((R 256).length : Int) ≤ 9223372036854775807 := by unfold maxLen at hcm; omega
      have HF := hid hF
      have HKL := hid hyl
      have h1 : (0 : Int) < (R 256).length := by omega
      clear hF hrow hV HX HI HT hyl hyi hlc hcm hkb HK
      generalize (R 256).length = N at *
      go_wp2_with (first | go_quiet (fail) | fail)
      all_goals
        refine bodyPost_ret (v := .tuple #[.int .i64 4, .int .i64 y.id]) (by simp [results, Try.results31, go_sem]) rfl ⟨256, y, _, ?_, HF, rfl⟩
        rw [HKL.out]; rfl
end Go.Proofs.Ythgcjocjkeieaaa
