/-
  WheelPlays, walked.
-/
import Derived.Test.YthgcjocjkeieaaaWMk
namespace Go.Proofs.Ythgcjocjkeieaaa
open Go.RowKit
set_option linter.all false

/-- how it stands behind i calls: d more have been counted. -/
structure PlI (w0 w : World) (b p b' p' kb : Nat) (i : Nat) (c : Prop) : Prop where
  ex : ∃ x x' : Tms, PQ w0 w b p x x b' p' x' kb i c [] ∧ x.l ≤ i ∧ x'.l ≤ i
section
variable {w0 w : World} {b p b' p' kb i : Nat} {c : Prop}
theorem PlI.below (h : PlI w0 w b p b' p' kb i c) : Below w0.heap.size w0 w := by
  obtain ⟨x, x', h1, _⟩ := h.ex
  exact h1.below
theorem PlI.one (h : PlI w0 w b p b' p' kb i c) (hi : (i + 1) * 24 ≤ 140737488355328) (k a g : Int) (ha : fits a) :
    Calls Try.prog 10 #[.pointer (some ⟨kb, 0, none⟩), .pointer (some ⟨b, 0, none⟩), .pointer (some ⟨p, 0, none⟩), .agg #[.int .i64 k, .int .i64 a, .int .i64 g]] w fun e w' => e = .returned (.bool true) ∧ Hid (PlI w0 w' b p b' p' kb (i + 1) c) := by
  obtain ⟨x, x', h1, h2, h3⟩ := h.ex
  refine (step_any h1 (by omega) hi k a g ha).mono ?_
  rintro e w' ⟨rfl, z, H⟩
  exact ⟨rfl, z, x', H.out.1, by have := H.out.2; omega, by omega⟩
theorem PlI.other (h : PlI w0 w b p b' p' kb i c) (hi : (i + 1) * 24 ≤ 140737488355328) (k a g : Int) (ha : fits a) :
    Calls Try.prog 10 #[.pointer (some ⟨kb, 0, none⟩), .pointer (some ⟨b', 0, none⟩), .pointer (some ⟨p', 0, none⟩), .agg #[.int .i64 k, .int .i64 a, .int .i64 g]] w fun e w' => e = .returned (.bool true) ∧ Hid (PlI w0 w' b p b' p' kb (i + 1) c) := by
  obtain ⟨x, x', h1, h2, h3⟩ := h.ex
  refine (step_any h1.swap (by omega) hi k a g ha).mono ?_
  rintro e w' ⟨rfl, z, H⟩
  exact ⟨rfl, x, z, H.out.1.swap, by omega, by have := H.out.2; omega⟩
theorem PlI.stands (h : PlI w0 w b p b' p' kb i True) (hi : (i + 1) * 24 ≤ 140737488355328) :
    Calls Try.prog 11 #[.pointer (some ⟨kb, 0, none⟩)] w fun e w' => e = .returned (.bool true) ∧ Hid (PlI w0 w' b p b' p' kb i False) := by
  obtain ⟨x, x', h1, h2, h3⟩ := h.ex
  refine (h1.stands hi).mono ?_
  rintro e w' ⟨rfl, H⟩
  exact ⟨rfl, x, x', H.out, h2, h3⟩
theorem PlI.start {O : Nat → Nat → Prop} (h : M4 w0 w O b b' p p') : PlI w0 (w.alloc (.cells #[.slice none 0 0, .slice none 0 0] 31)) b p b' p' w.heap.size 0 True :=
  ⟨_, _, mk5 h, by show (0 : Int) ≤ _; omega, by show (0 : Int) ≤ _; omega⟩
end
set_option maxRecDepth 20000 in
set_option maxHeartbeats 1600000 in
theorem wheelPlays_walk (xs : List OpW) (ao : Option Addr) (co : Nat) (w : World) (hx : OpsAt w ao xs) (hsx : xs.length * 24 ≤ 140737488351232) :
    Calls Try.prog 4 #[.slice ao xs.length co] w fun e w' => e = .returned (.bool true) ∧ Below w.heap.size w w' := by
  have HL := hid (live_any w)
  have HN1 := hid lv_new
  have HX := hid hx
  obtain ⟨N, hN⟩ : ∃ N, N = xs.length := ⟨_, rfl⟩
  have HN := hid hN
  rw [← hN]
  have HNS : Hid (N * 24 ≤ 140737488351232) := by unfold Hid; omega
  have hNi : (N : Int) ≤ 140737488351232 := by omega
  clear hx hsx hN
  go_enter Try.func4, Try.ntmps4
  go_wp2_with (first
    | (go_at_call 7; refine HL.out.mono ?_; go_loud (rintro e w1 ⟨rfl, hb⟩; have HB := hid hb; clear hb HL))
    | (go_at_call 8; refine HK2.out.mono ?_; go_loud (rintro e w3 ⟨b', rfl, HV⟩; obtain ⟨O3, h3⟩ := HV.out; have HK3 := hid (mk3 h3); clear HV HK2 h3))
    | (go_at_call 8; refine (HN1.out w1).mono ?_; go_loud (rintro e w2 ⟨b, rfl, HV⟩; have HK2 := hid (mk2 HV.out); clear HV HN1))
    | (go_at_call 9; refine HK4.out.mono ?_; go_loud (rintro e w5 ⟨rfl, HV⟩; obtain ⟨O5, h5⟩ := HV.out; have HP := hid (PlI.start h5); clear HV HK4 h5))
    | (go_at_call 9; refine HK3.out.mono ?_; go_loud (rintro e w4 ⟨rfl, HV⟩; obtain ⟨O4, h4⟩ := HV.out; have HK4 := hid (mk4 h4); clear HV HK3 h4))
    | fail)
  generalize w3.heap.size = p at *
  generalize w4.heap.size = p' at *
  generalize w5.heap.size = kb at *
  go_loopw [9, 10] (fun iv _ wr => ∃ i : Nat, iv = .int .i64 i ∧ Hid (i ≤ N) ∧ Hid (PlI w1 wr b p b' p' kb i True)) (fun iv _ _ => N - (intOf iv).toNat)
  case atStart => exact ⟨0, rfl, Nat.zero_le _, HP⟩
  case round =>
    clear HP
    obtain ⟨i, rfl, HI, HP⟩ := hrel
    by_cases hi : i < N
    · have hi2 : (i : Int) < N := by omega
      have hix : i < xs.length := by rw [← HN.out]; exact hi
      obtain ⟨ob, oo, hoa, k1, k2, k3, kk⟩ := HX.out i hix
      have hbw : Below w.heap.size w wr := bstep HB.out HP.out.below
      have hcell : ∀ p u, w.cell? p = some u → wr.cell? p = some u := fun p u h => by rw [hbw.cell (World.block_lt_of_cell? w p h)]; exact h
      have o1 := hcell _ _ k1
      have o2 := hcell _ _ k2
      have o3 := hcell _ _ k3
      subst hoa
      have HFA := hid kk.2.1
      have hi24 : (i + 1) * 24 ≤ 140737488355328 := by have := HNS.out; unfold Hid at this; omega
      clear k1 k2 k3 kk hcell hbw hix
      generalize (xs.getD i OpW.nil).k = k at *
      generalize (xs.getD i OpW.nil).a = a at *
      generalize (xs.getD i OpW.nil).g = g at *
      have HS1 := hid (HP.out.one hi24 k a g HFA.out)
      have HS2 := hid (HP.out.other hi24 k a g HFA.out)
      clear HP HFA hi24
      by_cases hm0 : (i : Int) % 5 = 4
      · clear HS1
        have hm : ((i : Int) % 5 == 4) = true := by simp [hm0]
        clear hm0
        go_wp2_with (first
          | (go_at_call 10; refine HS2.out.mono ?_; go_loud (rintro e w6 ⟨rfl, HP⟩; clear HS2))
          | fail)
        clear hm
        go_roundw
        case rel => exact ⟨i + 1, by go_num, by unfold Hid; omega, HP⟩
        case measure => simp [intOf]; omega
      · clear HS2
        have hm : ((i : Int) % 5 == 4) = false := by simp [hm0]
        clear hm0
        go_wp2_with (first
          | (go_at_call 10; refine HS1.out.mono ?_; go_loud (rintro e w6 ⟨rfl, HP⟩; clear HS1))
          | fail)
        clear hm
        go_roundw
        case rel => exact ⟨i + 1, by go_num, by unfold Hid; omega, HP⟩
        case measure => simp [intOf]; omega
    · have hie : i = N := by have := HI.out; omega
      have hi2 : ¬ (i : Int) < N := by omega
      have hi24 : ∀ d, d < 10 → (i + d + 1) * 24 ≤ 140737488355328 := fun d hd => by have := HNS.out; unfold Hid at this; omega
      have hf0 : fits 0 := by unfold fits; omega
      have hfm : fits 1125899906842624 := by unfold fits; omega
      have H1 := hid (HP.out.one (hi24 0 (by omega)) 5 0 0 hf0)
      have G1 := hid (fun wx (h : PlI w1 wx b p b' p' kb (i + 1) True) => h.other (hi24 1 (by omega)) 5 0 0 hf0)
      have G2 := hid (fun wx (h : PlI w1 wx b p b' p' kb (i + 1 + 1) True) => h.stands (hi24 2 (by omega)))
      have G3 := hid (fun wx (h : PlI w1 wx b p b' p' kb (i + 1 + 1) False) => h.one (hi24 2 (by omega)) 3 1125899906842624 0 hfm)
      have G4 := hid (fun wx (h : PlI w1 wx b p b' p' kb (i + 1 + 1 + 1) False) => h.other (hi24 3 (by omega)) 3 1125899906842624 0 hfm)
      have G5 := hid (fun wx (h : PlI w1 wx b p b' p' kb (i + 1 + 1 + 1 + 1) False) => h.one (hi24 4 (by omega)) 5 0 0 hf0)
      clear HP hi24 hf0 hfm hie HI hi
      go_wp2_with (first
        | (go_at_call 10; refine H6.out.mono ?_; go_loud (rintro e v6 ⟨rfl, HQ⟩; have HZ := hid (bstep HB.out HQ.out.below); clear H6 HQ))
        | (go_at_call 10; refine H5.out.mono ?_; go_loud (rintro e v5 ⟨rfl, HQ⟩; have H6 := hid (G5.out v5 HQ.out); clear H5 G5 HQ))
        | (go_at_call 10; refine H4.out.mono ?_; go_loud (rintro e v4 ⟨rfl, HQ⟩; have H5 := hid (G4.out v4 HQ.out); clear H4 G4 HQ))
        | (go_at_call 11; refine H3.out.mono ?_; go_loud (rintro e v3 ⟨rfl, HQ⟩; have H4 := hid (G3.out v3 HQ.out); clear H3 G3 HQ))
        | (go_at_call 10; refine H2.out.mono ?_; go_loud (rintro e v2 ⟨rfl, HQ⟩; have H3 := hid (G2.out v2 HQ.out); clear H2 G2 HQ))
        | (go_at_call 10; refine H1.out.mono ?_; go_loud (rintro e v1 ⟨rfl, HQ⟩; have H2 := hid (G1.out v1 HQ.out); clear H1 G1 HQ))
        | fail)
      go_ret
      exact ⟨rfl, HZ.out⟩
end Go.Proofs.Ythgcjocjkeieaaa
