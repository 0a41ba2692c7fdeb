/-
  file, and unfile.
-/
import Derived.Test.YthgcjocjkeieaaaWFile
namespace Go.Proofs.Ythgcjocjkeieaaa
open Go.RowKit
set_option linter.all false

/-- what is left behind a file. -/
structure FiledI (w : World) (b m : Nat) (now last : Int) (T : List Tm) (V : Nat → Value) (P : List Int) (w' : World) (V' : Nat → Value) (R' : Nat → List Int) : Prop where
  wh : WheelW w' b m now last T V' R'
  inv : Inv now last T R' P
  turn : Turn b m w V w' V'
set_option maxHeartbeats 1000000 in
theorem file_any (b m : Nat) (now last : Int) (T : List Tm) (V : Nat → Value) (R : Nat → List Int) (a : Int) (P : List Int) (hl : last ≤ 9223372036854775807) (hT : T.length ≤ 1024) (w : World) (x : WheelW w b m now last T V R) (I : Inv now last T R (a :: P)) :
    Calls Try.prog 29 #[.pointer (some ⟨b, 0, none⟩), .int .i64 a] w fun e w' => e = .returned (.tuple #[]) ∧ ∃ V' R', Hid (FiledI w b m now last T V P w' V' R') := by
  have ha := I.pfit hl a (by simp)
  obtain ⟨y, hy, hya⟩ := I.pend a (by simp)
  have hky : keyT T a = y.t := by rw [← hya, I.rise.key hy]
  have hyt := I.time y hy
  have h0 := I.low
  have h1 := I.high
  have c0 := x.box.cNow
  have c2 := x.box.cMap
  have hlk := x.map.look ha
  have hF := timerAt
  have HLV := hid (levelOf_any now (keyT T a) h0 h1 (by omega) (by omega) w)
  have hle := lev_le now (keyT T a)
  by_cases h4 : lev now (keyT T a) = 4
  · have HP := hid (push_any b m now last T V R a ha I.heap (I.fit hl (by omega)) (by have := I.len (i := 256) (by omega); omega) w x)
    have HI : Hid (∀ w' V' H, PushI w b m now last T V R a w' V' H → FiledI w b m now last T V P w' V' (upd R 256 H)) := fun w' V' H h => ⟨h.wh, I.push (plc_far.2 h4) h.perm h.heap, h.turn⟩
    rw [h4] at HLV
    clear I x hyt hya hy hky h0 h1 hle h4
    generalize keyT T a = t at *
    generalize tagT T a = g at *
    go_enter Try.func29, Try.ntmps29
    go_wp2_with (first
      | (go_at_call 38; refine HLV.out.mono ?_; rintro e w1 ⟨rfl, hw⟩; subst w1)
      | (go_at_call 39; refine HP.out.mono ?_; rintro e w1 ⟨rfl, V1, H1, HH1⟩)
      | fail)
    exact bodyPost_ret (v := .tuple #[]) (by simp [results, Try.results29, go_sem]) rfl ⟨rfl, V1, _, HI.out _ _ _ HH1.out⟩
  · have hp := plc_near h4
    have hp256 : plc now (keyT T a) < 256 := by have := slt_lt (keyT T a) (lev now (keyT T a)); omega
    have HS := hid (fun n => slotOf_any (keyT T a) (lev now (keyT T a)) (by omega) (by omega) (by omega) (w.drewN n))
    have hs64 := slt_lt (keyT T a) (lev now (keyT T a))
    have xd : ∀ n, WheelW (w.drewN n) b m now last T V R := fun n => x.drewN n
    have HA : Hid (∀ n, ∃ w2 ad cap, AppI (w.drewN n) b m now last T V R (plc now (keyT T a)) a w2 ad cap) := fun n => (xd n).app (by omega) a (by have := I.len (i := plc now (keyT T a)) (by omega); omega)
    have HI : Hid (∀ n w2 ad cap, AppI (w.drewN n) b m now last T V R (plc now (keyT T a)) a w2 ad cap → FiledI w b m now last T V P (w2.setCell ⟨b, 3 + plc now (keyT T a), none⟩ (.slice ad ((R (plc now (keyT T a))).length + 1) cap)) (updV V (plc now (keyT T a)) (.slice ad ((R (plc now (keyT T a))).length + 1) cap)) (upd R (plc now (keyT T a)) (R (plc now (keyT T a)) ++ [a])) ∧ w2.cell? ⟨b, 3 + plc now (keyT T a), none⟩ = some (V (plc now (keyT T a))) ∧ w2.frozen? ⟨b, 3 + plc now (keyT T a), none⟩ = false) := fun n w2 ad cap h => by
      have ho : offOf (plc now (keyT T a)) = 3 + plc now (keyT T a) := by unfold offOf; rw [if_neg (by omega)]
      have hw := h.wh
      have ht := h.turn
      have hc := h.cell
      have hf := h.fr
      rw [ho] at hw ht hc hf
      exact ⟨⟨hw, I.file (by omega), (Turn.drewN _ _ _ _ n).trans ht⟩, hc, hf⟩
    have HC : Hid (∀ n, (w.drewN n).cell? ⟨b, 3 + plc now (keyT T a), none⟩ = some (V (plc now (keyT T a)))) := fun n => (xd n).box.cSlot hp256
    have hL4 : lev now (keyT T a) < 4 := by omega
    clear I x xd hyt hya hy hky h0 h1 hle
    generalize plc now (keyT T a) = p at *
    generalize slt (keyT T a) (lev now (keyT T a)) = S at *
    generalize lev now (keyT T a) = L at *
    generalize keyT T a = t at *
    generalize tagT T a = g at *
    have hL1 : (L : Int) < 4 := by omega
    have hS1 : (S : Int) < 64 := by omega
    have hL2 : ¬ (L : Int) = 4 := by omega
    clear hp256
    go_enter Try.func29, Try.ntmps29
    go_wp2_with (first
      | (go_at_call 38; refine HLV.out.mono ?_; rintro e w1 ⟨rfl, hw⟩; subst w1)
      | fail)
    go_quiet (first | (go_at_call 35; refine Calls.quiet_of_same (HS.out _)))
    rw [show 3 + L * 64 + S = 3 + p from by omega]
    clear hp
    obtain ⟨w2, ad, cap, hA⟩ := HA.out nq
    obtain ⟨hI1, hI2, hI3⟩ := HI.out nq _ _ _ hA
    have HR := hid hA.run
    have hC := HC.out nq
    have HF := hid hI1
    clear hA hI1 HA HI HC HS HLV hlk c0 c2 hF
    generalize w.drewN nq = W at *
    generalize (R p).length = N at *
    generalize V p = v at *
    go_wp2_with (first
      | (at_builtin; refine wpList_append_run _ rfl _ _ _ _ rfl _ _ rfl rfl HR.out ?_)
      | fail)
    exact bodyPost_end (v := .tuple #[]) (by simp [results, Try.results29, go_sem]) rfl ⟨rfl, _, _, HF⟩
end Go.Proofs.Ythgcjocjkeieaaa
