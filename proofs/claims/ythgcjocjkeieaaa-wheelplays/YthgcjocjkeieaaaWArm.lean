/-
  Arm.
-/
import Derived.Test.YthgcjocjkeieaaaWTake
namespace Go.Proofs.Ythgcjocjkeieaaa
open Go.RowKit
set_option linter.all false

/-- what a time counts as. -/
def cnt (now t : Int) : Int := min (max t now) 1125899906842624
theorem cnt_le {now : Int} (h : now ≤ 1125899906842624) (t : Int) : now ≤ cnt now t ∧ cnt now t ≤ 1125899906842624 := by unfold cnt; omega
set_option maxRecDepth 20000 in
set_option maxHeartbeats 2000000 in
theorem arm_any (b m : Nat) (now last : Int) (T : List Tm) (V : Nat → Value) (R : Nat → List Int) (t tag : Int) (h0 : 0 ≤ last) (hl : last < 9223372036854775807) (hT : T.length < 1024) (w : World) (x : WheelW w b m now last T V R) (I : Inv now last T R []) :
    Calls Try.prog 12 #[.pointer (some ⟨b, 0, none⟩), .int .i64 t, .int .i64 tag] w fun e w' => e = .returned (.tuple #[.int .i64 (last + 1), .int .i64 0]) ∧ ∃ V' R', Hid (CancI w b m now (last + 1) (T ++ [⟨cnt now t, last + 1, tag⟩]) V w' V' R') := by
  have hfl : fits (last + 1) := by unfold fits; omega
  have hcn := cnt_le I.high t
  have I1 := I.armed (cnt now t) tag hcn.1 hcn.2 h0
  have c1 := x.box.cLast
  have c2 := x.box.cMap
  have hlen := fun ty => x.map.len ty
  have f1 := x.box.fr 1
  have x1 := x.setLast (last + 1)
  have d1 := x1.box.cLast
  have d2 := x1.box.cMap
  have HAs : Hid (Calls Try.prog 28 #[.pointer (some ⟨b, 0, none⟩), .int .i64 t] (w.setCell ⟨b, 1, none⟩ (.int .i64 (last + 1))).drew fun e w' => e = .returned (.int .i64 (cnt now t)) ∧ w' = (w.setCell ⟨b, 1, none⟩ (.int .i64 (last + 1))).drew) := asTime_any b m now (last + 1) T V R t _ (x1.drewN 1)
  obtain ⟨w2, hput, hM, hB⟩ := (x1.drewN 1).map.put ⟨cnt now t, last + 1, tag⟩ hfl (fun y hy => by have := I.ids y hy; simp; omega)
  have x2 := (x1.drewN 1).setMap hM hB
  have e1 := x2.box.cLast
  have HF := hid (file_any b m now (last + 1) _ V R (last + 1) [] (by omega) (by simp; omega) w2 x2 I1)
  have ht2 : Turn b m w V w2 V := ((Turn.but (But.setCell b w 1 _) (Or.inl rfl)).trans (Turn.drewN _ _ _ _ 1)).trans (Turn.but hB (Or.inr (Or.inl rfl)))
  have HE : Hid (∀ w' V' R', FiledI w2 b m now (last + 1) (T ++ [⟨cnt now t, last + 1, tag⟩]) V [] w' V' R' → w'.cell? ⟨b, 1, none⟩ = some (.int .i64 (last + 1)) ∧ CancI w b m now (last + 1) (T ++ [⟨cnt now t, last + 1, tag⟩]) V w' V' R') := fun w' V' R' h => ⟨h.wh.box.cLast, h.wh, h.inv, ht2.trans h.turn⟩
  have hT1 : (T.length : Int) < 1024 := by omega
  have hput' : (Instr.mapUpdate 50 (.map (some m)) (.int .i64 (last + 1)) (.agg #[.int .i64 (cnt now t), .int .i64 tag])).run Try.prog (w.setCell ⟨b, 1, none⟩ (.int .i64 (last + 1))).drew = .ok () w2 := hput
  have hl1 : last + 1 ≤ 9223372036854775807 := by omega
  have hl2 : -9223372036854775808 ≤ last := by omega
  clear x x1 x2 I I1 hM hB ht2 hfl hcn hput hT
  generalize T ++ [⟨cnt now t, last + 1, tag⟩] = T' at *
  generalize cnt now t = ct at *
  generalize T.length = N at *
  go_enter Try.func12, Try.ntmps12
  go_wp2_with fail
  generalize hw1 : w.setCell ⟨b, 1, none⟩ (.int .i64 (last + 1)) = w1 at *
  have HW1 := hid hw1
  clear hw1 c1 c2 hlen f1
  go_region_with (first | (go_at_call 28; refine HAs.out.mono ?_; rintro e w' ⟨rfl, hw⟩; subst w') | fail)
  all_goals
    clear d1 d2 hput' HAs HW1
    go_wp2_with (first
      | (go_at_call 29; refine HF.out.mono ?_; go_loud (rintro e w3 ⟨rfl, V1, R1, HFI⟩; obtain ⟨g1, hCI⟩ := HE.out _ _ _ HFI.out; have HCI := hid hCI; clear hCI HFI HE HF))
      | fail)
    exact bodyPost_ret (v := .tuple #[.int .i64 (last + 1), .int .i64 0]) (by simp [results, Try.results12, go_sem]) rfl ⟨rfl, V1, R1, HCI⟩
set_option maxHeartbeats 1000000 in
theorem arm_full (b m : Nat) (now last : Int) (T : List Tm) (V : Nat → Value) (R : Nat → List Int) (t tag : Int) (hT : 1024 ≤ T.length) (hT2 : T.length ≤ 1024) (w : World) (x : WheelW w b m now last T V R) :
    Calls Try.prog 12 #[.pointer (some ⟨b, 0, none⟩), .int .i64 t, .int .i64 tag] w fun e w' => e = .returned (.tuple #[.int .i64 0, .int .i64 70]) ∧ w' = w := by
  have c2 := x.box.cMap
  have hlen := fun ty => x.map.len ty
  clear x
  have e : T.length = 1024 := by omega
  rw [e] at hlen
  clear hT hT2 e
  go_enter Try.func12, Try.ntmps12
  go_wp2
  exact bodyPost_ret (v := .tuple #[.int .i64 0, .int .i64 70]) (by simp [results, Try.results12, go_sem]) rfl ⟨rfl, rfl⟩
end Go.Proofs.Ythgcjocjkeieaaa
