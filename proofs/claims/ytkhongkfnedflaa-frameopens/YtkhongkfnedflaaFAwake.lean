/-
  The statements' own function awake.
-/
import Derived.Test.YtkhongkfnedflaaFMineW
import Derived.Test.YtkhongkfnedflaaFSealW
import Derived.Test.YtkhongkfnedflaaFOpenW
namespace Go.Proofs.Ytkhongkfnedflaa
open Go.RowKit
set_option linter.all false

def ownM : Mac := ⟨2, 0, 0, 0, 0, 1⟩
def othM : Mac := ⟨2, 0, 0, 0, 0, 2⟩
def B60 : List Int := sealL everyMac ownM 2054 [97, 98]
theorem B60_bd : ∀ z, z ∈ B60 → 0 ≤ z ∧ z ≤ 255 := by decide
theorem aw_seal (w : World) (gd : Nat) (f : Nat × Nat) (h : w.heap[gd]? = some (.cells #[.int .u8 97, .int .u8 98] 5 f)) :
    Calls Try.prog 11 #[frameV everyMac ownM 2054 (.slice (some ⟨gd, 0, none⟩) 2 2)] w fun e w' => ∃ g, e = .returned (.tuple #[.slice (some ⟨g, 0, none⟩) 60 60, .int .i64 0]) ∧ w.heap.size ≤ g ∧ w'.heap[g]? = some (.cells (u8s B60).toArray 5 (0, 0)) ∧ Below w.heap.size w w' :=
  seal_ok everyMac ownM 2054 ⟨some ⟨gd, 0, none⟩, 2, [97, 98]⟩ w every_ok (by simp [Mac.ok, ownM]) (by omega) (by omega) (by simp) (Part.of_row (zs := [97, 98]) h (by simp) (by simp))
theorem aw_open (w : World) (g : Nat) (h : w.heap[g]? = some (.cells (u8s B60).toArray 5 (0, 0))) :
    Calls Try.prog 16 #[.slice (some ⟨g, 0, none⟩) 60 60] w fun e w' => ∃ g', e = .returned (.tuple #[frameV everyMac ownM 2054 (.slice (some ⟨g', 0, none⟩) 46 46), .int .i64 0]) ∧ Below w.heap.size w w' :=
  (open_ok ⟨some ⟨g, 0, none⟩, 60, B60⟩ w (Part.of_row h (by decide) B60_bd) (show 60 ≤ B60.length by decide) (show B60.length ≤ 1514 by decide) (show 1536 ≤ kindAt B60 by decide)).mono fun e w' ⟨g', he, _, _, hb⟩ => ⟨g', he, hb⟩
theorem aw_mine1 (w : World) (a : Option Addr) (l c : Nat) : Calls Try.prog 18 #[othM.val, frameV everyMac ownM 2054 (.slice a l c)] w fun e w' => e = .returned (.bool true) ∧ Below w.heap.size w w' :=
  mine_any othM everyMac ownM 2054 a l c w (by simp [Mac.ok, othM]) every_ok (by simp [Mac.ok, ownM])
theorem aw_mine2 (w : World) (a : Option Addr) (l c : Nat) : Calls Try.prog 18 #[everyMac.val, frameV ownM ownM 0 (.slice a l c)] w fun e w' => e = .returned (.bool false) ∧ Below w.heap.size w w' :=
  mine_any everyMac ownM ownM 0 a l c w every_ok (by simp [Mac.ok, ownM]) (by simp [Mac.ok, ownM])

set_option maxRecDepth 20000 in
set_option maxHeartbeats 4000000 in
theorem awake_any (w : World) : Calls Try.prog 8 #[] w fun e w' => e = .returned (.bool true) ∧ Below w.heap.size w w' := by
  have HSE : Hid _ := @aw_seal
  have HOP : Hid _ := @aw_open
  have HM1 : Hid _ := @aw_mine1
  have HM2 : Hid _ := @aw_mine2
  have HO2 : Hid (∀ (w : World) (a : Option Addr) (c : Nat), Calls Try.prog 16 #[.slice a 59 c] w fun e w' => e = .returned (.tuple #[frameV zeroMac zeroMac 0 (.slice none 0 0), .int .i64 5]) ∧ Below w.heap.size w w') := fun w a c => open_short a 59 c w (by omega)
  have q1 := mac_eq everyMac everyMac every_ok every_ok
  have q2 := mac_eq ownM ownM (by simp [Mac.ok, ownM]) (by simp [Mac.ok, ownM])
  rw [decide_eq_true rfl] at q1 q2
  have hcv := conv_const
  simp only [Mac.val, frameV, everyMac, ownM, othM, zeroMac] at HSE HOP HM1 HM2 HO2 q1 q2
  go_enter Try.func8, Try.ntmps8
  go_wp2_with fail
  have h0 := (((Holds.nil w).push (.cells #[.int .u8 2, .int .u8 0, .int .u8 0, .int .u8 0, .int .u8 0, .int .u8 1] 24)).push (.cells #[.int .u8 255, .int .u8 255, .int .u8 255, .int .u8 255, .int .u8 255, .int .u8 255] 24)).push (.cells #[Value.int .u8 97, Value.int .u8 98] 5 (2, 3))
  simp only [World.size_alloc] at h0
  refine (HSE.out _ _ _ (h0.at 0 _ _ rfl)).mono ?_
  rintro e w1 ⟨g, rfl, hg1, hgb, hb1⟩
  have HH1 : Hid (Holds w1 [(g, .cells (u8s B60).toArray 5), (w.heap.size + 1, .cells #[.int .u8 255, .int .u8 255, .int .u8 255, .int .u8 255, .int .u8 255, .int .u8 255] 24), (w.heap.size, .cells #[.int .u8 2, .int .u8 0, .int .u8 0, .int .u8 0, .int .u8 0, .int .u8 1] 24)]) :=
    (((Holds.nil w1).cons ((h0.below hb1).at 2 _ _ rfl)).cons ((h0.below hb1).at 1 _ _ rfl)).cons hgb
  have HB1 : Hid (Below w.heap.size w w1) := bstep (bpush (bpush (bpush (Below.refl _ _) _) _) _) hb1
  clear h0 hb1 hgb hg1
  go_wp2_with fail
  refine (HOP.out _ _ (HH1.out.at 0 _ _ rfl)).mono ?_
  rintro e w2 ⟨g', rfl, hb2⟩
  have HH2 := hid ((HH1.out.below hb2).push (.cells (frameC everyMac ownM 2054 (.slice (some ⟨g', 0, none⟩) 46 46)) 27))
  have HB2 := hid (bpush (bstep HB1.out hb2) (.cells (frameC everyMac ownM 2054 (.slice (some ⟨g', 0, none⟩) 46 46)) 27))
  simp only [frameC, everyMac, ownM] at HH2 HB2
  clear hb2 HH1 HB1
  go_wp2_with fail
  refine (HM1.out _ _ _ _).mono ?_
  rintro e w3 ⟨rfl, hb3⟩
  have HH3 := hid (HH2.out.below hb3)
  have HB3 := hid (bstep HB2.out hb3)
  have hF : w2.heap.size < w3.heap.size := HH3.out.lt (p := (w2.heap.size, _)) (by exact List.mem_cons_self)
  generalize w2.heap.size = gf at *
  clear hb3 HH2 HB2
  have hcA : ∀ q, w3.cell? ⟨w.heap.size + 1, q, none⟩ = (#[.int .u8 255, .int .u8 255, .int .u8 255, .int .u8 255, .int .u8 255, .int .u8 255] : Array Value)[q]? := fun q => cell_of_heap (HH3.out.at 2 _ _ rfl) q
  have hcO : ∀ q, w3.cell? ⟨w.heap.size, q, none⟩ = (#[.int .u8 2, .int .u8 0, .int .u8 0, .int .u8 0, .int .u8 0, .int .u8 1] : Array Value)[q]? := fun q => cell_of_heap (HH3.out.at 3 _ _ rfl) q
  go_wp2_with fail
  refine (HM2.out _ _ _ _).mono ?_
  rintro e w4 ⟨rfl, hb4⟩
  have HH4 := hid (HH3.out.below hb4)
  have HB4 := hid (bstep HB3.out hb4)
  clear hb4 HH3 HB3 hcA hcO hF
  go_wp2_with fail
  refine (HO2.out _ _ _).mono ?_
  rintro e w5 ⟨rfl, hb5⟩
  have HH5 := hid (HH4.out.below hb5)
  have HB5 := hid (bstep HB4.out hb5)
  clear hb5 HH4 HB4
  have hcA : ∀ q, w5.cell? ⟨w.heap.size + 1, q, none⟩ = (#[.int .u8 255, .int .u8 255, .int .u8 255, .int .u8 255, .int .u8 255, .int .u8 255] : Array Value)[q]? := fun q => cell_of_heap (HH5.out.at 2 _ _ rfl) q
  have hcO : ∀ q, w5.cell? ⟨w.heap.size, q, none⟩ = (#[.int .u8 2, .int .u8 0, .int .u8 0, .int .u8 0, .int .u8 0, .int .u8 1] : Array Value)[q]? := fun q => cell_of_heap (HH5.out.at 3 _ _ rfl) q
  have hcF : ∀ q, w5.cell? ⟨gf, q, none⟩ = (#[.int .u8 255, .int .u8 255, .int .u8 255, .int .u8 255, .int .u8 255, .int .u8 255, .int .u8 2, .int .u8 0, .int .u8 0, .int .u8 0, .int .u8 0, .int .u8 1, .int .i64 2054, .slice (some ⟨g', 0, none⟩) 46 46] : Array Value)[q]? := fun q => cell_of_heap (HH5.out.at 0 _ _ rfl) q
  have l1 : w.heap.size + 1 < w5.heap.size := heap_lt (HH5.out.at 2 _ _ rfl)
  have l2 : w.heap.size < w5.heap.size := heap_lt (HH5.out.at 3 _ _ rfl)
  have l3 : gf < w5.heap.size := heap_lt (HH5.out.at 0 _ _ rfl)
  have hst : ∀ o, (convert 25 9 (.slice (some ⟨g, 12, none⟩) 5 48)).run Try.prog (w5.alloc o) = .ok (.string ⟨#[8, 6, 97, 98, 0]⟩) (w5.alloc o) := fun o => by
    have := conv_part ⟨some ⟨g, 12, none⟩, 48, [8, 6, 97, 98, 0]⟩ (w5.alloc o) (Part.of_heap ((HH5.out.push o).at 2 _ _ rfl) 12 (by simp) (fun j hj => by
      simp only [List.length_cons, List.length_nil] at hj
      rcases (show j = 0 ∨ j = 1 ∨ j = 2 ∨ j = 3 ∨ j = 4 by omega) with rfl | rfl | rfl | rfl | rfl <;> rfl) (by simp))
    exact this
  go_wp2
  go_ret
  exact ⟨rfl, bpush HB5.out _⟩
end Go.Proofs.Ytkhongkfnedflaa
