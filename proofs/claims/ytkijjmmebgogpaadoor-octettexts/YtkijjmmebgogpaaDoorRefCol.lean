/-
  The contract of slipwayref01.Colons.
-/
import Derived.Test.YtkijjmmebgogpaaDoorRefDec
import Derived.Test.YtkijjmmebgogpaaDoorUnc
import Derived.Deep.RegionHeld3
namespace Go.Proofs.YtkijjmmebgogpaaDoor
open Go.RowKit
set_option linter.unusedVariables false

def colK (bs : List Int) : Nat → List UInt8
  | 0 => []
  | k + 1 => (if k = 0 then [] else colK bs k ++ [58]) ++ hx2 (bs.getD k 0)
theorem colK_len (bs : List Int) : ∀ k, (colK bs k).length ≤ 3 * k
  | 0 => by simp [colK]
  | k + 1 => by
    have := colK_len bs k
    unfold colK
    split <;> simp [hx2] <;> omega
theorem colK_next (bs : List Int) (k : Nat) (h : 0 < k) : colK bs (k + 1) = colK bs k ++ [58] ++ hx2 (bs.getD k 0) := by
  simp [colK, Nat.ne_of_gt h]
theorem colK6 (b0 b1 b2 b3 b4 b5 : Int) : colK [b0, b1, b2, b3, b4, b5] 6 = colL b0 b1 b2 b3 b4 b5 := by
  simp [colK, colL]
theorem hexd_bd (y : Int) (h0 : 0 ≤ y) (h1 : y < 16) : 0 ≤ hexd y ∧ hexd y ≤ 255 := by unfold hexd; split <;> omega

theorem conv_two (g : Nat) (w : World) (hg : g = w.heap.size) (y : Int) (hy : 0 ≤ y ∧ y ≤ 255) : (convert 24 9 (.slice (some ⟨g, 0, none⟩) 2 2)).run Tryd.prog (w.alloc (.cells #[.int .u8 (hexd (y / 16)), .int .u8 (hexd (y % 16))] 5)).drew = .ok (.string ⟨(hx2 y).toArray⟩) (w.alloc (.cells #[.int .u8 (hexd (y / 16)), .int .u8 (hexd (y % 16))] 5)).drew := by
  subst hg
  have k1 := hexd_bd (y / 16) (by omega) (by omega)
  have k2 := hexd_bd (y % 16) (by omega) (by omega)
  exact conv_part ⟨some ⟨w.heap.size, 0, none⟩, 2, [hexd (y / 16), hexd (y % 16)]⟩ _ ⟨by simp; omega, Or.inr ⟨_, 0, rfl, fun j hj => by
    have : j = 0 ∨ j = 1 := by simp at hj; omega
    show (w.alloc _).cell? _ = _
    rw [World.cell?_alloc_at _ _ _ _ rfl]
    rcases this with rfl | rfl <;> rfl⟩⟩

set_option maxHeartbeats 1000000 in
theorem refColons_any (b0 b1 b2 b3 b4 b5 : Int) (w : World) (h0 : 0 ≤ b0 ∧ b0 ≤ 255) (h1 : 0 ≤ b1 ∧ b1 ≤ 255) (h2 : 0 ≤ b2 ∧ b2 ≤ 255) (h3 : 0 ≤ b3 ∧ b3 ≤ 255) (h4 : 0 ≤ b4 ∧ b4 ≤ 255) (h5 : 0 ≤ b5 ∧ b5 ≤ 255) :
    Calls Tryd.prog 17 #[.agg #[.int .u8 b0, .int .u8 b1, .int .u8 b2, .int .u8 b3, .int .u8 b4, .int .u8 b5]] w fun e w' => e = .returned (.string ⟨(colL b0 b1 b2 b3 b4 b5).toArray⟩) ∧ Below w.heap.size w w' := by
  have H6 : Hid _ := colK6 b0 b1 b2 b3 b4 b5
  have hc : ∀ k : Nat, k < 6 → (w.alloc (.cells #[.int .u8 b0, .int .u8 b1, .int .u8 b2, .int .u8 b3, .int .u8 b4, .int .u8 b5] 35)).cell? ⟨w.heap.size, k, none⟩ = some (.int .u8 ([b0, b1, b2, b3, b4, b5].getD k 0)) := by
    intro k hk
    rw [World.cell?_alloc_at _ _ _ _ rfl]
    match k, hk with
    | 0, _ => rfl
    | 1, _ => rfl
    | 2, _ => rfl
    | 3, _ => rfl
    | 4, _ => rfl
    | 5, _ => rfl
  have hbb : ∀ k : Nat, k < 6 → 0 ≤ [b0, b1, b2, b3, b4, b5].getD k 0 ∧ [b0, b1, b2, b3, b4, b5].getD k 0 ≤ 255 := by
    intro k hk
    match k, hk with
    | 0, _ => exact h0
    | 1, _ => exact h1
    | 2, _ => exact h2
    | 3, _ => exact h3
    | 4, _ => exact h4
    | 5, _ => exact h5
  obtain ⟨W0, hW0⟩ : ∃ W0, W0 = w.alloc (.cells #[.int .u8 b0, .int .u8 b1, .int .u8 b2, .int .u8 b3, .int .u8 b4, .int .u8 b5] 35) := ⟨_, rfl⟩
  have HC : Hid (∀ k : Nat, k < 6 → W0.cell? ⟨w.heap.size, k, none⟩ = some (.int .u8 ([b0, b1, b2, b3, b4, b5].getD k 0))) := by rw [hW0]; exact hc
  have HBB : Hid _ := hbb
  have HW : Hid (Below w.heap.size w W0) := by unfold Hid; rw [hW0]; exact (Below.refl _ _).alloc (Nat.le_refl _) _
  have HWS : Hid (W0.heap.size = w.heap.size + 1) := by unfold Hid; rw [hW0]; simp
  have HW0 : Hid (W0 = w.alloc (.cells #[.int .u8 b0, .int .u8 b1, .int .u8 b2, .int .u8 b3, .int .u8 b4, .int .u8 b5] 35)) := hW0
  obtain ⟨bs, hbs⟩ : ∃ bs, bs = [b0, b1, b2, b3, b4, b5] := ⟨_, rfl⟩
  rw [← hbs] at H6 HC HBB
  clear hc hbb hbs hW0
  go_enter Tryd.func17, Tryd.ntmps17
  go_wp2
  go_loopw [3, 4] (fun s i wr => ∃ k : Nat, k ≤ 6 ∧ i = .int .i64 k ∧ s = .string ⟨(colK bs k).toArray⟩ ∧ Below W0.heap.size W0 wr) (fun _ i _ => 6 - (intOf i).toNat)
  case atStart => exact ⟨0, by omega, rfl, rfl, by rw [HW0.out]; exact Below.refl _ _⟩
  case round =>
    obtain ⟨k, hk, rfl, rfl, hb⟩ := hrel
    have HB : Hid (Below W0.heap.size W0 wr) := hb
    have hsz : W0.heap.size ≤ wr.heap.size := hb.size
    by_cases hlt : k < 6
    · have hcell : wr.cell? ⟨w.heap.size, k, none⟩ = some (.int .u8 (bs.getD k 0)) := by rw [hb.cell (p := ⟨w.heap.size, k, none⟩) (by rw [HWS.out]; exact Nat.lt_succ_self _)]; exact HC.out k hlt
      have hy := HBB.out k hlt
      have HN : Hid (0 < k → colK bs (k + 1) = colK bs k ++ [58] ++ hx2 (bs.getD k 0)) := colK_next bs k
      have HN0 : Hid (k = 0 → colK bs (k + 1) = hx2 (bs.getD k 0)) := fun h => by subst h; simp [colK]
      have hl := colK_len bs k
      have HE : Hid (k = 0 → colK bs k = []) := fun h => by subst h; rfl
      have hlt2 : (k : Int) < 6 := by omega
      generalize bs.getD k 0 = y at *
      have hx0 := hex_index (y / 16) (by omega) (by omega)
      have hx1 := hex_index (y % 16) (by omega) (by omega)
      have cv := conv_two wr.heap.size wr rfl y hy
      clear hb
      by_cases hk0 : 0 < k
      · have hk1 : (0 : Int) < (k : Int) := by omega
        obtain ⟨l, hll⟩ : ∃ l, l = colK bs k := ⟨_, rfl⟩
        have HNN : Hid (colK bs (k + 1) = l ++ [58] ++ hx2 y) := by unfold Hid; rw [HN.out hk0, hll]
        rw [← hll] at hl ⊢
        have hl2 : (hx2 y).length = 2 := rfl
        clear hll HN HN0 HE
        go_wp2
        go_region
        go_wp2
        go_roundw
        case rel =>
          refine ⟨k + 1, by omega, by go_num, ?_, (HB.out.alloc hsz _).drew⟩
          rw [HNN.out, show (⟨#[58]⟩ : ByteArray) = ⟨[58].toArray⟩ from rfl, str_app, str_app]
        case measure => simp [intOf]; omega
      · have hk00 : k = 0 := by omega
        have HNN : Hid (colK bs (k + 1) = hx2 y) := HN0.out hk00
        have hE := HE.out hk00
        rw [hE]
        have hl2 : (hx2 y).length = 2 := rfl
        subst hk00
        clear hE HN HN0 HE hl
        go_wp2
        go_region
        go_wp2
        go_roundw
        case rel =>
          refine ⟨0 + 1, by omega, rfl, ?_, (HB.out.alloc hsz _).drew⟩
          rw [HNN.out]; first | rfl | (rw [show (⟨#[]⟩ : ByteArray) = ⟨[].toArray⟩ from rfl, str_app]; rfl)
        case measure => simp [intOf]
    · have hk6 : k = 6 := by omega
      subst hk6
      go_wp2
      go_ret
      exact ⟨by rw [H6.out]; rfl, HW.out.trans (HB.out.mono (by rw [HWS.out]; exact Nat.le_succ _))⟩
end Go.Proofs.YtkijjmmebgogpaaDoor
