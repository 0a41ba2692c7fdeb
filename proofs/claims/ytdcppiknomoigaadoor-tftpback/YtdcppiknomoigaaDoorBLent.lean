/-
  The contracts of slipwayref01.Lent and slipwayref01.AsLent: bytes handed in from memory of their own, with two marks behind them. For every seat.
-/
import Derived.Test.YtdcppiknomoigaaDoorBMem
namespace Go.Proofs.YtdcppiknomoigaaDoor
open Go.RowKit
set_option linter.all false

/-- what Lent has laid, ahead of the marks; with them. -/
def L0 (zs : List Int) : Array Value := (u8s zs ++ [Value.int .u8 0, Value.int .u8 0]).toArray
def L2 (zs : List Int) : Array Value := (u8s zs ++ [Value.int .u8 71, Value.int .u8 72]).toArray

theorem made_old (n : Nat) : madeCells #[Value.int .u8 0] n = (List.replicate n (Value.int .u8 0)).toArray := by
  rw [made_eq]; simp [u8s]
theorem copy_lent (pt : Part) (w : World) (hok : pt.ok w) (ty : TypeId) :
    (Builtin.copy_ #[24, 24] ty #[.slice (some ⟨w.heap.size, 0, none⟩) (pt.zs.length + 2) (pt.zs.length + 2), pt.val]).run Tryd.prog (w.alloc (.cells (madeCells #[.int .u8 0] (pt.zs.length + 2)) 5))
      = .ok (goInt pt.zs.length) (w.alloc (.cells (L0 pt.zs) 5)) := by
  obtain ⟨a, c, zs⟩ := pt
  simp only [Part.val]
  rcases hok.2.2 with h | ⟨b, o, ha, hc⟩
  · simp only at h
    subst h
    rw [run_copy_none _ _ _ _ 5 _ _ _ _ _ _ Tryd.underlying24 sizeU8 (by simp)]
    simp [L0, u8s, made_old]
  · simp only at ha hc
    subst ha
    have hcell : ∀ j v, (u8s zs)[j]? = some v → (w.alloc (.cells (madeCells #[.int .u8 0] (zs.length + 2)) 5)).cell? ((⟨b, o, none⟩ : Addr).add j) = some v := by
      intro j v hj
      have hjl : j < zs.length := by
        rcases Nat.lt_or_ge j zs.length with h | h
        · exact h
        · simp [u8s, List.getElem?_eq_none h] at hj
      have := hc j hjl
      have hb : b < w.heap.size := World.block_lt_of_cell? w _ this
      rw [show (⟨b, o, none⟩ : Addr).add j = ⟨b, o + j, none⟩ from by unfold Addr.add; split <;> simp_all, World.cell?_alloc_past _ _ _ hb, this]
      simp [u8s, hjl] at hj
      simp [hjl, hj]
    rw [run_copy_row (P := Tryd.prog) _ _ _ _ 5 w.heap.size 0 _ _ _ _ _ (madeCells #[.int .u8 0] (zs.length + 2)) 5 (u8s zs) Tryd.underlying24 sizeU8 (heap_new w _) (by simp [u8s]) hcell (by simp [u8s, size_madeCells]) (u8s_one zs)]
    rw [World.setRow_alloc_new]
    simp only [u8s, List.length_map]
    congr 3
    simp [L0, u8s, made_old]

theorem L0_at (zs : List Int) : (L0 zs)[zs.length]? = some (.int .u8 0) := by simp [L0, u8s]
theorem L1_at (zs : List Int) : ((L0 zs).setIfInBounds zs.length (.int .u8 71))[zs.length + 1]? = some (.int .u8 0) := by
  rw [Array.getElem?_setIfInBounds_ne (by omega)]
  simp [L0, u8s]
theorem L2_eq (zs : List Int) : ((L0 zs).setIfInBounds zs.length (.int .u8 71)).setIfInBounds (zs.length + 1) (.int .u8 72) = L2 zs := by
  simp [L0, L2, u8s]

set_option maxHeartbeats 400000 in
theorem lent_any (pt : Part) (w : World) (hok : pt.ok w) (hl : pt.zs.length ≤ 140737488353280) :
    Calls Tryd.prog 10 #[pt.val] w fun e w' => e = .returned (.slice (some ⟨w.heap.size, 0, none⟩) pt.zs.length (pt.zs.length + 2)) ∧ w' = w.alloc (.cells (L2 pt.zs) 5) := by
  have hcp := copy_lent pt w hok
  have hmk := fun wx => Go.run_make_row' (P := Tryd.prog) 24 5 (.int .u8 0) 1 Tryd.underlying24 infoU8 rfl .i64 .i64 (pt.zs.length + 2) (by omega) (by omega) wx
  have h0 := L0_at pt.zs
  have h1 := L1_at pt.zs
  have H2 : Hid (((L0 pt.zs).setIfInBounds pt.zs.length (.int .u8 71)).setIfInBounds (pt.zs.length + 1) (.int .u8 72) = L2 pt.zs) := L2_eq pt.zs
  unfold Part.val at hcp ⊢
  generalize pt.zs.length = n at *
  generalize L0 pt.zs = A0 at *
  have ec : ((n + 2 : Nat) : Int) = (n : Int) + 2 := by omega
  rw [ec] at hmk
  clear hok
  go_enter Tryd.func10, Tryd.ntmps10
  go_wp2
  go_ret
  exact ⟨rfl, by rw [H2.out]⟩

theorem L2_lo (zs : List Int) (j : Nat) (h : j < zs.length) : (L2 zs)[j]? = some (.int .u8 (zs.getD j 0)) := by
  simp [L2, u8s, List.getElem?_append, h, List.getD_eq_getElem?_getD]
theorem L2_n (zs : List Int) : (L2 zs)[zs.length]? = some (.int .u8 71) := by simp [L2, u8s]
theorem L2_n1 (zs : List Int) : (L2 zs)[zs.length + 1]? = some (.int .u8 72) := by simp [L2, u8s]
theorem L2_size (zs : List Int) : (L2 zs).size = zs.length + 2 := by simp [L2, u8s]

set_option maxHeartbeats 1000000 in
theorem asLent_any (g : Nat) (pt : Part) (w : World) (hok : pt.ok w) (hl : pt.zs.length ≤ 140737488353280) (hg : w.heap[g]? = some (.cells (L2 pt.zs) 5 (0, 0))) :
    Calls Tryd.prog 13 #[.slice (some ⟨g, 0, none⟩) pt.zs.length (pt.zs.length + 2), pt.val] w fun e w' => e = .returned (.bool true) ∧ But g w w' := by
  have c2 : ∀ k, (convert 24 9 pt.val).run Tryd.prog (w.drewN k) = .ok (.string (strOfNums pt.zs)) (w.drewN k) := fun k => conv_part pt _ (Part.ok_drewN hok k)
  have c1 : ∀ k, (convert 24 9 (.slice (some ⟨g, 0, none⟩) pt.zs.length (pt.zs.length + 2))).run Tryd.prog (w.drewN k) = .ok (.string (strOfNums pt.zs)) (w.drewN k) := fun k =>
    conv_part ⟨some ⟨g, 0, none⟩, pt.zs.length + 2, pt.zs⟩ _ ⟨hok.1, by simp only; omega, Or.inr ⟨g, 0, rfl, fun j hj => by
      show w.cell? ⟨g, 0 + j, none⟩ = _
      rw [cell_of_heap hg, Nat.zero_add, L2_lo _ _ hj]⟩⟩
  have l1 : w.cell? ⟨g, pt.zs.length, none⟩ = some (.int .u8 71) := by rw [cell_of_heap hg, L2_n]
  have l2 : w.cell? ⟨g, pt.zs.length + 1, none⟩ = some (.int .u8 72) := by rw [cell_of_heap hg, L2_n1]
  have HS : Hid ((L2 pt.zs).size = pt.zs.length + 2) := L2_size pt.zs
  have HG : Hid (w.heap[g]? = some (.cells (L2 pt.zs) 5 (0, 0))) := hg
  unfold Part.val at c2 ⊢
  generalize pt.zs.length = n at *
  generalize strOfNums pt.zs = S at *
  have b1 : (n : Int) < (n : Int) + 2 := by omega
  have b2 : (n : Int) + 1 < (n : Int) + 2 := by omega
  have b3 : (0 : Int) ≤ (n : Int) := by omega
  have b4 : (0 : Int) ≤ (n : Int) + 1 := by omega
  clear hok hg
  go_enter Tryd.func13, Tryd.ntmps13
  go_wp2
  go_quiet (fail)
  go_wp2
  go_loopw [8] (fun i wr => ∃ k : Nat, k ≤ n + 2 ∧ i = .int .i64 k ∧ But g w wr ∧ ∃ X : Array Value, wr.heap[g]? = some (.cells X 5 (0, 0)) ∧ X.size = n + 2) (fun i _ => n + 2 - (intOf i).toNat)
  case atStart => exact ⟨0, by omega, rfl, But.drewN g w _, _, HG.out, HS.out⟩
  case round =>
    obtain ⟨k, hk, rfl, ho, X, hX, hXs⟩ := hrel
    have HO : Hid (But g w wr) := ho
    have HX : Hid (wr.heap[g]? = some (.cells X 5 (0, 0))) := hX
    have HXS : Hid (X.size = n + 2) := hXs
    clear ho hX hXs c1 c2 l1 l2
    by_cases hlt : k < n + 2
    · have hlt2 : (k : Int) < (n : Int) + 2 := by omega
      obtain ⟨v, hv⟩ : ∃ v, wr.cell? ⟨g, k, none⟩ = some v := ⟨X[k]'(by rw [HXS.out]; exact hlt), by rw [cell_of_heap HX.out]; simp [HXS.out, hlt]⟩
      have hf : wr.frozen? ⟨g, k, none⟩ = false := frozen_of_heap HX.out k
      go_wp2
      go_roundw
      case rel => exact ⟨k + 1, by omega, by go_num, HO.out.trans (But.setCell _ _ _ _), _, heap_setCell HX.out, by simpa using HXS.out⟩
      case measure => simp [intOf]; omega
    · have hge : ¬ (k : Int) < (n : Int) + 2 := by omega
      go_wp2
      go_ret
      exact ⟨rfl, HO.out⟩
end Go.Proofs.YtdcppiknomoigaaDoor
