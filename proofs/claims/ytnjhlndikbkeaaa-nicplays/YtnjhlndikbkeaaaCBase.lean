/-
  The card's memory: rings of places; what the small functions of a place and a ring do.
-/
import Derived.Test.YtnjhlndikbkeaaaBOwnP
import Derived.Deep.RegionLaw
namespace Go.Proofs.Ytnjhlndikbkeaaa
open Go.RowKit
set_option linter.all false

theorem sizePl : (Try.prog.info? 102).map (·.size) = some 1516 := by kernel_rfl

set_option maxHeartbeats 400000 in
theorem upcoming_any (c k g m nx : Nat) (w : World) (h1 : w.cell? ⟨c, k, none⟩ = some (.slice (some ⟨g, 0, none⟩) m m)) (h2 : w.cell? ⟨c, k + 1, none⟩ = some (.int .i64 nx)) (h3 : nx < m) :
    Calls Try.prog 41 #[.pointer (some ⟨c, k, none⟩)] w fun e w' => e = .returned (.pointer (some ⟨g, nx * 1516, none⟩)) ∧ ∃ n, w' = w.drewN n := by
  have h5 : (nx : Int) < m := by omega
  go_enter Try.func41, Try.ntmps41
  go_wp2
  go_quiet (fail)
  go_wp2
  go_ret
  exact ⟨rfl, _, rfl⟩
/-- is i a number of the ring's? -/
def hasB (m : Nat) (i : Int) : Bool := decide (0 ≤ i ∧ i < m)
set_option maxHeartbeats 400000 in
theorem has_any (c k g m : Nat) (i : Int) (w : World) (h1 : w.cell? ⟨c, k, none⟩ = some (.slice (some ⟨g, 0, none⟩) m m)) :
    Calls Try.prog 61 #[.pointer (some ⟨c, k, none⟩), .int .i64 i] w fun e w' => e = .returned (.bool (hasB m i)) ∧ w' = w := by
  by_cases h2 : 0 ≤ i
  · by_cases h3 : i < m
    · go_enter Try.func61, Try.ntmps61
      go_wp2
      go_ret
      exact ⟨ret_bool (by simp [hasB, h2, h3]), rfl⟩
    · have h4 : (m : Int) ≤ i := by omega
      go_enter Try.func61, Try.ntmps61
      go_wp2
      go_ret
      exact ⟨ret_bool (by simp [hasB, h3]), rfl⟩
  · have h4 : i < 0 := by omega
    go_enter Try.func61, Try.ntmps61
    go_wp2
    go_ret
    exact ⟨ret_bool (by simp [hasB]; omega), rfl⟩
/-- a cell of a block is laid. -/
theorem cellHeap {w : World} {g : Nat} {C : Array Value} {t : TypeId} {f : Nat × Nat} (h : w.heap[g]? = some (.cells C t f)) (o : Nat) {v : Value} (hv : C[o]? = some v) : w.cell? ⟨g, o, none⟩ = some v := by rw [cell_of_heap h, hv]
set_option maxHeartbeats 400000 in
theorem turn_any (c k g m nx : Nat) (C : Array Value) (t : TypeId) (w : World) (hc : w.heap[c]? = some (.cells C t (0, 0))) (c1 : C[k]? = some (.slice (some ⟨g, 0, none⟩) m m)) (c2 : C[k + 1]? = some (.int .i64 nx)) (h3 : nx < m) (h4 : m ≤ 64) :
    Calls Try.prog 43 #[.pointer (some ⟨c, k, none⟩)] w fun e w' => e = .returned (.tuple #[]) ∧ w'.heap[c]? = some (.cells (C.setIfInBounds (k + 1) (.int .i64 ((nx + 1) % m : Nat))) t (0, 0)) ∧ But c w w' := by
  have h1 := cellHeap hc k c1
  have h2 := cellHeap hc (k + 1) c2
  have hf := frozen_of_heap hc (k + 1)
  have h5 : ¬ m = 0 := by omega
  have h6 : ((nx : Int) + 1).tmod m = ((nx + 1) % m : Nat) := by
    rw [Int.tmod_eq_emod_of_nonneg (by omega)]; rfl
  have h7 : ((nx : Int) + 1) % (m : Int) = ((nx + 1) % m : Nat) := rfl
  have h8 : 0 < m := by omega
  have HC := hid hc
  clear hc c1 c2
  obtain ⟨q, hq⟩ : ∃ q, q = (nx + 1) % m := ⟨_, rfl⟩
  rw [← hq] at h6 h7 ⊢
  clear hq
  go_enter Try.func43, Try.ntmps43
  go_wp2
  go_region
  go_wp2
  all_goals exact bodyPost_end (v := .tuple #[]) (by simp [results, Try.results43, go_sem]) rfl ⟨rfl, heap_setCell HC.out, (But.setCell _ _ _ _).trans (But.drew _ _)⟩
set_option maxHeartbeats 400000 in
theorem empty_any (g o : Nat) (C : Array Value) (t : TypeId) (v : Value) (w : World) (hc : w.heap[g]? = some (.cells C t (0, 0))) (c1 : C[o + 1]? = some v) :
    Calls Try.prog 47 #[.pointer (some ⟨g, o, none⟩)] w fun e w' => e = .returned (.tuple #[]) ∧ w'.heap[g]? = some (.cells (C.setIfInBounds (o + 1) (.int .i64 0)) t (0, 0)) ∧ But g w w' := by
  have h1 := cellHeap hc (o + 1) c1
  have hf := frozen_of_heap hc (o + 1)
  have HC := hid hc
  clear hc c1
  go_enter Try.func47, Try.ntmps47
  go_wp2
  exact bodyPost_end (v := .tuple #[]) (by simp [results, Try.results47, go_sem]) rfl ⟨rfl, heap_setCell HC.out, But.setCell _ _ _ _⟩
set_option maxHeartbeats 400000 in
theorem fill_any (g o : Nat) (C : Array Value) (t : TypeId) (pt : Part) (w : World) (hc : w.heap[g]? = some (.cells C t (0, 0))) (hs : o + 1516 ≤ C.size) (hok : pt.ok w) (hl : pt.zs.length ≤ 1514) :
    Calls Try.prog 42 #[.pointer (some ⟨g, o, none⟩), pt.val] w fun e w' => e = .returned (.tuple #[]) ∧ w'.heap[g]? = some (.cells ((splice C.toList (o + 2) (u8s pt.zs)).toArray.setIfInBounds (o + 1) (.int .i64 pt.zs.length)) t (0, 0)) ∧ But g w w' := by
  have HP := hid hok
  have HC := hid hc
  have HL := hid hl
  have HS := hid hs
  have HLS : Hid (o + 1 < (splice C.toList (o + 2) (u8s pt.zs)).toArray.size) := by
    unfold Hid
    rw [List.size_toArray, length_splice _ _ _ (by rw [u8s_len]; simp; omega)]
    simp; omega
  clear hok hc hl hs
  have HV : Hid (pt.val = .slice pt.a pt.zs.length pt.c) := rfl
  rw [HV.out]
  go_enter Try.func42, Try.ntmps42
  go_wp2_with (first
    | (refine wpList_copyV rfl _ _ rfl pt g (o + 2) 1514 1514 C t rfl (by exact HV.out.symm) HC.out HP.out HL.out (by have := HL.out; have := HS.out; omega) ?_; intro w1 hg1 hb1; have hcc := cellHeap hg1.out (o + 1) (Array.getElem?_eq_getElem HLS.out); have hff := frozen_of_heap hg1.out (o + 1)))
  exact bodyPost_end (v := .tuple #[]) (by simp [results, Try.results42, go_sem]) rfl ⟨rfl, heap_setCell hg1.out, hb1.out.trans (But.setCell _ _ _ _)⟩
end Go.Proofs.Ytnjhlndikbkeaaa
