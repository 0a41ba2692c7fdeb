/-
  The contract of frame.Open.
-/
import Derived.Test.YtnjhlndikbkeaaaFMine
import Derived.Test.YtnjhlndikbkeaaaBGet
namespace Go.Proofs.Ytnjhlndikbkeaaa
open Go.RowKit
set_option linter.all false

def zeroMac : Mac := ⟨0, 0, 0, 0, 0, 0⟩
def macAt (zs : List Int) (i : Nat) : Mac := ⟨zs.getD i 0, zs.getD (i + 1) 0, zs.getD (i + 2) 0, zs.getD (i + 3) 0, zs.getD (i + 4) 0, zs.getD (i + 5) 0⟩
theorem macAt_ok {zs : List Int} (h : ∀ z, z ∈ zs → 0 ≤ z ∧ z ≤ 255) (i : Nat) : (macAt zs i).ok := ⟨getD_mem_bd h _, getD_mem_bd h _, getD_mem_bd h _, getD_mem_bd h _, getD_mem_bd h _, getD_mem_bd h _⟩
theorem macAt_zs (zs : List Int) (i : Nat) (h : i + 6 ≤ zs.length) : (macAt zs i).zs = (zs.drop i).take 6 := by
  apply List.ext_getElem
  · simp [Mac.zs]; omega
  · intro j h1 h2
    simp only [Mac.zs, List.length_cons, List.length_nil] at h1
    rcases (show j = 0 ∨ j = 1 ∨ j = 2 ∨ j = 3 ∨ j = 4 ∨ j = 5 by omega) with rfl | rfl | rfl | rfl | rfl | rfl
    all_goals
      simp [Mac.zs, macAt, List.getD_eq_getElem?_getD]
      rw [List.getElem?_eq_getElem (by omega)]
      rfl
def kindAt (zs : List Int) : Int := zs.getD 12 0 * 256 + zs.getD 13 0
theorem get_kind (pt : Part) (w : World) (hok : pt.ok w) (hl : 60 ≤ pt.zs.length) (hl2 : pt.zs.length ≤ 1514) :
    Calls Try.prog 65 #[pt.val, .int .i64 12, .int .i64 2] w fun e w' => e = .returned (.tuple #[.int .u64 (kindAt pt.zs), .int .i64 0]) ∧ w' = w := by
  have h := get_part pt 12 2 w hok (by omega)
  have e : getAns pt.zs 12 2 = (kindAt pt.zs, 0) := by
    unfold getAns
    rw [if_neg (by omega), if_neg (by omega)]
    simp [getTo, kindAt]
  rw [e] at h
  exact h

set_option maxHeartbeats 1000000 in
theorem open_short (a : Option Addr) (l c : Nat) (w : World) (h : l < 60) :
    Calls Try.prog 59 #[.slice a l c] w fun e w' => e = .returned (.tuple #[frameV zeroMac zeroMac 0 (.slice none 0 0), .int .i64 5]) ∧ Below w.heap.size w w' := by
  have h1 : (l : Int) < 60 := by omega
  go_enter Try.func59, Try.ntmps59
  go_wp2
  exact bodyPost_ret (v := .tuple #[frameV zeroMac zeroMac 0 (.slice none 0 0), .int .i64 5]) (by simp [results, Try.results59, go_sem, frameV, zeroMac]) rfl ⟨rfl, bpush (Below.refl _ _) _⟩
set_option maxHeartbeats 1000000 in
theorem open_long (a : Option Addr) (l c : Nat) (w : World) (h : 1514 < l) (h2 : l ≤ 9223372036854775807) :
    Calls Try.prog 59 #[.slice a l c] w fun e w' => e = .returned (.tuple #[frameV zeroMac zeroMac 0 (.slice none 0 0), .int .i64 2]) ∧ Below w.heap.size w w' := by
  have h1 : (1514 : Int) < (l : Int) := by omega
  have h3 : ¬ (l : Int) < 60 := by omega
  go_enter Try.func59, Try.ntmps59
  go_wp2
  exact bodyPost_ret (v := .tuple #[frameV zeroMac zeroMac 0 (.slice none 0 0), .int .i64 2]) (by simp [results, Try.results59, go_sem, frameV, zeroMac]) rfl ⟨rfl, bpush (Below.refl _ _) _⟩
set_option maxHeartbeats 1000000 in
theorem open_kind (pt : Part) (w : World) (hok : pt.ok w) (hl : 60 ≤ pt.zs.length) (hl2 : pt.zs.length ≤ 1514) (hk : kindAt pt.zs < 1536) :
    Calls Try.prog 59 #[pt.val] w fun e w' => e = .returned (.tuple #[frameV zeroMac zeroMac 0 (.slice none 0 0), .int .i64 30]) ∧ Below w.heap.size w w' := by
  have HG : Hid (∀ w', Below w.heap.size w w' → Calls Try.prog 65 #[pt.val, .int .i64 12, .int .i64 2] w' fun e w'' => e = .returned (.tuple #[.int .u64 (kindAt pt.zs), .int .i64 0]) ∧ w'' = w') := fun w' hb => get_kind pt w' (Part.ok_below hok hb) hl hl2
  unfold Part.val at *
  generalize kindAt pt.zs = k at *
  generalize pt.zs.length = l at *
  have h1 : ¬ (1514 : Int) < (l : Int) := by omega
  have h3 : ¬ (l : Int) < 60 := by omega
  clear hok
  go_enter Try.func59, Try.ntmps59
  go_wp2_with (first | (go_at_call 65; refine (HG.out _ (bpush (Below.refl _ _) _)).mono ?_; rintro e w1 ⟨rfl, rfl⟩))
  exact bodyPost_ret (v := .tuple #[frameV zeroMac zeroMac 0 (.slice none 0 0), .int .i64 30]) (by simp [results, Try.results59, go_sem, frameV, zeroMac]) rfl ⟨rfl, bpush (Below.refl _ _) _⟩
end Go.Proofs.Ytnjhlndikbkeaaa
