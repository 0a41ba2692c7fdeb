/-
  '[]byte(s)' as a slice of the call's own. For every seat.
-/
import Derived.Test.YtdcppiknomoigaaDoorBOwnP
import Derived.ArgAppend
import Derived.Deep.Upon
import Derived.Laws.IdiomStrings
namespace Go.Proofs.YtdcppiknomoigaaDoor
open Go.RowKit
set_option linter.all false

theorem conv_row (w : World) (zs : List Int) (hz : ∀ z, z ∈ zs → 0 ≤ z ∧ z ≤ 255) (hl : zs.length ≤ maxLen) :
    ∃ cap w', (convert 9 24 (.string (strOfNums zs))).run Tryd.prog w = .ok (.slice (some ⟨w.heap.size, 0, none⟩) zs.length cap) w' ∧ Row w' 5 (.slice (some ⟨w.heap.size, 0, none⟩) zs.length cap) (u8s zs) ∧ Below w.heap.size w w' ∧ w'.heap.size = w.heap.size + 1 := by
  have h := run_bytes_of_string (P := Tryd.prog) w 9 24 5 (strOfNums zs) Tryd.underlying9 Tryd.underlying24 Tryd.underlying5
  rw [strOfNums_size] at h
  have hge := grownCap_ge w zs.length 0 5
  have hle := grownCap_le_maxLen w zs.length 0 5 hl
  refine ⟨_, _, h, Or.inr ⟨w.heap.size, _, _, _, _, by rw [u8s_len], heap_new w.drew _, Or.inl (Nat.le_refl _), by rw [u8s_len]; exact hge, hle, ?_, ?_⟩, ?_, ?_⟩
  · simp [bytesRow, strOfNums, ByteArray.size]; omega
  · rw [u8s_len]
    simp only [bytesRow, Array.toList_append, Array.toList_map, strOfNums_data, List.map_map]
    rw [List.take_append_of_le_length (by simp), List.take_of_length_le (by simp)]
    apply List.map_congr_left
    intro z hzm
    have := hz z hzm
    simp [UInt8.toNat_ofNat']
    omega
  · exact ((Below.refl _ _).drew).alloc (Nat.le_refl _) _
  · simp
end Go.Proofs.YtdcppiknomoigaaDoor
