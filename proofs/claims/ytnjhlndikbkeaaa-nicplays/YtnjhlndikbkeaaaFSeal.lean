/-
  The contract of frame.Seal.
-/
import Derived.Test.YtnjhlndikbkeaaaFMine
import Derived.Test.YtnjhlndikbkeaaaBPut
import Derived.Deep.RegionLaw
namespace Go.Proofs.Ytnjhlndikbkeaaa
open Go.RowKit
set_option linter.all false

theorem put2_any (n : Int) (w : World) (h3 : 0 ≤ n) (h4 : n ≤ 65535) :
    Calls Try.prog 68 #[.int .u64 n, .int .i64 2] w fun e w' => e = .returned (.slice (some ⟨w.heap.size, 0, none⟩) 2 2) ∧ w' = w.alloc (.cells (u8s [n / 256, n % 256]).toArray 5) := by
  have h := put_yes n 2 w (by omega) (by omega) h3 (by omega)
  rw [putTo2, Int.emod_eq_of_lt (by omega) (by omega)] at h
  exact h

/-! ### Seal -/
set_option maxHeartbeats 400000 in
theorem seal_kind (d s : Mac) (k : Int) (v : Value) (w : World) (h : k < 1536 ∨ 65535 < k) :
    Calls Try.prog 62 #[frameV d s k v] w fun e w' => e = .returned (.tuple #[.slice none 0 0, .int .i64 30]) ∧ Below w.heap.size w w' := by
  obtain ⟨d0, d1, d2, d3, d4, d5⟩ := d
  obtain ⟨s0, s1, s2, s3, s4, s5⟩ := s
  simp only [frameV]
  by_cases h1 : k < 1536
  · clear h
    go_enter Try.func62, Try.ntmps62
    go_wp2
    go_ret2
    exact ⟨rfl, bpush (Below.refl _ _) _⟩
  · have h2 : 65535 < k := by omega
    clear h
    go_enter Try.func62, Try.ntmps62
    go_wp2
    go_ret2
    exact ⟨rfl, bpush (Below.refl _ _) _⟩
set_option maxHeartbeats 400000 in
theorem seal_long (d s : Mac) (k : Int) (a : Option Addr) (l c : Nat) (w : World) (h1 : 1536 ≤ k) (h2 : k ≤ 65535) (h3 : 1500 < l) (h4 : l ≤ 9223372036854775807) :
    Calls Try.prog 62 #[frameV d s k (.slice a l c)] w fun e w' => e = .returned (.tuple #[.slice none 0 0, .int .i64 2]) ∧ Below w.heap.size w w' := by
  obtain ⟨d0, d1, d2, d3, d4, d5⟩ := d
  obtain ⟨s0, s1, s2, s3, s4, s5⟩ := s
  simp only [frameV]
  have h5 : (1500 : Int) < (l : Int) := by omega
  go_enter Try.func62, Try.ntmps62
  go_wp2
  go_ret2
  exact ⟨rfl, bpush (Below.refl _ _) _⟩
end Go.Proofs.Ytnjhlndikbkeaaa
