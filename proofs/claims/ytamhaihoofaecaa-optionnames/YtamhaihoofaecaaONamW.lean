/-
  The walk of OptionNames.
-/
import Derived.Test.YtamhaihoofaecaaOLive
import Derived.Test.YtamhaihoofaecaaBOpen
namespace Go.Proofs.Ytamhaihoofaecaa
open Go.RowKit
set_option linter.all false

def onC : List Int := [0, 1, 3, 50, 51, 52, 53, 54, 55, 58, 59, 61, 67, 255]
def onV : Array Value := #[.int .i64 0, .int .i64 1, .int .i64 3, .int .i64 50, .int .i64 51, .int .i64 52, .int .i64 53, .int .i64 54, .int .i64 55, .int .i64 58, .int .i64 59, .int .i64 61, .int .i64 67, .int .i64 255]
def onT : Array Value := #[.int .i64 1, .int .i64 2, .int .i64 3, .int .i64 4, .int .i64 5, .int .i64 6, .int .i64 7, .int .i64 8]
theorem onV_at : ∀ k : Nat, k < 14 → onV[k]? = some (.int .i64 (onC.getD k 0)) := by
  intro k hk
  match k, hk with
  | 0, _ => rfl
  | 1, _ => rfl
  | 2, _ => rfl
  | 3, _ => rfl
  | 4, _ => rfl
  | 5, _ => rfl
  | 6, _ => rfl
  | 7, _ => rfl
  | 8, _ => rfl
  | 9, _ => rfl
  | 10, _ => rfl
  | 11, _ => rfl
  | 12, _ => rfl
  | 13, _ => rfl
theorem onT_at : ∀ k : Nat, k < 8 → onT[k]? = some (.int .i64 ((k : Int) + 1)) := by
  intro k hk
  match k, hk with
  | 0, _ => rfl
  | 1, _ => rfl
  | 2, _ => rfl
  | 3, _ => rfl
  | 4, _ => rfl
  | 5, _ => rfl
  | 6, _ => rfl
  | 7, _ => rfl
set_option maxRecDepth 20000 in
set_option maxHeartbeats 4000000 in
theorem optionNames_walk (w : World) : Calls Try.prog 3 #[] w fun e w' => e = .returned (.bool true) ∧ Below w.heap.size w w' := by
  go_enter Try.func3, Try.ntmps3
  go_wp2_with (first
    | (go_at_call 9; refine (awake_any _).mono ?_; rintro e w1 ⟨rfl, HB1⟩))
  have H3 : Holds (((w1.alloc (.cells onV 3)).alloc (.cells onV 3)).alloc (.cells onT 3)) [(w1.heap.size + 1 + 1, .cells onT 3 (0, 0)), (w1.heap.size + 1, .cells onV 3 (0, 0)), (w1.heap.size, .cells onV 3 (0, 0))] := by
    have h := (((Holds.nil w1).push (.cells onV 3)).push (.cells onV 3)).push (.cells onT 3)
    simp only [World.size_alloc] at h
    exact h
  have HB3 : Hid (Below w.heap.size w (((w1.alloc (.cells onV 3)).alloc (.cells onV 3)).alloc (.cells onT 3))) := bpush (bpush (bpush HB1.out _) _) _
  have HK : Hid ((∀ k : Nat, k < 14 → (((w1.alloc (.cells onV 3)).alloc (.cells onV 3)).alloc (.cells onT 3)).cell? ⟨w1.heap.size, k, none⟩ = some (.int .i64 (onC.getD k 0)) ∧ (((w1.alloc (.cells onV 3)).alloc (.cells onV 3)).alloc (.cells onT 3)).cell? ⟨w1.heap.size + 1, k, none⟩ = some (.int .i64 (onC.getD k 0))) ∧ ∀ k : Nat, k < 8 → (((w1.alloc (.cells onV 3)).alloc (.cells onV 3)).alloc (.cells onT 3)).cell? ⟨w1.heap.size + 1 + 1, k, none⟩ = some (.int .i64 ((k : Int) + 1))) :=
    ⟨fun k hk => ⟨by rw [cell_of_heap (H3.at 2 _ _ rfl)]; exact onV_at k hk, by rw [cell_of_heap (H3.at 1 _ _ rfl)]; exact onV_at k hk⟩, fun k hk => by rw [cell_of_heap (H3.at 0 _ _ rfl)]; exact onT_at k hk⟩
  unfold onV onT at HK HB3
  clear H3 HB1
  generalize (((w1.alloc (.cells _ 3)).alloc (.cells _ 3)).alloc (.cells _ 3)) = W at HK HB3 ⊢
  generalize w1.heap.size + 1 + 1 = g3 at *
  generalize w1.heap.size + 1 = g2 at *
  generalize w1.heap.size = g1 at *
  go_loopw [5] (fun i wr => ∃ k : Nat, k ≤ 14 ∧ i = .int .i64 k ∧ ∃ d, wr = W.drewN d) (fun i _ => 14 - (intOf i).toNat)
  case atStart => exact ⟨0, Nat.zero_le _, rfl, 0, rfl⟩
  case round =>
    obtain ⟨k, hk, rfl, d, rfl⟩ := hrel
    by_cases hlt : k < 14
    · have hlt' : (k : Int) < 14 := by omega
      obtain ⟨c1, c2⟩ := HK.out.1 k hlt
      have c1' : (W.drewN d).cell? ⟨g1, k, none⟩ = some (.int .i64 (onC.getD k 0)) := c1
      have c2' : (W.drewN d).cell? ⟨g2, k, none⟩ = some (.int .i64 (onC.getD k 0)) := c2
      generalize onC.getD k 0 = x at *
      have hne : (x != x) = false := by simp
      by_cases h8 : k < 8
      · have h8' : (k : Int) < 8 := by omega
        have c3 : W.cell? ⟨g3, k, none⟩ = some (.int .i64 ((k : Int) + 1)) := HK.out.2 k h8
        have hnf : (((k : Int) + 1) != ((k : Int) + 1)) = false := by simp
        go_wp2
        go_quiet (fail)
        go_wp2
        go_roundw
        case rel => exact ⟨k + 1, by omega, by go_num, _, rfl⟩
        case measure => simp [intOf]; omega
      · have h8' : ¬ (k : Int) < 8 := by omega
        have h8d : decide ((k : Int) < 8) = false := by simp; omega
        go_wp2
        go_quiet (fail)
        go_wp2
        go_roundw
        case rel => exact ⟨k + 1, by omega, by go_num, _, rfl⟩
        case measure => simp [intOf]; omega
    · have hk14 : k = 14 := by omega
      subst hk14
      go_wp2
      go_ret
      exact ⟨rfl, HB3.out.trans ⟨rfl, rfl, rfl, Nat.le_refl _, fun _ _ => rfl⟩⟩
end Go.Proofs.Ytamhaihoofaecaa
