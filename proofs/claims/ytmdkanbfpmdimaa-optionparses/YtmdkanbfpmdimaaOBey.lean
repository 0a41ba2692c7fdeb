/-
  The contract of slipwayref01.Beyond.
-/
import Derived.Test.YtmdkanbfpmdimaaOPar
namespace Go.Proofs.Ytmdkanbfpmdimaa
open Go.RowKit
set_option linter.all false

/-- what Beyond counts. -/
def bulkP (ps : List Part) : Nat := (ps.map fun p => p.zs.length + 1).sum
theorem bulkP_take {ps : List Part} {i : Nat} {p : Part} (h : ps[i]? = some p) : bulkP (ps.take (i + 1)) = bulkP (ps.take i) + (p.zs.length + 1) := by
  have hi : i < ps.length := (List.getElem?_eq_some_iff.1 h).1
  rw [List.getElem?_eq_getElem hi] at h
  simp only [Option.some.injEq] at h
  unfold bulkP
  rw [List.take_succ_eq_append_getElem hi, h]
  simp
theorem bulkP_le (ps : List Part) (i : Nat) : bulkP (ps.take i) ≤ bulkP ps := by
  have e : bulkP ps = bulkP (ps.take i) + bulkP (ps.drop i) := by
    unfold bulkP; rw [← List.sum_append, ← List.map_append, List.take_append_drop]
  omega
theorem bulkP_sum : ∀ ps : List Part, bulkP ps = sumB (partsZ ps) + ps.length
  | [] => rfl
  | p :: ps => by
    have := bulkP_sum ps
    simp only [bulkP, sumB, partsZ, List.map_cons, List.sum_cons, List.length_cons] at this ⊢
    omega
set_option maxHeartbeats 1000000 in
theorem obey_any (a : Option Addr) (c : Nat) (ps : List Part) (w : World) (h : PV w a ps) (hn : ps.length ≤ 140737488355328) (hl : ∀ p ∈ ps, p.zs.length ≤ 140737488355328) :
    Calls Try.prog 6 #[.slice a ps.length c] w fun e w' => e = .returned (.bool (decide (2147483647 < bulkP ps))) ∧ w' = w := by
  obtain ⟨n, hnn⟩ : ∃ n, n = ps.length := ⟨_, rfl⟩
  have HN := hid hnn
  rw [← hnn] at hn ⊢
  have HV := hid h
  have HL := hid hl
  clear h hl hnn
  go_enter Try.func6, Try.ntmps6
  go_wp2
  go_loop [3, 4] (fun t i => ∃ k : Nat, k ≤ n ∧ i = .int .i64 k ∧ t = .int .i64 (bulkP (ps.take k)) ∧ bulkP (ps.take k) ≤ 281474976710656) (fun _ i => n - (intOf i).toNat)
  case atStart => exact ⟨0, Nat.zero_le _, rfl, by simp [bulkP], by simp [bulkP]⟩
  case round =>
    obtain ⟨k, hk, rfl, rfl, hb⟩ := hrel
    obtain ⟨T, hT⟩ : ∃ T, T = bulkP (ps.take k) := ⟨_, rfl⟩
    have HT := hid hT
    rw [← hT] at hb ⊢
    clear hT
    by_cases hlt : k < n
    · have hlt' : (k : Int) < n := by omega
      by_cases hle : T ≤ 2147483647
      · have hle' : (T : Int) ≤ 2147483647 := by omega
        obtain ⟨⟨pa, pc, pz⟩, hp⟩ : ∃ p, ps[k]? = some p := ⟨ps[k]'(by rw [← HN.out]; exact hlt), List.getElem?_eq_getElem _⟩
        obtain ⟨b, off, ea, c0⟩ := HV.out.cell k _ hp
        simp only [Part.val] at c0
        subst ea
        have hpl : pz.length ≤ 140737488355328 := HL.out _ (List.mem_of_getElem? hp)
        have HS : Hid (bulkP (ps.take (k + 1)) = T + (pz.length + 1)) := hid (by rw [HT.out]; exact bulkP_take hp)
        clear hp
        generalize pz.length = l at *
        go_wp2
        go_round
        case rel => exact ⟨k + 1, by omega, by go_num, by rw [HS.out]; first | (push_cast; go_num) | (congr 1; omega), by rw [HS.out]; omega⟩
        case measure => simp [intOf]; omega
      · have hle' : ¬ (T : Int) ≤ 2147483647 := by omega
        have hgt : (2147483647 : Int) < T := by omega
        have HR : Hid (decide (2147483647 < bulkP ps) = true) := hid (by
          have := bulkP_le ps k
          rw [← HT.out] at this
          simp only [decide_eq_true_eq]
          omega)
        go_wp2
        go_ret
        exact ⟨by rw [HR.out]; simp [hgt], rfl⟩
    · have hge : ¬ (k : Int) < n := by omega
      have hkn : k = n := by omega
      have HR : Hid (bulkP ps = T) := hid (by rw [HT.out, hkn, HN.out]; simp)
      go_wp2
      go_ret
      exact ⟨by rw [HR.out]; simp; omega, rfl⟩
end Go.Proofs.Ytmdkanbfpmdimaa
