/-
  The statements' own function beyond.
-/
import Derived.Test.YtoifblndpcelkaaBoBpV
namespace Go.Proofs.Ytoifblndpcelkaa
open Go.RowKit
set_option linter.all false

/-- what beyond counts. -/
def bulkO (ps : List OP) : Nat := (ps.map fun p => p.2.zs.length + 1).sum
theorem bulkO_take {ps : List OP} {i : Nat} {cd : Int} {p : Part} (h : ps[i]? = some (cd, p)) : bulkO (ps.take (i + 1)) = bulkO (ps.take i) + (p.zs.length + 1) := by
  have hi : i < ps.length := (List.getElem?_eq_some_iff.1 h).1
  rw [List.getElem?_eq_getElem hi] at h
  simp only [Option.some.injEq] at h
  unfold bulkO
  rw [List.take_succ_eq_append_getElem hi, h]
  simp
theorem bulkO_le (ps : List OP) (i : Nat) : bulkO (ps.take i) ≤ bulkO ps := by
  have e : bulkO ps = bulkO (ps.take i) + bulkO (ps.drop i) := by
    unfold bulkO; rw [← List.sum_append, ← List.map_append, List.take_append_drop]
  omega
theorem bulkO_sum : ∀ ps : List OP, bulkO ps = sumO (absO ps) + ps.length
  | [] => rfl
  | p :: ps => by
    have := bulkO_sum ps
    simp only [bulkO, sumO, absO, List.map_cons, List.sum_cons, List.length_cons] at this ⊢
    omega
theorem bulkO_lay {ps : List OP} (h : bulkO ps ≤ 2147483647) : (layL (absO ps)).length ≤ 35184372088832 := by
  have h1 := layL_len (absO ps)
  have h2 := bulkO_sum ps
  rw [absO_len] at h1
  omega
set_option maxHeartbeats 1000000 in
theorem bobey_any (a : Option Addr) (c : Nat) (ps : List OP) (w : World) (h : OV w a ps) :
    Calls Try.prog 11 #[.slice a ps.length c] w fun e w' => e = .returned (.bool (decide (2147483647 < bulkO ps))) ∧ w' = w := by
  obtain ⟨n, hnn⟩ : ∃ n, n = ps.length := ⟨_, rfl⟩
  have HN := hid hnn
  have hn := h.few
  rw [← hnn] at hn ⊢
  have HV := hid h
  clear h hnn
  go_enter Try.func11, Try.ntmps11
  go_wp2
  go_loop [3, 4] (fun t i => ∃ k : Nat, k ≤ n ∧ i = .int .i64 k ∧ t = .int .i64 (bulkO (ps.take k)) ∧ bulkO (ps.take k) ≤ 281474976710656) (fun _ i => n - (intOf i).toNat)
  case atStart => exact ⟨0, Nat.zero_le _, rfl, by simp [bulkO], by simp [bulkO]⟩
  case round =>
    obtain ⟨k, hk, rfl, rfl, hb⟩ := hrel
    obtain ⟨T, hT⟩ : ∃ T, T = bulkO (ps.take k) := ⟨_, rfl⟩
    have HT := hid hT
    rw [← hT] at hb ⊢
    clear hT
    by_cases hlt : k < n
    · have hlt' : (k : Int) < n := by omega
      by_cases hle : T ≤ 2147483647
      · have hle' : (T : Int) ≤ 2147483647 := by omega
        obtain ⟨⟨cd, pa, pc, pz⟩, hp⟩ : ∃ p, ps[k]? = some p := ⟨ps[k]'(by rw [← HN.out]; exact hlt), List.getElem?_eq_getElem _⟩
        obtain ⟨b, off, ea, c0, c1⟩ := HV.out.cell k _ hp
        simp only [Part.val] at c0 c1
        subst ea
        have hpl : pz.length ≤ 140737488353280 := (HV.out.oks _ (List.mem_of_getElem? hp)).2
        have HS : Hid (bulkO (ps.take (k + 1)) = T + (pz.length + 1)) := hid (by rw [HT.out]; exact bulkO_take hp)
        clear hp
        generalize pz.length = l at *
        go_wp2
        go_round
        case rel => exact ⟨k + 1, by omega, by go_num, by rw [HS.out]; first | (push_cast; go_num) | (congr 1; omega), by rw [HS.out]; omega⟩
        case measure => simp [intOf]; omega
      · have hle' : ¬ (T : Int) ≤ 2147483647 := by omega
        have hgt : (2147483647 : Int) < T := by omega
        have HR : Hid (decide (2147483647 < bulkO ps) = true) := hid (by
          have := bulkO_le ps k
          rw [← HT.out] at this
          simp only [decide_eq_true_eq]
          omega)
        go_wp2
        go_ret
        exact ⟨by rw [HR.out]; simp [hgt], rfl⟩
    · have hge : ¬ (k : Int) < n := by omega
      have hkn : k = n := by omega
      have HR : Hid (bulkO ps = T) := hid (by rw [HT.out, hkn, HN.out]; simp)
      go_wp2
      go_ret
      exact ⟨by rw [HR.out]; simp; omega, rfl⟩
end Go.Proofs.Ytoifblndpcelkaa
