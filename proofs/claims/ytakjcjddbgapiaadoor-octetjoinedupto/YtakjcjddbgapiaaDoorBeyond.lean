/-
  The contract of slipwayref01.Beyond; octet.Sum of one part; the arithmetic of sums.
-/
import Derived.Test.YtakjcjddbgapiaaDoorOwnB
namespace Go.Proofs.YtakjcjddbgapiaaDoor
open Go.RowKit
set_option linter.unusedVariables false

/-- what Beyond counts. -/
def bulk (ps : List Part) : Nat := (ps.map fun p => p.zs.length + 1).sum
theorem bulk_take (ps : List Part) (i : Nat) (h : i < ps.length) : bulk (ps.take (i + 1)) = bulk (ps.take i) + (ps.getD i Part.nil).zs.length + 1 := by
  unfold bulk
  rw [List.take_succ_eq_append_getElem h, List.getD_eq_getElem?_getD, List.getElem?_eq_getElem h]
  simp only [List.map_append, List.sum_append, List.map_cons, List.map_nil, List.sum_cons, List.sum_nil, Option.getD_some]
  omega
theorem bulk_take_le (ps : List Part) (i : Nat) : bulk (ps.take i) ≤ bulk ps := by
  have e : bulk ps = bulk (ps.take i) + bulk (ps.drop i) := by
    unfold bulk; rw [← List.sum_append, ← List.map_append, List.take_append_drop]
  omega

set_option maxHeartbeats 400000 in
theorem beyond_any (a : Option Addr) (cap : Nat) (ps : List Part) (w : World) (hp : ∀ i, i < ps.length → ∃ b o, a = some ⟨b, o, none⟩ ∧ w.cell? ⟨b, o + i, none⟩ = some (ps.getD i Part.nil).val)
    (hl : ∀ p, p ∈ ps → p.zs.length ≤ 140737488351232) (hn : ps.length ≤ 140737488355328) :
    Calls Tryd.prog 20 #[.slice a ps.length cap] w fun e w' => e = .returned (.bool (decide (2147483647 < bulk ps))) ∧ w' = w := by
  obtain ⟨N, hN⟩ : ∃ N, N = ps.length := ⟨_, rfl⟩
  have HN : Hid (N = ps.length) := hN
  rw [← hN] at hn ⊢
  clear hN
  go_enter Tryd.func20, Tryd.ntmps20
  go_wp2
  go_loop [3, 4] (fun t i => ∃ k m : Nat, k ≤ N ∧ i = .int .i64 k ∧ t = .int .i64 m ∧ m = bulk (ps.take k) ∧ m ≤ 140737488351232 + 2147483648) (fun _ i => N - (intOf i).toNat)
  case atStart => exact ⟨0, 0, by omega, rfl, rfl, by simp [bulk], by omega⟩
  case round =>
    obtain ⟨k, m, hk, rfl, rfl, hm, hmb⟩ := hrel
    have HM : Hid (m = bulk (ps.take k)) := hm
    clear hm
    by_cases hlt : k < N
    · by_cases hb : (m : Int) ≤ 2147483647
      · have hkp : k < ps.length := by rw [← HN.out]; exact hlt
        obtain ⟨b, o, ha, hc⟩ := hp k hkp
        have hpk : ps.getD k Part.nil ∈ ps := by rw [List.getD_eq_getElem?_getD, List.getElem?_eq_getElem hkp]; exact List.getElem_mem hkp
        have hpl := hl _ hpk
        have HB : Hid (bulk (ps.take (k + 1)) = m + (ps.getD k Part.nil).zs.length + 1) := by unfold Hid; rw [bulk_take ps k hkp, HM.out]
        unfold Part.val at hc
        subst ha
        generalize (ps.getD k Part.nil).zs.length = L at *
        clear hp hpk hl
        go_wp2
        go_round
        case rel => exact ⟨k + 1, m + L + 1, by omega, by go_num, by go_num, HB.out.symm, by omega⟩
        case measure => simp [intOf]; omega
      · have HE : Hid (decide (2147483647 < bulk ps) = true) := by
          have h1 := bulk_take_le ps k
          have h2 := HM.out
          unfold Hid; simp; omega
        have hb2 : decide ((m : Int) ≤ 2147483647) = false := by simpa using hb
        have hb3 : (2147483647 : Int) < m := by omega
        clear hp hl
        go_wp2
        go_ret
        exact ⟨ret_bool HE.out.symm, rfl⟩
    · have HE : Hid (bulk ps = m) := by
        unfold Hid
        rw [HM.out, List.take_of_length_le (by rw [← HN.out]; omega)]
      clear hp hl
      go_wp2
      go_ret
      refine ⟨ret_bool ?_, rfl⟩
      rw [HE.out, Bool.eq_iff_iff]
      simp
      try omega

theorem sum_one (pt : Part) (b : Nat) (w : World) (hc : w.cell? ⟨b, 0, none⟩ = some pt.val) (hok : pt.ok w) (hl : pt.zs.length ≤ 140737488355328) (cap : Nat) :
    Calls Tryd.prog 21 #[.slice (some ⟨b, 0, none⟩) 1 cap] w fun e w' => e = .returned (.int .u16 (sumOf pt.zs)) ∧ w' = w := by
  have h := sum_any b 0 cap [pt] w (fun i hi => by
    have : i = 0 := by simp at hi; omega
    subst this; simpa using hc) (fun p hp => by simp at hp; subst hp; exact hok) (by simpa [flat] using hl) (by simp)
  have e : flat [pt] = pt.zs := by simp [flat]
  rw [e] at h
  exact h

theorem foldl_shift : ∀ (l : List Int) (t : Int) (h : Bool), l.foldl step (t, h) = (t + (l.foldl step (0, h)).1, (l.foldl step (0, h)).2)
  | [], t, h => by simp
  | z :: l, t, h => by
    simp only [List.foldl_cons, step]
    rw [foldl_shift l (t + _), foldl_shift l (0 + _)]
    simp; omega
theorem foldl_par : ∀ (l : List Int) (h : Bool), (l.foldl step (0, h)).2 = (if l.length % 2 = 0 then h else !h)
  | [], h => by simp
  | z :: l, h => by
    simp only [List.foldl_cons, step]
    rw [foldl_shift]
    simp only [foldl_par l, List.length_cons]
    by_cases hl : l.length % 2 = 0
    · rw [if_pos hl, if_neg (by omega)]
    · rw [if_neg hl, if_pos (by omega)]; simp
/-- bytes with a word in an even place: the sum is that of the bytes about it, and the word. -/
theorem run_word (A C : List Int) (x y : Int) (h : A.length % 2 = 0) : (run (A ++ (x :: y :: C))).1 = (run A).1 + (x * 256 + y) + (run C).1 := by
  unfold run
  rw [List.foldl_append]
  have hp := foldl_par A true
  rw [if_pos h] at hp
  have e : A.foldl step (0, true) = ((A.foldl step (0, true)).1, true) := Prod.ext rfl hp
  rw [e]
  simp only [List.foldl_cons, step, Bool.not_true, Bool.not_false, if_true]
  rw [foldl_shift]
  simp
  omega
theorem run_nonneg (l : List Int) (hz : ∀ z, z ∈ l → 0 ≤ z ∧ z ≤ 255) : 0 ≤ (run l).1 := (run_bd l hz).1
end Go.Proofs.YtakjcjddbgapiaaDoor
