/-
  The document's bound, of any parts: slipwayref02.Beyond.
-/
import Derived.Test.YtlephdpplfpliaaDNew
import Derived.Test.YtlephdpplfpliaaBMem
namespace Go.Proofs.Ytlephdpplfpliaa
open Go.RowKit
set_option linter.all false

/-- what Beyond counts. -/
def bulk (ps : List Part) : Nat := (ps.map fun p => min p.zs.length 2147483647 + 1).sum
theorem bulk_take (ps : List Part) (i : Nat) (h : i < ps.length) : bulk (ps.take (i + 1)) = bulk (ps.take i) + min (ps.getD i Part.nil).zs.length 2147483647 + 1 := by
  unfold bulk
  rw [List.take_succ_eq_append_getElem h, List.getD_eq_getElem?_getD, List.getElem?_eq_getElem h]
  simp only [List.map_append, List.sum_append, List.map_cons, List.map_nil, List.sum_cons, List.sum_nil, Option.getD_some]
  omega
theorem bulk_take_le (ps : List Part) (i : Nat) : bulk (ps.take i) ≤ bulk ps := by
  have e : bulk ps = bulk (ps.take i) + bulk (ps.drop i) := by
    unfold bulk; rw [← List.sum_append, ← List.map_append, List.take_append_drop]
  omega
/-- what is within the bound: few parts, few bytes. -/
theorem bulk_within : ∀ ps : List Part, bulk ps ≤ 2147483647 → (flat ps).length + ps.length ≤ bulk ps
  | [], _ => by simp [flat, bulk]
  | p :: ps, h => by
    have e : bulk (p :: ps) = (min p.zs.length 2147483647 + 1) + bulk ps := by simp [bulk]
    have f : flat (p :: ps) = p.zs ++ flat ps := by simp [flat]
    have ih := bulk_within ps (by omega)
    rw [f, e]
    simp only [List.length_append, List.length_cons]
    omega

set_option maxHeartbeats 800000 in
theorem refBeyond_any (a : Option Addr) (cap : Nat) (ps : List Part) (w : World) (hp : ∀ i, i < ps.length → ∃ b o, a = some ⟨b, o, none⟩ ∧ w.cell? ⟨b, o + i, none⟩ = some (ps.getD i Part.nil).val)
    (hl : ∀ p, p ∈ ps → p.zs.length ≤ 140737488355328) (hn : ps.length ≤ 140737488355328) :
    Calls Try.prog 6 #[.slice a ps.length cap] w fun e w' => e = .returned (.bool (decide (2147483647 < bulk ps))) ∧ w' = w := by
  obtain ⟨N, hN⟩ : ∃ N, N = ps.length := ⟨_, rfl⟩
  have HN : Hid (N = ps.length) := hN
  rw [← hN] at hn ⊢
  clear hN
  go_enter Try.func6, Try.ntmps6
  go_wp2
  go_loop [3, 4] (fun t i => ∃ k m : Nat, k ≤ N ∧ i = .int .i64 k ∧ t = .int .i64 m ∧ m = bulk (ps.take k) ∧ m ≤ 4294967296) (fun _ i => N - (intOf i).toNat)
  case atStart => exact ⟨0, 0, by omega, rfl, rfl, by simp [bulk], by omega⟩
  case round =>
    obtain ⟨k, m, hk, rfl, rfl, hm, hmb⟩ := hrel
    have HM : Hid (m = bulk (ps.take k)) := hm
    clear hm
    by_cases hlt : k < N
    · by_cases hb : (m : Int) ≤ 2147483647
      · have hkp : k < ps.length := by rw [← HN.out]; exact hlt
        obtain ⟨b, o, ha, hc⟩ := hp k hkp
        have hpk : ps.getD k Part.nil ∈ ps := by rw [List.getD_eq_getElem?_getD, List.getElem?_eq_getElem hkp]; exact List.getElem_mem hkp
        have hpl := hl _ hpk
        have HB : Hid (bulk (ps.take (k + 1)) = m + min (ps.getD k Part.nil).zs.length 2147483647 + 1) := by unfold Hid; rw [bulk_take ps k hkp, HM.out]
        unfold Part.val at hc
        subst ha
        generalize (ps.getD k Part.nil).zs.length = L at *
        clear hp hpk hl
        by_cases hL : L ≤ 2147483647
        · have hmin : min (L : Int) 2147483647 = L := by omega
          have HB2 : Hid (m + L + 1 = bulk (ps.take (k + 1))) := by unfold Hid; rw [HB.out]; omega
          go_wp2
          go_round
          case rel => exact ⟨k + 1, m + L + 1, by omega, by go_num, by go_num, HB2.out, by omega⟩
          case measure => simp [intOf]; omega
        · have hmin : min (L : Int) 2147483647 = 2147483647 := by omega
          obtain ⟨q, hq⟩ : ∃ q : Nat, (q : Int) = (m : Int) + 2147483648 := ⟨m + 2147483648, by omega⟩
          have HB2 : Hid (q = bulk (ps.take (k + 1))) := by unfold Hid; rw [HB.out]; omega
          have HQ := Bk.hid hq
          clear hq
          go_wp2
          go_round
          case rel => exact ⟨k + 1, q, by omega, by go_num, by have := HQ.out; first | (congr 1; omega) | (simp; omega), HB2.out, by have := HQ.out; omega⟩
          case measure => simp [intOf]; omega
      · have HE : Hid (decide (2147483647 < bulk ps) = true) := by
          have h1 := bulk_take_le ps k
          have h2 := HM.out
          unfold Hid; simp; omega
        have hb2 : decide ((m : Int) ≤ 2147483647) = false := by simpa using hb
        have hb3 : (2147483647 : Int) < m := by omega
        clear hp hl
        go_wp2
        go_ret
        exact ⟨Bk.ret_bool HE.out.symm, rfl⟩
    · have HE : Hid (bulk ps = m) := by
        unfold Hid
        rw [HM.out, List.take_of_length_le (by rw [← HN.out]; omega)]
      clear hp hl
      go_wp2
      go_ret
      refine ⟨Bk.ret_bool ?_, rfl⟩
      rw [HE.out, Bool.eq_iff_iff]
      simp
      try omega
end Go.Proofs.Ytlephdpplfpliaa
