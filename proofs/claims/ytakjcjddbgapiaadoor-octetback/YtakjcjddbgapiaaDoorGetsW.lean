/-
  The walk of the statement OctetGets.
-/
import Derived.Test.YtakjcjddbgapiaaDoorLent
namespace Go.Proofs.YtakjcjddbgapiaaDoor
open Go.RowKit
set_option linter.unusedVariables false

/-- what Get answers. -/
def getAns (zs : List Int) (a m : Int) : Int × Int := if m < 1 ∨ 8 < m ∨ a < 0 then (0, 1) else if (zs.length : Int) - m < a then (0, 5) else (getTo zs a.toNat m.toNat, 0)

theorem get_part (pt : Part) (a m : Int) (w : World) (hok : pt.ok w) (hl : pt.zs.length ≤ 140737488351232) :
    Calls Tryd.prog 17 #[pt.val, .int .i64 a, .int .i64 m] w fun e w' => e = .returned (.tuple #[.int .u64 (getAns pt.zs a m).1, .int .i64 (getAns pt.zs a m).2]) ∧ w' = w := by
  unfold getAns
  by_cases h1 : m < 1 ∨ 8 < m ∨ a < 0
  · rw [if_pos h1]
    exact get_arg _ a m w h1
  · rw [if_neg h1]
    by_cases h2 : (pt.zs.length : Int) - m < a
    · rw [if_pos h2]
      exact get_short _ _ _ a m w (by omega) (by omega) (by omega) h2 (by omega)
    · rw [if_neg h2]
      have hbd := part_bd hok
      obtain ⟨x, c, zs⟩ := pt
      simp only [Part.val] at *
      rcases hok.2 with h | ⟨b, o, ha, hc⟩
      · simp only at h; subst h; simp at h2; omega
      · simp only at ha hc
        subst ha
        obtain ⟨A, hA⟩ := Int.eq_ofNat_of_zero_le (show 0 ≤ a by omega)
        obtain ⟨M, hM⟩ := Int.eq_ofNat_of_zero_le (show 0 ≤ m by omega)
        rw [hA, hM, Int.toNat_natCast, Int.toNat_natCast]
        exact get_ok b o zs.length c zs A M w (by omega) (by omega) (by omega) (by omega) hc hbd

theorem mul_add_byte (x y : Int) (h0 : 0 ≤ x) (h1 : x < 72057594037927936) (h2 : 0 ≤ y) (h3 : y ≤ 255) :
    IntKind.u64.wrap (IntKind.u64.wrap (x * 256) + IntKind.u64.wrap y) = x * 256 + y := by
  simp only [IntKind.wrap_u64]; omega

set_option maxHeartbeats 400000 in
theorem refGet_ok (b off len cap : Nat) (zs : List Int) (a m : Nat) (w : World) (h1 : 1 ≤ m) (h2 : m ≤ 8) (h3 : a + m ≤ len) (h4 : len ≤ 9223372036854775807)
    (hc : ∀ j, j < len → w.cell? ⟨b, off + j, none⟩ = some (.int .u8 (zs.getD j 0))) (hz : ∀ j, 0 ≤ zs.getD j 0 ∧ zs.getD j 0 ≤ 255) :
    Calls Tryd.prog 18 #[.slice (some ⟨b, off, none⟩) len cap, .int .i64 a, .int .i64 m] w fun e w' => e = .returned (.tuple #[.int .u64 (getTo zs a m), .int .i64 0]) ∧ w' = w := by
  have n1 : decide ((a : Int) < 0) = false := by simp
  have n2 : decide ((len : Int) < a) = false := by simp; omega
  have n3 : decide ((len : Int) - a < m) = false := by simp; omega
  go_enter Tryd.func18, Tryd.ntmps18
  go_wp2
  go_loop [8, 9] (fun n i => ∃ k : Nat, k ≤ m ∧ i = .int .i64 k ∧ n = .int .u64 (getTo zs a k)) (fun _ i => m - (intOf i).toNat)
  case atStart => exact ⟨0, Nat.zero_le _, rfl, rfl⟩
  case round =>
    obtain ⟨k, hk, rfl, rfl⟩ := hrel
    have hg := getTo_bd zs hz a k
    by_cases hlt : k < m
    · have hcell := hc (a + k) (by omega)
      have hzz := hz (a + k)
      have hp := pow_le56 k (by omega)
      have HG : Hid (getTo zs a (k + 1) = getTo zs a k * 256 + zs.getD (a + k) 0) := rfl
      have hg1 : getTo zs a k < 72057594037927936 := by omega
      obtain ⟨y, hy⟩ : ∃ y, y = zs.getD (a + k) 0 := ⟨_, rfl⟩
      obtain ⟨x, hx⟩ : ∃ x, x = getTo zs a k := ⟨_, rfl⟩
      rw [← hy] at hcell hzz HG
      rw [← hx] at hg hg1 HG ⊢
      have hg0 := hg.1
      clear hy hx hp hc hz hg
      go_wp2
      go_round
      case rel => exact ⟨k + 1, by omega, by go_num, by rw [HG.out]⟩
      case measure => simp [intOf]; omega
    · have : k = m := by omega
      subst this
      go_wp2
      go_ret2
      exact ⟨rfl, rfl⟩

set_option maxHeartbeats 400000 in
theorem refGet_arg (v : Value) (a m : Int) (w : World) (h : m < 1 ∨ 8 < m ∨ a < 0) :
    Calls Tryd.prog 18 #[v, .int .i64 a, .int .i64 m] w fun e w' => e = .returned (.tuple #[.int .u64 0, .int .i64 1]) ∧ w' = w := by
  by_cases h1 : m < 1
  · clear h
    go_enter Tryd.func18, Tryd.ntmps18
    go_wp2
    go_ret2
    exact ⟨rfl, rfl⟩
  · by_cases h2 : 8 < m
    · clear h
      go_enter Tryd.func18, Tryd.ntmps18
      go_wp2
      go_ret2
      exact ⟨rfl, rfl⟩
    · have h3 : a < 0 := by omega
      clear h
      go_enter Tryd.func18, Tryd.ntmps18
      go_wp2
      go_ret2
      exact ⟨rfl, rfl⟩

set_option maxHeartbeats 400000 in
theorem refGet_short (x : Option Addr) (len cap : Nat) (a m : Int) (w : World) (h1 : 1 ≤ m) (h2 : m ≤ 8) (h3 : 0 ≤ a) (h4 : (len : Int) - m < a) (h5 : len ≤ 9223372036854775807) (h6 : a ≤ 9223372036854775807) :
    Calls Tryd.prog 18 #[.slice x len cap, .int .i64 a, .int .i64 m] w fun e w' => e = .returned (.tuple #[.int .u64 0, .int .i64 5]) ∧ w' = w := by
  have n1 : ¬ m < 1 := by omega
  have n2 : ¬ 8 < m := by omega
  have n3 : ¬ a < 0 := by omega
  by_cases h7 : (len : Int) < a
  · go_enter Tryd.func18, Tryd.ntmps18
    go_wp2
    go_ret2
    exact ⟨rfl, rfl⟩
  · have h8 : (len : Int) - a < m := by omega
    go_enter Tryd.func18, Tryd.ntmps18
    go_wp2
    go_ret2
    exact ⟨rfl, rfl⟩

theorem refGet_part (pt : Part) (a m : Int) (w : World) (hok : pt.ok w) (hl : pt.zs.length ≤ 140737488351232) (ha6 : a ≤ 9223372036854775807) :
    Calls Tryd.prog 18 #[pt.val, .int .i64 a, .int .i64 m] w fun e w' => e = .returned (.tuple #[.int .u64 (getAns pt.zs a m).1, .int .i64 (getAns pt.zs a m).2]) ∧ w' = w := by
  unfold getAns
  by_cases h1 : m < 1 ∨ 8 < m ∨ a < 0
  · rw [if_pos h1]
    exact refGet_arg _ a m w h1
  · rw [if_neg h1]
    by_cases h2 : (pt.zs.length : Int) - m < a
    · rw [if_pos h2]
      exact refGet_short _ _ _ a m w (by omega) (by omega) (by omega) h2 (by omega) ha6
    · rw [if_neg h2]
      have hbd := part_bd hok
      obtain ⟨x, c, zs⟩ := pt
      simp only [Part.val] at *
      rcases hok.2 with h | ⟨b, o, ha, hc⟩
      · simp only at h; subst h; simp at h2; omega
      · simp only at ha hc
        subst ha
        obtain ⟨A, hA⟩ := Int.eq_ofNat_of_zero_le (show 0 ≤ a by omega)
        obtain ⟨M, hM⟩ := Int.eq_ofNat_of_zero_le (show 0 ≤ m by omega)
        rw [hA, hM, Int.toNat_natCast, Int.toNat_natCast]
        exact refGet_ok b o zs.length c zs A M w (by omega) (by omega) (by omega) (by omega) hc hbd

set_option maxHeartbeats 400000 in
theorem octetGets_walk (pt : Part) (a m : Int) (w : World) (ht : Pow10 w) (hok : pt.ok w) (hl : pt.zs.length ≤ 140737488351232) (ha : -9223372036854775808 ≤ a ∧ a ≤ 9223372036854775807) (hm : -9223372036854775808 ≤ m ∧ m ≤ 9223372036854775807) :
    Calls Tryd.prog 5 #[pt.val, .int .i64 a, .int .i64 m] w fun e w' => e = .returned (.bool true) ∧ Below w.heap.size w w' := by
  have HT : Hid (Pow10 w) := ht
  have HOK : Hid (pt.ok w) := hok
  have HV : Hid (pt.val = .slice pt.a pt.zs.length pt.c) := rfl
  clear ht hok
  rw [HV.out]
  go_enter Tryd.func5, Tryd.ntmps5
  go_wp2_with fail
  refine (live_any _ HT.out).mono ?_
  rintro e w1 ⟨rfl, hb1⟩
  have HOK1 : Hid (pt.ok w1) := Part.ok_below HOK.out hb1
  have HB1 : Hid (Below w.heap.size w w1) := hb1
  have hz1 : w.heap.size ≤ w1.heap.size := hb1.size
  clear hb1
  go_wp2_with fail
  refine (lent_any pt _ HOK1.out hl).mono ?_
  rintro e w2 ⟨rfl, rfl⟩
  have hb2 : Below w1.heap.size w1 (w1.alloc (.cells (L2 pt.zs) 5)) := (Below.refl _ _).alloc (Nat.le_refl _) _
  have HOK2 : Hid (pt.ok (w1.alloc (.cells (L2 pt.zs) 5))) := Part.ok_below HOK1.out hb2
  have HG : Hid ((w1.alloc (.cells (L2 pt.zs) 5)).heap[w1.heap.size]? = some (.cells (L2 pt.zs) 5 (0, 0))) := heap_new _ _
  have HL : Hid ((⟨some ⟨w1.heap.size, 0, none⟩, pt.zs.length + 2, pt.zs⟩ : Part).ok (w1.alloc (.cells (L2 pt.zs) 5))) := ⟨HOK1.out.1, Or.inr ⟨w1.heap.size, 0, rfl, fun j hj => by
    rw [cell_of_heap HG.out, Nat.zero_add, L2_lo _ _ hj]⟩⟩
  clear hb2
  go_wp2_with fail
  refine (get_part ⟨some ⟨w1.heap.size, 0, none⟩, pt.zs.length + 2, pt.zs⟩ a m _ HL.out hl).mono ?_
  rintro e w2 ⟨rfl, rfl⟩
  go_wp2_with fail
  refine (refGet_part pt a m _ HOK2.out hl ha.2).mono ?_
  rintro e w2 ⟨rfl, rfl⟩
  go_wp2_with fail
  refine (asLent_any w1.heap.size pt _ HOK2.out hl HG.out).mono ?_
  rintro e w3 ⟨rfl, ho⟩
  have HB3 : Hid (Below w.heap.size w w3) := (HB1.out.alloc hz1 _).trans (ho.below hz1)
  clear ho
  go_wp2
  go_ret
  exact ⟨by simp, HB3.out⟩
end Go.Proofs.YtakjcjddbgapiaaDoor
