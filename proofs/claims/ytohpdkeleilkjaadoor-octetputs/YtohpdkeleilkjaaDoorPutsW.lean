/-
  The walk of the statement OctetPuts.
-/
import Derived.Test.YtohpdkeleilkjaaDoorOpen
import Derived.Test.YtohpdkeleilkjaaDoorRefPut
import Derived.Test.YtohpdkeleilkjaaDoorBBookL
namespace Go.Proofs.YtohpdkeleilkjaaDoor
open Go.RowKit
set_option linter.all false

/-- a number's bytes as a list. -/
def putL (n : Int) (m : Nat) : Nat → List Int
  | 0 => List.replicate m 0
  | k + 1 => (putL n m k).set (m - 1 - k) (byteAt n k)
theorem putL_is (n : Int) (m : Nat) : ∀ k, putTo n m k = (Bk.u8s (putL n m k)).toArray
  | 0 => by rw [putTo, putL, Bk.made_eq]
  | k + 1 => by rw [putTo, putL, putL_is n m k, ← Bk.u8s_set]; simp
theorem putL_len (n : Int) (m : Nat) : ∀ k, (putL n m k).length = m
  | 0 => by simp [putL]
  | k + 1 => by simp [putL, putL_len n m k]
theorem putL_bd (n : Int) (m : Nat) : ∀ k, ∀ z, z ∈ putL n m k → 0 ≤ z ∧ z ≤ 255
  | 0, z, h => by simp [putL] at h; omega
  | k + 1, z, h => by
    rcases List.mem_or_eq_of_mem_set h with h1 | h1
    · exact putL_bd n m k z h1
    · rw [h1]; unfold byteAt; omega
def putZ (n m : Int) : List Int := if 1 ≤ m ∧ m ≤ 8 then putL n m.toNat m.toNat else []
theorem putZ_bd (n m : Int) : (∀ z, z ∈ putZ n m → 0 ≤ z ∧ z ≤ 255) ∧ (putZ n m).length ≤ 8 := by
  unfold putZ
  split
  · exact ⟨putL_bd _ _ _, by rw [putL_len]; omega⟩
  · simp
def PAns (w w' : World) (ys : List Int) (a : Option Addr) (n c : Nat) : Prop := Bk.Row w' 5 (.slice a n c) (Bk.u8s ys) ∧ (∀ b, (Value.slice a n c).ownBlock = some b → w.heap.size ≤ b ∧ b < w'.heap.size) ∧ Below w.heap.size w w'
theorem pans_of {f : Nat} {n m : Int} {w : World} (hn : 0 ≤ n) (hn2 : n ≤ 18446744073709551615)
    (yes : ∀ (k : Nat), 1 ≤ k → k ≤ 8 → Calls Tryd.prog f #[.int .u64 n, .int .i64 k] w fun e w' => e = .returned (.slice (some ⟨w.heap.size, 0, none⟩) k k) ∧ w' = w.alloc (.cells (putTo n k k) 5))
    (no : m < 1 ∨ 8 < m → Calls Tryd.prog f #[.int .u64 n, .int .i64 m] w fun e w' => e = .returned (.slice none 0 0) ∧ w' = w) :
    Calls Tryd.prog f #[.int .u64 n, .int .i64 m] w fun e w' => ∃ a k c, e = .returned (.slice a k c) ∧ PAns w w' (putZ n m) a k c := by
  unfold putZ
  by_cases h : 1 ≤ m ∧ m ≤ 8
  · rw [if_pos h]
    obtain ⟨k, hk⟩ := Int.eq_ofNat_of_zero_le (show 0 ≤ m by omega)
    rw [hk, Int.toNat_natCast]
    refine (yes k (by omega) (by omega)).mono fun e w' ⟨he, hw⟩ => ⟨_, _, _, he, ?_⟩
    subst hw
    have hr : Bk.Row (w.alloc (.cells (putTo n k k) 5)) 5 (.slice (some ⟨w.heap.size, 0, none⟩) k k) (Bk.u8s (putL n k k)) := by
      have := Bk.Row.of_heap (w := w.alloc (.cells (putTo n k k) 5)) (e := 5) (g := w.heap.size) (vs := Bk.u8s (putL n k k)) (by rw [← putL_is]; exact Bk.heap_new _ _) (by rw [Bk.u8s_len, putL_len]; unfold maxLen; omega)
      rw [Bk.u8s_len, putL_len] at this
      exact this
    exact ⟨hr, fun b hb => ⟨by simp [Value.ownBlock] at hb; omega, hr.lt hb⟩, Bk.bpush (Below.refl _ _) _⟩
  · rw [if_neg h]
    refine (no (by omega)).mono fun e w' ⟨he, hw⟩ => ⟨none, 0, 0, he, ?_⟩
    subst hw
    exact ⟨Bk.Row.nil _ _, by simp [Value.ownBlock], Below.refl _ _⟩
theorem put_u (n m : Int) (w : World) (hn : 0 ≤ n ∧ n ≤ 18446744073709551615) : Calls Tryd.prog 5 #[.int .u64 n, .int .i64 m] w fun e w' => ∃ a k c, e = .returned (.slice a k c) ∧ PAns w w' (putZ n m) a k c :=
  pans_of hn.1 hn.2 (fun k h1 h2 => put_yes n k w h1 h2 hn.1 hn.2) (fun h => put_no n m w h)
theorem refPut_u (n m : Int) (w : World) (hn : 0 ≤ n ∧ n ≤ 18446744073709551615) : Calls Tryd.prog 6 #[.int .u64 n, .int .i64 m] w fun e w' => ∃ a k c, e = .returned (.slice a k c) ∧ PAns w w' (putZ n m) a k c :=
  pans_of hn.1 hn.2 (fun k h1 h2 => refPut_yes n k w h1 h2 hn.1 hn.2) (fun h => refPut_no n m w h)
theorem row_conv {w : World} {v : Value} {zs : List Int} (h : Bk.Row w 5 v (Bk.u8s zs)) (hz : ∀ z, z ∈ zs → 0 ≤ z ∧ z ≤ 255) : (convert 24 9 v).run Tryd.prog w = .ok (.string (strOfNums zs)) w := by
  obtain ⟨pt, e1, e2, ok⟩ := h.part hz
  rw [e1, ← e2]
  exact Bk.conv_part pt _ ok
theorem str_eq (s : ByteArray) : (s == s) = true := by
  cases s with | mk d => show (d == d) = true; simp

set_option maxRecDepth 20000 in
set_option maxHeartbeats 2000000 in
theorem octetPuts_walk (n m : Int) (w : World) (ht : Pow10 w) (hn : 0 ≤ n ∧ n ≤ 18446744073709551615) (hm : -9223372036854775808 ≤ m ∧ m ≤ 9223372036854775807) :
    Calls Tryd.prog 3 #[.int .u64 n, .int .i64 m] w fun e w' => e = .returned (.bool true) ∧ Below w.heap.size w w' := by
  have HT : Hid (Pow10 w) := ht
  have HP : Hid (∀ w, Calls Tryd.prog 5 #[.int .u64 n, .int .i64 m] w fun e w' => ∃ a k c, e = .returned (.slice a k c) ∧ PAns w w' (putZ n m) a k c) := fun w => put_u n m w hn
  have HQ : Hid (∀ w, Calls Tryd.prog 6 #[.int .u64 n, .int .i64 m] w fun e w' => ∃ a k c, e = .returned (.slice a k c) ∧ PAns w w' (putZ n m) a k c) := fun w => refPut_u n m w hn
  have HZ := Bk.hid (putZ_bd n m).1
  have HZL := Bk.hid (putZ_bd n m).2
  clear ht hn hm
  generalize putZ n m = Y at *
  go_enter Tryd.func3, Tryd.ntmps3
  go_wp2_with fail
  refine (live_any _ HT.out).mono ?_
  rintro e w1 ⟨rfl, hb1⟩
  have HB1 := Bk.hid hb1
  have z01 : w.heap.size ≤ w1.heap.size := hb1.size
  clear hb1
  go_wp2_with fail
  refine (HP.out _).mono ?_
  rintro e w2 ⟨a1, k1, c1, rfl, an⟩
  have HB2 := Bk.hid (Bk.bstep HB1.out an.2.2)
  have HR1 := Bk.hid an.1
  have HI1 := Bk.hid an.2.1
  have z12 : w1.heap.size ≤ w2.heap.size := an.2.2.size
  clear an HB1
  go_wp2_with fail
  refine (HP.out _).mono ?_
  rintro e w3 ⟨a2, k2, c2, rfl, an⟩
  have HB3 := Bk.hid (Bk.bstep HB2.out an.2.2)
  have HR13 := Bk.hid (HR1.out.below an.2.2)
  have HR2 := Bk.hid an.1
  have HI2 := Bk.hid an.2.1
  have z23 : w2.heap.size ≤ w3.heap.size := an.2.2.size
  clear an HB2 HR1
  go_wp2_with fail
  refine (HQ.out _).mono ?_
  rintro e w4 ⟨a3, k3, c3, rfl, an⟩
  have HB4 := Bk.hid (Bk.bstep HB3.out an.2.2)
  have HR14 := Bk.hid (HR13.out.below an.2.2)
  have HR24 := Bk.hid (HR2.out.below an.2.2)
  have HR3 := Bk.hid an.1
  have HI3 := Bk.hid an.2.1
  have z34 : w3.heap.size ≤ w4.heap.size := an.2.2.size
  clear an HB3 HR13 HR2
  have v1 := row_conv HR14.out HZ.out
  have v2 := row_conv HR24.out HZ.out
  have v3 := row_conv HR3.out HZ.out
  have s1 := Bk.str_same (strOfNums Y)
  generalize hX : strOfNums Y = X at *
  have HX := Bk.hid hX
  clear hX
  have hbk : w.heap.size ≤ w4.heap.size := HB4.out.size
  go_wp2_with fail
  clear v1 v2 v3
  have ra := Bk.bpush (Below.refl w4.heap.size w4) (.cells #[.slice none 0 0, .slice none 0 0] 30)
  have HBk := Bk.hid (Bk.bpush HB4.out (.cells #[.slice none 0 0, .slice none 0 0] 30))
  have HR1k := Bk.hid (HR14.out.below ra)
  have HR2k := Bk.hid (HR24.out.below ra)
  have HR3k := Bk.hid (HR3.out.below ra)
  refine (Bk.take_late w4.heap.size _ _ (.slice a1 k1 c1) [] Y w.heap.size _ (Bk.Late.new w4 w.heap.size hbk) HR1k.out HZ.out (by have := HZL.out; omega) (by simp) (fun b hb => ⟨by have := HI1.out b hb; omega, by have := HI1.out b hb; omega, by simp⟩)).mono ?_
  rintro e w5 ⟨rfl, L5, V5, l5, k5, b5⟩
  have HL5 := Bk.hid l5
  have HB5 := Bk.hid (HBk.out.trans b5)
  have HR25 := Bk.hid (HR2k.out.low k5 (fun b hb => by have := HI2.out b hb; omega))
  have HR35 := Bk.hid (HR3k.out.low k5 (fun b hb => by have := HI3.out b hb; omega))
  clear l5 b5 k5 ra HR1k HR2k HR3k HBk
  generalize w4.heap.size = gk at *
  go_wp2_with fail
  refine (Bk.take_late gk L5 V5 (.slice a2 k2 c2) _ Y w.heap.size w5 HL5.out HR25.out HZ.out (by have := HZL.out; omega) (by simp) (fun b hb => ⟨by have := HI2.out b hb; omega, by have := HI2.out b hb; omega, fun p hp e => by
    simp at hp
    subst hp
    have h1 := HI2.out b hb
    have h2 := HI1.out b e
    omega⟩)).mono ?_
  rintro e w6 ⟨rfl, L6, V6, l6, k6, b6⟩
  have HL6 := Bk.hid l6
  have HB6 := Bk.hid (HB5.out.trans b6)
  have HR36 := Bk.hid (HR35.out.low k6 (fun b hb => by have := HI3.out b hb; omega))
  clear l6 b6 k6 HR25 HR35 HB5 HL5
  go_wp2_with fail
  refine (Bk.owned_late gk L6 V6 _ w.heap.size w6 HL6.out).mono ?_
  rintro e w7 ⟨rfl, b7, k7⟩
  have HB7 := Bk.hid (HB6.out.trans b7)
  have HR37 := Bk.hid (HR36.out.keep fun b hb => k7 b (by have := HI3.out b hb; omega) (fun p hp e => by
    have h3 := HI3.out b hb
    simp at hp
    rcases hp with hp | hp
    · subst hp
      have := HI1.out b e
      omega
    · subst hp
      have := HI2.out b e
      omega))
  clear b7 k7 HR36 HB6 HL6
  go_wp2_with fail
  refine (HP.out _).mono ?_
  rintro e w8 ⟨a8, k8, c8, rfl, an⟩
  have HB8 := Bk.hid (HB7.out.trans (an.2.2.mono HB7.out.size))
  have v8 := row_conv an.1 HZ.out
  have v3 := row_conv (HR37.out.below an.2.2) HZ.out
  rw [HX.out] at v8 v3
  have s2 := str_eq X
  clear an
  go_wp2
  go_ret
  exact ⟨by simp [s2], HB8.out⟩
end Go.Proofs.YtohpdkeleilkjaaDoor
