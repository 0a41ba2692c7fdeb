/-
  The small functions of icmp: isKind, numberAt, sumOf; the document's kind.
-/
import Derived.Test.YthmfappindbjnaaBNum
import Derived.Test.YthmfappindbjnaaBGet
import Derived.Test.YthmfappindbjnaaBSum
import Derived.Test.YthmfappindbjnaaBAns
import Derived.Test.YthmfappindbjnaaBStep
import Derived.Test.YthmfappindbjnaaBClone
namespace Go.Proofs.Ythmfappindbjnaa
open Go.RowKit
set_option linter.all false

def kindB (n : Int) : Bool := decide (n = 0) || decide (n = 3) || decide (n = 8)
set_option maxHeartbeats 400000 in
theorem isKind_any (n : Int) (w : World) :
    Calls Try.prog 23 #[.int .i64 n] w fun e w' => e = .returned (.bool (kindB n)) ∧ w' = w := by
  by_cases h1 : n = 0
  · subst h1
    go_enter Try.func23, Try.ntmps23
    go_wp2
    go_ret
    exact ⟨rfl, rfl⟩
  · by_cases h2 : n = 3
    · subst h2
      go_enter Try.func23, Try.ntmps23
      go_wp2
      go_ret
      exact ⟨rfl, rfl⟩
    · by_cases h3 : n = 8
      · subst h3
        go_enter Try.func23, Try.ntmps23
        go_wp2
        go_ret
        exact ⟨rfl, rfl⟩
      · have e : kindB n = false := by simp [kindB, h1, h2, h3]
        rw [e]
        have k1 : (n == 0) = false := by simpa using h1
        have k2 : (n == 3) = false := by simpa using h2
        have k3 : (n == 8) = false := by simpa using h3
        go_enter Try.func23, Try.ntmps23
        go_wp2
        go_ret
        exact ⟨rfl, rfl⟩
set_option maxHeartbeats 400000 in
theorem refKind_any (n : Int) (w : World) :
    Calls Try.prog 26 #[.int .i64 n] w fun e w' => e = .returned (.bool (kindB n)) ∧ w' = w := by
  by_cases h1 : n = 0
  · subst h1
    go_enter Try.func26, Try.ntmps26
    go_wp2
    go_ret
    exact ⟨rfl, rfl⟩
  · by_cases h2 : n = 3
    · subst h2
      go_enter Try.func26, Try.ntmps26
      go_wp2
      go_ret
      exact ⟨rfl, rfl⟩
    · by_cases h3 : n = 8
      · subst h3
        go_enter Try.func26, Try.ntmps26
        go_wp2
        go_ret
        exact ⟨rfl, rfl⟩
      · have e : kindB n = false := by simp [kindB, h1, h2, h3]
        rw [e]
        have k1 : (n == 0) = false := by simpa using h1
        have k2 : (n == 3) = false := by simpa using h2
        have k3 : (n == 8) = false := by simpa using h3
        go_enter Try.func26, Try.ntmps26
        go_wp2
        go_ret
        exact ⟨rfl, rfl⟩

/-- the numbers at a place. -/
def numAt (zs : List Int) (a : Nat) : Int := zs.getD a 0 * 256 + zs.getD (a + 1) 0
theorem numAt_bd {zs : List Int} (h : ∀ z, z ∈ zs → 0 ≤ z ∧ z ≤ 255) (a : Nat) : 0 ≤ numAt zs a ∧ numAt zs a ≤ 65535 := by
  have h1 := getD_mem_bd h a
  have h2 := getD_mem_bd h (a + 1)
  unfold numAt
  omega
def num4 (zs : List Int) (a : Nat) : Int := ((zs.getD a 0 * 256 + zs.getD (a + 1) 0) * 256 + zs.getD (a + 2) 0) * 256 + zs.getD (a + 3) 0
theorem num4_bd {zs : List Int} (h : ∀ z, z ∈ zs → 0 ≤ z ∧ z ≤ 255) (a : Nat) : 0 ≤ num4 zs a ∧ num4 zs a ≤ 4294967295 := by
  have h1 := getD_mem_bd h a
  have h2 := getD_mem_bd h (a + 1)
  have h3 := getD_mem_bd h (a + 2)
  have h4 := getD_mem_bd h (a + 3)
  unfold num4
  omega
set_option maxHeartbeats 400000 in
theorem numberAt_2 (pt : Part) (a : Nat) (w : World) (hok : pt.ok w) (hl : pt.zs.length ≤ 281474976710656) (ha : a + 2 ≤ pt.zs.length) :
    Calls Try.prog 29 #[pt.val, .int .i64 a, .int .i64 2] w fun e w' => e = .returned (.int .u64 (numAt pt.zs a)) ∧ w' = w := by
  have HG : Hid (Calls Try.prog 37 #[pt.val, .int .i64 a, .int .i64 2] w fun e w'' => e = .returned (.tuple #[.int .u64 (numAt pt.zs a), .int .i64 0]) ∧ w'' = w) := by
    have h := get_part pt a 2 w hok hl
    have e : getAns pt.zs a 2 = (numAt pt.zs a, 0) := by
      unfold getAns
      rw [if_neg (by omega), if_neg (by omega)]
      simp [numAt, getTo, show (2 : Int).toNat = 2 from rfl]
    rw [e] at h
    exact h
  clear hok
  generalize numAt pt.zs a = N at *
  unfold Part.val at *
  generalize pt.zs.length = l at *
  go_enter Try.func29, Try.ntmps29
  go_wp2_with (first | (go_at_call 37; refine HG.out.mono ?_; rintro e w1 ⟨rfl, hw1⟩; subst w1) | fail)
  go_ret
  exact ⟨rfl, rfl⟩
set_option maxHeartbeats 400000 in
theorem numberAt_4 (pt : Part) (a : Nat) (w : World) (hok : pt.ok w) (hl : pt.zs.length ≤ 281474976710656) (ha : a + 4 ≤ pt.zs.length) :
    Calls Try.prog 29 #[pt.val, .int .i64 a, .int .i64 4] w fun e w' => e = .returned (.int .u64 (num4 pt.zs a)) ∧ w' = w := by
  have HG : Hid (Calls Try.prog 37 #[pt.val, .int .i64 a, .int .i64 4] w fun e w'' => e = .returned (.tuple #[.int .u64 (num4 pt.zs a), .int .i64 0]) ∧ w'' = w) := by
    have h := get_part pt a 4 w hok hl
    have e : getAns pt.zs a 4 = (num4 pt.zs a, 0) := by
      unfold getAns
      rw [if_neg (by omega), if_neg (by omega)]
      simp [num4, getTo, show (4 : Int).toNat = 4 from rfl]
    rw [e] at h
    exact h
  clear hok
  generalize num4 pt.zs a = N at *
  unfold Part.val at *
  generalize pt.zs.length = l at *
  go_enter Try.func29, Try.ntmps29
  go_wp2_with (first | (go_at_call 37; refine HG.out.mono ?_; rintro e w1 ⟨rfl, hw1⟩; subst w1) | fail)
  go_ret
  exact ⟨rfl, rfl⟩

/-- the sum over all but the sum's place. -/
def isum (zs : List Int) : Int := sumOf (zs.take 2 ++ zs.drop 4)
theorem sumOf_bd (l : List Int) (hz : ∀ z, z ∈ l → 0 ≤ z ∧ z ≤ 255) : 0 ≤ sumOf l ∧ sumOf l ≤ 65535 := by
  have := cs_bd (run l).1 (run_bd l hz).1
  unfold sumOf; omega
theorem isum_mem {zs : List Int} (h : ∀ z, z ∈ zs → 0 ≤ z ∧ z ≤ 255) : ∀ z, z ∈ zs.take 2 ++ zs.drop 4 → 0 ≤ z ∧ z ≤ 255 := fun z hz => by
  rcases List.mem_append.1 hz with hz | hz
  · exact h z (List.mem_of_mem_take hz)
  · exact h z (List.mem_of_mem_drop hz)
theorem isum_bd {zs : List Int} (h : ∀ z, z ∈ zs → 0 ≤ z ∧ z ≤ 255) : 0 ≤ isum zs ∧ isum zs ≤ 65535 := sumOf_bd _ (isum_mem h)

set_option maxRecDepth 20000 in
set_option maxHeartbeats 1000000 in
theorem isumOf_any (pt : Part) (w : World) (hok : pt.ok w) (h8 : 8 ≤ pt.zs.length) (hl : pt.zs.length ≤ 1480) :
    Calls Try.prog 25 #[pt.val] w fun e w' => e = .returned (.int .u64 (isum pt.zs)) ∧ Below w.heap.size w w' := by
  obtain ⟨pa, c, zs⟩ := pt
  obtain ⟨b, o, ha⟩ : ∃ b o, pa = some ⟨b, o, none⟩ := by
    rcases hok.2.2 with he | ⟨b, o, ha, _⟩
    · simp only at he h8; rw [he] at h8; simp at h8
    · exact ⟨b, o, ha⟩
  subst ha
  have hcap := hok.2.1
  have hbd := isum_bd hok.1
  simp only [Part.val] at *
  have HS : Hid (∀ (W : World) (g : Nat), Below w.heap.size w W → W.heap[g]? = some (.cells #[.slice (some ⟨b, o, none⟩) 2 c, .slice (some ⟨b, o + 4, none⟩) (zs.length - 4) (c - 4)] 24 (0, 0)) → Calls Try.prog 34 #[.slice (some ⟨g, 0, none⟩) 2 2] W fun e w' => e = .returned (.int .u16 (isum zs)) ∧ w' = W) := fun W g hb hg => by
    have o1 := Part.sub_ok (Part.ok_below hok hb) 0 2 c (by omega) (by omega)
    have o2 := Part.sub_ok (Part.ok_below hok hb) 4 (zs.length - 4) (c - 4) (by omega) (by omega)
    have t1 : (zs.drop 4).take (zs.length - 4) = zs.drop 4 := List.take_of_length_le (by simp)
    rw [t1] at o2
    simp only [Nat.add_zero, List.drop_zero] at o1
    have l1 : (zs.take 2).length = 2 := by simp; omega
    have l2 : (zs.drop 4).length = zs.length - 4 := by simp
    have h := sum_any g 0 2 [⟨some ⟨b, o, none⟩, c, zs.take 2⟩, ⟨some ⟨b, o + 4, none⟩, c - 4, zs.drop 4⟩] W (fun i hi => by
      rw [Nat.zero_add, cell_of_heap hg]
      simp only [List.length_cons, List.length_nil] at hi
      obtain rfl | rfl : i = 0 ∨ i = 1 := by omega
      · simp [Part.val, l1]
      · simp [Part.val, l2]) (fun p hp => by
      simp only [List.mem_cons, List.not_mem_nil, or_false] at hp
      rcases hp with rfl | rfl <;> assumption) (by simp [flat]; omega) (by simp)
    have e : flat [⟨some ⟨b, o, none⟩, c, zs.take 2⟩, ⟨some ⟨b, o + 4, none⟩, c - 4, zs.drop 4⟩] = zs.take 2 ++ zs.drop 4 := by simp [flat]
    rw [e] at h
    exact h
  have hw : IntKind.u64.wrap (isum zs) = isum zs := by simp only [IntKind.wrap_u64]; omega
  clear hok hbd
  generalize isum zs = S at *
  generalize zs.length = l at *
  have q1 : (2 : Int) ≤ (c : Int) := by omega
  have q2 : (4 : Int) ≤ (l : Int) := by omega
  have q3 : ¬ c = 4 := by omega
  have q4 : ¬ l = 4 := by omega
  have q5 : (4 : Int) ≤ (c : Int) := by omega
  have q6 : (l : Int) ≤ (c : Int) := by omega
  go_enter Try.func25, Try.ntmps25
  go_wp2
  go_region_held3 (fun w' => True) (exact trivial) (first
    | (go_at_call 34; refine (HS.out _ _ (by exact (bpush (Below.refl _ _) _).drew) (by exact heap_new w _)).mono ?_; rintro e w1 ⟨rfl, hw1⟩; subst w1)
    | fail)
  go_wp2
  go_ret
  exact ⟨rfl, (bpush (Below.refl _ _) _).drew⟩
end Go.Proofs.Ythmfappindbjnaa
