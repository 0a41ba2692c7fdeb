/-
  The statements' own function awake.
-/
import Derived.Test.YtmdkanbfpmdimaaOLivM
namespace Go.Proofs.Ytmdkanbfpmdimaa
open Go.RowKit
set_option linter.all false

theorem awB_bd : ∀ z, z ∈ awB → 0 ≤ z ∧ z ≤ 255 := by decide
theorem awB_str : strOfNums awB = ⟨#[53, 1, 1, 50, 4, 10, 0, 0, 5, 255]⟩ := by rfl
theorem aw_str2 : strOfNums [97, 98] = ⟨#[97, 98]⟩ := by rfl
theorem aw_str3 : strOfNums [0, 0, 14, 16] = ⟨#[0, 0, 14, 16]⟩ := by rfl
theorem aw_str4 : strOfNums [5] = ⟨#[5]⟩ := by rfl
theorem conv_made {W : World} {g n : Nat} {zs : List Int} (hn : zs.length = n) (h : W.heap[g]? = some (.cells (u8s zs).toArray 5 (0, 0))) (hz : ∀ z, z ∈ zs → 0 ≤ z ∧ z ≤ 255) : (convert 41 9 (.slice (some ⟨g, 0, none⟩) n n)).run Try.prog W = .ok (.string (strOfNums zs)) W := by
  subst hn
  exact conv_part ⟨some ⟨g, 0, none⟩, zs.length, zs⟩ W (Part.of_row h (Nat.le_refl _) hz)
set_option maxRecDepth 20000 in
set_option maxHeartbeats 4000000 in
theorem awake_any (w : World) : Calls Try.prog 5 #[] w fun e w' => e = .returned (.bool true) ∧ Hid (Below w.heap.size w w') := by
  have HA0 : Hid (AwI (((w.alloc (.cells #[.int .u8 1] 5)).alloc (.cells #[.int .u8 10, .int .u8 0, .int .u8 0, .int .u8 5] 5)).alloc (.cells #[.int .i64 53, .slice (some ⟨w.heap.size, 0, none⟩) 1 1, .int .i64 50, .slice (some ⟨w.heap.size + 1, 0, none⟩) 4 4] 45)) w.heap.size (w.heap.size + 1) (w.heap.size + 1 + 1)) := by
    have h := (((Holds.nil w).push (.cells #[.int .u8 1] 5)).push (.cells #[.int .u8 10, .int .u8 0, .int .u8 0, .int .u8 5] 5)).push (.cells #[.int .i64 53, .slice (some ⟨w.heap.size, 0, none⟩) 1 1, .int .i64 50, .slice (some ⟨w.heap.size + 1, 0, none⟩) 4 4] 45)
    simp only [World.size_alloc] at h
    exact ⟨h.at 2 _ _ rfl, h.at 1 _ _ rfl, h.at 0 _ _ rfl⟩
  have HB0 : Hid (Below w.heap.size w (((w.alloc (.cells #[.int .u8 1] 5)).alloc (.cells #[.int .u8 10, .int .u8 0, .int .u8 0, .int .u8 5] 5)).alloc (.cells #[.int .i64 53, .slice (some ⟨w.heap.size, 0, none⟩) 1 1, .int .i64 50, .slice (some ⟨w.heap.size + 1, 0, none⟩) 4 4] 45))) := bpush (bpush (bpush (Below.refl _ _) _) _) _
  go_enter Try.func5, Try.ntmps5
  go_wp2_with fail
  generalize (((w.alloc (.cells #[.int .u8 1] 5)).alloc (.cells #[.int .u8 10, .int .u8 0, .int .u8 0, .int .u8 5] 5)).alloc (.cells #[.int .i64 53, .slice (some ⟨w.heap.size, 0, none⟩) 1 1, .int .i64 50, .slice (some ⟨w.heap.size + 1, 0, none⟩) 4 4] 45)) = W0 at *
  generalize w.heap.size + 1 + 1 = g2 at *
  generalize w.heap.size + 1 = g1 at *
  obtain ⟨g0, HA0, t17e⟩ : ∃ g0, Hid (AwI W0 g0 g1 g2) ∧ g0 = w.heap.size := ⟨_, HA0, rfl⟩
  rw [← t17e]
  clear t17e
  refine (aw_pack10 W0 g0 g1 g2 HA0.out).mono ?_
  rintro e w1 ⟨a1, c1, rfl, an⟩
  have HA1 := hid (HA0.out.below an.out.2.2)
  have HB1 := hid (bstep HB0.out an.out.2.2)
  have HR1 := hid an.out.1
  clear an HA0 HB0
  go_wp2_with fail
  refine (aw_pack9 w1 g0 g1 g2 HA1.out).mono ?_
  rintro e w2 ⟨a2, c2, rfl, an⟩
  have HA2 := hid (HA1.out.below an.out.2.2)
  have HB2 := hid (bstep HB1.out an.out.2.2)
  have HR2 := hid (HR1.out.below an.out.2.2)
  clear an HA1 HB1 HR1
  have H3 : Hid (Holds (((w2.alloc (.cells #[.int .u8 53, .int .u8 1, .int .u8 1, .int .u8 7, .int .u8 1, .int .u8 97, .int .u8 255] 5)).alloc (.cells #[.int .u8 7, .int .u8 1, .int .u8 98] 5)).alloc (.cells #[.slice (some ⟨w2.heap.size, 0, none⟩) 7 7, .slice (some ⟨w2.heap.size + 1, 0, none⟩) 3 3] 41)) [(w2.heap.size + 1 + 1, .cells #[.slice (some ⟨w2.heap.size, 0, none⟩) 7 7, .slice (some ⟨w2.heap.size + 1, 0, none⟩) 3 3] 41 (0, 0)), (w2.heap.size + 1, .cells #[.int .u8 7, .int .u8 1, .int .u8 98] 5 (0, 0)), (w2.heap.size, .cells #[.int .u8 53, .int .u8 1, .int .u8 1, .int .u8 7, .int .u8 1, .int .u8 97, .int .u8 255] 5 (0, 0))]) := by
    have h := (((Holds.nil w2).push (.cells #[.int .u8 53, .int .u8 1, .int .u8 1, .int .u8 7, .int .u8 1, .int .u8 97, .int .u8 255] 5)).push (.cells #[.int .u8 7, .int .u8 1, .int .u8 98] 5)).push (.cells #[.slice (some ⟨w2.heap.size, 0, none⟩) 7 7, .slice (some ⟨w2.heap.size + 1, 0, none⟩) 3 3] 41)
    simp only [World.size_alloc] at h
    exact h
  have b3 : Below w2.heap.size w2 (((w2.alloc (.cells #[.int .u8 53, .int .u8 1, .int .u8 1, .int .u8 7, .int .u8 1, .int .u8 97, .int .u8 255] 5)).alloc (.cells #[.int .u8 7, .int .u8 1, .int .u8 98] 5)).alloc (.cells #[.slice (some ⟨w2.heap.size, 0, none⟩) 7 7, .slice (some ⟨w2.heap.size + 1, 0, none⟩) 3 3] 41)) := bpush (bpush (bpush (Below.refl _ _) _) _) _
  have HA3 := hid (HA2.out.below b3)
  have HB3 := hid (bstep HB2.out b3)
  have HR3 := hid (HR2.out.below b3)
  clear b3 HA2 HB2 HR2
  go_wp2_with fail
  generalize (((w2.alloc (.cells #[.int .u8 53, .int .u8 1, .int .u8 1, .int .u8 7, .int .u8 1, .int .u8 97, .int .u8 255] 5)).alloc (.cells #[.int .u8 7, .int .u8 1, .int .u8 98] 5)).alloc (.cells #[.slice (some ⟨w2.heap.size, 0, none⟩) 7 7, .slice (some ⟨w2.heap.size + 1, 0, none⟩) 3 3] 41)) = W3 at *
  refine (aw_parses W3 _ _ _ (H3.out.at 2 _ _ rfl) (H3.out.at 1 _ _ rfl) (H3.out.at 0 _ _ rfl)).mono ?_
  rintro e w4 ⟨a4, c4, rfl, PI⟩
  have HM4 : Hid (∃ E, OwnO W3.heap.size w4 (.slice a4 2 c4) E ∧ codes E = awM) := by
    obtain ⟨E, h1, h2, h3⟩ := PI.out
    exact ⟨E, h1, h2⟩
  have b4 : Below W3.heap.size W3 w4 := by
    obtain ⟨E, h1, h2, h3⟩ := PI.out
    exact h3
  have HA4 := hid (HA3.out.below b4)
  have HB4 := hid (bstep HB3.out b4)
  have HR4 := hid (HR3.out.below b4)
  clear b4 HA3 HB3 HR3 PI H3
  go_wp2_with fail
  refine (aw_find w4 a4 c4 W3 HM4.out).mono ?_
  rintro e w5 ⟨a5, c5, rfl, an⟩
  have HA5 := hid (HA4.out.below an.out.2.2)
  have HB5 := hid (bstep HB4.out an.out.2.2)
  have HR5 := hid (HR4.out.below an.out.2.2)
  have HD5 := hid an.out.1
  clear an HA4 HB4 HR4 HM4
  go_wp2_with fail
  refine (aw_number w5 g0 g1 g2 HA5.out).mono ?_
  rintro e w6 ⟨rfl, b6⟩
  have HA6 := hid (HA5.out.below b6.out)
  have HB6 := hid (bstep HB5.out b6.out)
  have HR6 := hid (HR5.out.below b6.out)
  have HD6 := hid (HD5.out.below b6.out)
  clear b6 HA5 HB5 HR5 HD5
  go_wp2_with fail
  refine (aw_small w6 g0 g1 g2 HA6.out).mono ?_
  rintro e w7 ⟨rfl, b7⟩
  have HB7 := hid (bstep HB6.out b7.out)
  have HR7 := hid (HR6.out.below b7.out)
  have HD7 := hid (HD6.out.below b7.out)
  clear b7 HA6 HB6 HR6 HD6
  go_wp2_with fail
  refine (aw_numbered w7).mono ?_
  rintro e w8 ⟨gn, rfl, M8⟩
  have b8 := bpush M8.out.2.2 (.cells #[.int .i64 51, .slice (some ⟨gn, 0, none⟩) 4 4] 45)
  have HO8 := hid (heap_new w8 (.cells #[.int .i64 51, .slice (some ⟨gn, 0, none⟩) 4 4] 45))
  have HN8 := hid ((heap_old w8 (.cells #[.int .i64 51, .slice (some ⟨gn, 0, none⟩) 4 4] 45) (heap_lt M8.out.2.1)).trans M8.out.2.1)
  have HB8 := hid (bstep HB7.out b8)
  have HR8 := hid (HR7.out.below b8)
  have HD8 := hid (HD7.out.below b8)
  clear b8 HB7 HR7 HD7 M8
  go_wp2_with fail
  generalize w8.alloc (.cells #[.int .i64 51, .slice (some ⟨gn, 0, none⟩) 4 4] 45) = W8 at *
  generalize w8.heap.size = g8 at *
  refine (aw_byte W8).mono ?_
  rintro e w9 ⟨gy, rfl, M9⟩
  have b9 := bpush M9.out.2.2 (.cells #[.int .i64 53, .slice (some ⟨gy, 0, none⟩) 1 1] 45)
  have o8 := kept HO8.out b9
  have HN9 := hid (kept HN8.out b9)
  have o9 := heap_new w9 (.cells #[.int .i64 53, .slice (some ⟨gy, 0, none⟩) 1 1] 45)
  have HY9 := hid ((heap_old w9 (.cells #[.int .i64 53, .slice (some ⟨gy, 0, none⟩) 1 1] 45) (heap_lt M9.out.2.1)).trans M9.out.2.1)
  have HB9 := hid (bstep HB8.out b9)
  have HR9 := hid (HR8.out.below b9)
  have HD9 := hid (HD8.out.below b9)
  have k8 : ∀ q, w9.cell? ⟨g8, q, none⟩ = (#[.int .i64 51, .slice (some ⟨gn, 0, none⟩) 4 4] : Array Value)[q]? := fun q => cell_of_heap (kept HO8.out M9.out.2.2) q
  have l8 : g8 < w9.heap.size := heap_lt (kept HO8.out M9.out.2.2)
  have v1 := HR9.out.conv0 awB_bd
  have v2 := HD9.out.conv0 (by decide)
  have v3 := conv_made (n := 4) (by rfl) HN9.out (by decide)
  have v4 := conv_made (n := 1) (by rfl) HY9.out (by decide)
  rw [awB_str] at v1
  rw [aw_str2] at v2
  rw [aw_str3] at v3
  rw [aw_str4] at v4
  clear b9 HB8 HR8 HD8 M9 o8 o9 HN9 HY9 HR9 HD9 HO8 HN8
  go_wp2
  go_ret
  exact ⟨rfl, HB9.out⟩
end Go.Proofs.Ytmdkanbfpmdimaa
