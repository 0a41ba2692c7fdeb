/-
  The contract of the statements' own function live: the few calls that the document fixes answer as it says.
-/
import Derived.Test.YtohpdkeleilkjaaDoorUnc
import Derived.Test.YtohpdkeleilkjaaDoorOne
namespace Go.Proofs.YtohpdkeleilkjaaDoor
open Go.RowKit
set_option linter.unusedVariables false

theorem put258 : putTo 258 2 2 = #[.int .u8 1, .int .u8 2] := by kernel_rfl
theorem undot_c : undot [49, 57, 50, 46, 49, 54, 56, 46, 48, 46, 49] = (3232235521, 0) := by decide +kernel
theorem dot_c : dotTo 3232235521 4 = [49, 57, 50, 46, 49, 54, 56, 46, 48, 46, 49] := by decide +kernel
theorem col_c : colL 2 0 94 16 0 255 = [48, 50, 58, 48, 48, 58, 53, 101, 58, 49, 48, 58, 48, 48, 58, 102, 102] := by decide +kernel
theorem sum_c : sumOf [0, 1, 242, 3, 244, 245, 246, 247] = 8717 := by decide +kernel
theorem get_c : getTo [1, 2, 3] 1 2 = 515 := by decide +kernel
theorem ones_c : onesV 4294967040 = 24 := by decide +kernel
theorem host_c1 : hostB 3232235521 = true := by decide +kernel
theorem host_c2 : hostB 1 = false := by decide +kernel

theorem live_put (w : World) : Calls Tryd.prog 5 #[.int .u64 258, .int .i64 2] w fun e w' => e = .returned (.slice (some ⟨w.heap.size, 0, none⟩) 2 2) ∧ w' = w.alloc (.cells #[.int .u8 1, .int .u8 2] 5) := by
  have h := put_yes 258 2 w (by omega) (by omega) (by omega) (by omega)
  rw [put258] at h
  exact h
theorem live_get (b : Nat) (w : World) (h0 : w.cell? ⟨b, 0, none⟩ = some (.int .u8 1)) (h1 : w.cell? ⟨b, 1, none⟩ = some (.int .u8 2)) (h2 : w.cell? ⟨b, 2, none⟩ = some (.int .u8 3)) :
    Calls Tryd.prog 9 #[.slice (some ⟨b, 0, none⟩) 3 3, .int .i64 1, .int .i64 2] w fun e w' => e = .returned (.tuple #[.int .u64 515, .int .i64 0]) ∧ w' = w := by
  have h := get_ok b 0 3 3 [1, 2, 3] 1 2 w (by omega) (by omega) (by omega) (by omega)
    (fun j hj => by
      have hc : j = 0 ∨ j = 1 ∨ j = 2 := by omega
      rcases hc with rfl | rfl | rfl <;> simpa)
    (fun j => by
      by_cases hj : j < 3
      · have hc : j = 0 ∨ j = 1 ∨ j = 2 := by omega
        rcases hc with rfl | rfl | rfl <;> simp
      · rw [List.getD_eq_getElem?_getD, List.getElem?_eq_none (by simp; omega)]; simp)
  rw [get_c] at h
  exact h
theorem live_undotted (w : World) (ht : Pow10 w) : Calls Tryd.prog 11 #[.string ⟨#[49, 57, 50, 46, 49, 54, 56, 46, 48, 46, 49]⟩] w fun e w' => e = .returned (.tuple #[.int .u32 3232235521, .int .i64 0]) ∧ Below w.heap.size w w' := by
  have h := undotted_any ⟨#[49, 57, 50, 46, 49, 54, 56, 46, 48, 46, 49]⟩ w (by unfold maxLen; decide) ht
  rw [undot_c] at h
  exact h
theorem live_dotted (w : World) (ht : Pow10 w) : Calls Tryd.prog 13 #[.int .u32 3232235521] w fun e w' => e = .returned (.string ⟨#[49, 57, 50, 46, 49, 54, 56, 46, 48, 46, 49]⟩) ∧ Below w.heap.size w w' := by
  have h := dotted_any 3232235521 w (by omega) (by omega) ht
  rw [dot_c] at h
  exact h
theorem live_uncolons (w : World) : Calls Tryd.prog 12 #[.string ⟨#[48, 50, 58, 48, 48, 58, 53, 101, 58, 49, 48, 58, 48, 48, 58, 102, 102]⟩] w fun e w' => e = .returned (.tuple #[.agg #[.int .u8 2, .int .u8 0, .int .u8 94, .int .u8 16, .int .u8 0, .int .u8 255], .int .i64 0]) ∧ Below w.heap.size w w' := by
  have h := uncolons_yes 2 0 94 16 0 255 w (by omega) (by omega) (by omega) (by omega) (by omega) (by omega)
  rw [col_c] at h
  exact h
theorem live_colons (w : World) : Calls Tryd.prog 14 #[.agg #[.int .u8 2, .int .u8 0, .int .u8 94, .int .u8 16, .int .u8 0, .int .u8 255]] w fun e w' => e = .returned (.string ⟨#[48, 50, 58, 48, 48, 58, 53, 101, 58, 49, 48, 58, 48, 48, 58, 102, 102]⟩) ∧ Below w.heap.size w w' := by
  have h := colons_any 2 0 94 16 0 255 w (by omega) (by omega) (by omega) (by omega) (by omega) (by omega)
  rw [col_c] at h
  exact h
theorem live_ones (w : World) : Calls Tryd.prog 15 #[.int .u32 4294967040] w fun e w' => e = .returned (.int .i64 24) ∧ w' = w := by
  have h := ones_any 4294967040 w (by omega) (by omega)
  rw [ones_c] at h
  exact h
theorem live_host1 (w : World) : Calls Tryd.prog 16 #[.int .u32 3232235521] w fun e w' => e = .returned (.bool true) ∧ w' = w := by
  have h := isHost_any 3232235521 w (by omega) (by omega)
  rw [host_c1] at h
  exact h
theorem live_host2 (w : World) : Calls Tryd.prog 16 #[.int .u32 1] w fun e w' => e = .returned (.bool false) ∧ w' = w := by
  have h := isHost_any 1 w (by omega) (by omega)
  rw [host_c2] at h
  exact h

theorem live_sum (b1 b2 b3 : Nat) (w : World) (p0 : w.cell? ⟨b3, 0, none⟩ = some (.slice (some ⟨b1, 0, none⟩) 4 4)) (p1 : w.cell? ⟨b3, 1, none⟩ = some (.slice (some ⟨b2, 0, none⟩) 4 4))
    (x0 : w.cell? ⟨b1, 0, none⟩ = some (.int .u8 0)) (x1 : w.cell? ⟨b1, 1, none⟩ = some (.int .u8 1)) (x2 : w.cell? ⟨b1, 2, none⟩ = some (.int .u8 242)) (x3 : w.cell? ⟨b1, 3, none⟩ = some (.int .u8 3)) (y0 : w.cell? ⟨b2, 0, none⟩ = some (.int .u8 244)) (y1 : w.cell? ⟨b2, 1, none⟩ = some (.int .u8 245)) (y2 : w.cell? ⟨b2, 2, none⟩ = some (.int .u8 246)) (y3 : w.cell? ⟨b2, 3, none⟩ = some (.int .u8 247)) :
    Calls Tryd.prog 10 #[.slice (some ⟨b3, 0, none⟩) 2 2] w fun e w' => e = .returned (.int .u16 8717) ∧ w' = w := by
  have h := sum_any b3 0 2 [⟨some ⟨b1, 0, none⟩, 4, [0, 1, 242, 3]⟩, ⟨some ⟨b2, 0, none⟩, 4, [244, 245, 246, 247]⟩] w
    (fun i hi => by
      have hc : i = 0 ∨ i = 1 := by simp at hi; omega
      rcases hc with rfl | rfl
      · simpa [Part.val] using p0
      · simpa [Part.val] using p1)
    (fun p hp => by
      simp only [List.mem_cons, List.not_mem_nil, or_false] at hp
      rcases hp with rfl | rfl
      · refine ⟨by simp, Or.inr ⟨b1, 0, rfl, fun j hj => ?_⟩⟩
        have hc : j = 0 ∨ j = 1 ∨ j = 2 ∨ j = 3 := by simp at hj; omega
        rcases hc with rfl | rfl | rfl | rfl <;> simpa
      · refine ⟨by simp, Or.inr ⟨b2, 0, rfl, fun j hj => ?_⟩⟩
        have hc : j = 0 ∨ j = 1 ∨ j = 2 ∨ j = 3 := by simp at hj; omega
        rcases hc with rfl | rfl | rfl | rfl <;> simpa)
    (by simp [flat]) (by simp)
  have e : flat [⟨some ⟨b1, 0, none⟩, 4, [0, 1, 242, 3]⟩, ⟨some ⟨b2, 0, none⟩, 4, [244, 245, 246, 247]⟩] = [0, 1, 242, 3, 244, 245, 246, 247] := by simp [flat]
  rw [e, sum_c] at h
  exact h

set_option maxHeartbeats 1000000 in
theorem live_any (w : World) (ht : Pow10 w) : Calls Tryd.prog 4 #[] w fun e w' => e = .returned (.bool true) ∧ Below w.heap.size w w' := by
  have HT : Hid (∀ w', Below w.heap.size w w' → Pow10 w') := Lib.tabBelow_of_tabIs ht
  clear ht
  go_enter Tryd.func4, Tryd.ntmps4
  go_wp2_with fail
  refine (live_put _).mono ?_
  rintro e w1 ⟨rfl, rfl⟩
  go_wp2_with fail
  refine (live_get _ _ (by go_simp) (by go_simp) (by go_simp)).mono ?_
  rintro e w1 ⟨rfl, rfl⟩
  go_wp2_with fail
  refine (live_sum (w.heap.size + 1 + 1) (w.heap.size + 1 + 1 + 1) _ _ (by go_simp) (by go_simp) (by go_simp) (by go_simp) (by go_simp) (by go_simp) (by go_simp) (by go_simp) (by go_simp) (by go_simp)).mono ?_
  rintro e w1 ⟨rfl, rfl⟩
  go_wp2_with fail
  refine (live_undotted _ (HT.out _ (by repeat (first | exact Below.refl _ _ | apply Below.drew | refine Below.alloc ?_ (by first | (simp; done) | (simp; omega)) _)))).mono ?_
  rintro e w2 ⟨rfl, hb2⟩
  have HC2 : Hid (∀ o, w2.cell? ⟨w.heap.size, o, none⟩ = (#[.int .u8 1, .int .u8 2] : Array Value)[o]?) := fun o => by
    rw [hb2.cell (p := ⟨w.heap.size, o, none⟩) (by simp; omega)]; go_simp
  have HB2 : Hid (Below w.heap.size w w2) := Below.trans (by repeat (first | exact Below.refl _ _ | apply Below.drew | refine Below.alloc ?_ (by first | (simp; done) | (simp; omega)) _)) (hb2.mono (by simp; omega))
  have hz2 : w.heap.size + 1 ≤ w2.heap.size := by have := hb2.size; simp at this; omega
  clear hb2
  go_wp2_with fail
  refine (live_uncolons _).mono ?_
  rintro e w3 ⟨rfl, hb3⟩
  have HC3 : Hid (∀ o, w3.cell? ⟨w.heap.size, o, none⟩ = (#[.int .u8 1, .int .u8 2] : Array Value)[o]?) := fun o => by
    rw [hb3.cell (p := ⟨w.heap.size, o, none⟩) (by simp; omega), HC2.out]
  have HB3 : Hid (Below w.heap.size w w3) := HB2.out.trans (hb3.mono (by omega))
  have hz3 : w.heap.size + 1 ≤ w3.heap.size := by have := hb3.size; omega
  clear hb3
  go_wp2_with fail
  refine (live_dotted _ (HT.out _ (HB3.out.alloc (by omega) _))).mono ?_
  rintro e w4 ⟨rfl, hb4⟩
  have hc4 : ∀ o, w4.cell? ⟨w.heap.size, o, none⟩ = (#[.int .u8 1, .int .u8 2] : Array Value)[o]? := fun o => by
    rw [hb4.cell (p := ⟨w.heap.size, o, none⟩) (by simp; omega), World.cell?_alloc_past _ _ _ (by omega), HC3.out]
  have hm4 : ∀ o, w4.cell? ⟨w3.heap.size, o, none⟩ = (#[.int .u8 2, .int .u8 0, .int .u8 94, .int .u8 16, .int .u8 0, .int .u8 255] : Array Value)[o]? := fun o => by
    rw [hb4.cell (p := ⟨w3.heap.size, o, none⟩) (by simp), World.cell?_alloc_at _ _ _ _ rfl]
  have HB4 : Hid (Below w.heap.size w w4) := (HB3.out.alloc (by omega) _).trans (hb4.mono (by simp; omega))
  have hz4 : w3.heap.size + 1 ≤ w4.heap.size := by have := hb4.size; simpa using this
  have HC4 : Hid (∀ o, w4.cell? ⟨w.heap.size, o, none⟩ = (#[.int .u8 1, .int .u8 2] : Array Value)[o]?) := hc4
  clear hb4 hc4
  go_wp2_with fail
  refine (live_colons _).mono ?_
  rintro e w5 ⟨rfl, hb5⟩
  have hc5 : ∀ o, w5.cell? ⟨w.heap.size, o, none⟩ = (#[.int .u8 1, .int .u8 2] : Array Value)[o]? := fun o => by
    rw [hb5.cell (p := ⟨w.heap.size, o, none⟩) (by simp; omega), HC4.out]
  have HB5 : Hid (Below w.heap.size w w5) := HB4.out.trans (hb5.mono (by omega))
  clear hb5 hm4
  go_wp2_with fail
  refine (live_ones _).mono ?_
  rintro e w6 ⟨rfl, rfl⟩
  go_wp2_with fail
  refine (live_host1 _).mono ?_
  rintro e w7 ⟨rfl, rfl⟩
  go_wp2_with fail
  refine (live_host2 _).mono ?_
  rintro e w8 ⟨rfl, rfl⟩
  go_wp2
  go_ret
  exact ⟨rfl, HB5.out⟩
end Go.Proofs.YtohpdkeleilkjaaDoor
