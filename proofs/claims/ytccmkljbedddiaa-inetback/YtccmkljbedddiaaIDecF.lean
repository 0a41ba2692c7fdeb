/-
  inet.readFields; the function that Decode defers.
-/
import Derived.Test.YtccmkljbedddiaaIDec
import Derived.Deep.RegionLaw
namespace Go.Proofs.Ytccmkljbedddiaa
open Go.RowKit
set_option linter.all false

/-- the fields of a head; what is amiss with them. -/
def decP (zs : List Int) : Ip := ⟨numAt zs 1 1, numAt zs 4 2, numAt zs 8 1, numAt zs 9 1, keepB (numAt zs 6 2), numAt zs 12 4, numAt zs 16 4⟩
def fldE (zs : List Int) : Int := if fragE (numAt zs 6 2) = 0 then ttlE (numAt zs 8 1) else 94
theorem decP_ok {zs : List Int} (h : ∀ z, z ∈ zs → 0 ≤ z ∧ z ≤ 255) : (decP zs).ok := by
  have h1 := numAt_bd h 1
  have h4 := numAt_bd h 4
  have h8 := numAt_bd h 8
  have h9 := numAt_bd h 9
  have h12 := numAt_bd h 12
  have h16 := numAt_bd h 16
  simp only [Ip.ok, decP, I64, U32]
  omega

set_option maxRecDepth 20000 in
set_option maxHeartbeats 2000000 in
theorem readFields_any (pt : Part) (w : World) (hok : pt.ok w) (hl : pt.zs.length ≤ 281474976710656) (hs : 20 ≤ pt.zs.length) :
    Calls Try.prog 28 #[pt.val] w fun e w' => e = upE (fldE pt.zs) (decP pt.zs).val ∧ Below w.heap.size w w' := by
  have HK : Hid (∀ w' : World, Below w.heap.size w w' → Calls Try.prog 36 #[pt.val] w' fun e w'' => e = upE (fragE (numAt pt.zs 6 2)) (.bool (keepB (numAt pt.zs 6 2))) ∧ w'' = w') := fun w' hb => readKeep_any pt w' (Part.ok_below hok hb) hl hs
  have HT : Hid (∀ w' : World, Below w.heap.size w w' → Calls Try.prog 37 #[pt.val] w' fun e w'' => e = upE (ttlE (numAt pt.zs 8 1)) (.int .i64 (numAt pt.zs 8 1)) ∧ w'' = w') := fun w' hb => readTtl_any pt w' (Part.ok_below hok hb) hl hs
  have R1 : Hid (∀ w' : World, Below w.heap.size w w' → Calls Try.prog 35 #[pt.val, .int .i64 1, .int .i64 2] w' fun e w'' => e = .returned (.int .u32 (numAt pt.zs 1 1)) ∧ w'' = w') := fun w' hb => read_any pt 1 2 1 w' (Part.ok_below hok hb) hl rfl (by omega) (Or.inl rfl)
  have R2 : Hid (∀ w' : World, Below w.heap.size w w' → Calls Try.prog 35 #[pt.val, .int .i64 4, .int .i64 6] w' fun e w'' => e = .returned (.int .u32 (numAt pt.zs 4 2)) ∧ w'' = w') := fun w' hb => read_any pt 4 6 2 w' (Part.ok_below hok hb) hl rfl (by omega) (Or.inr (Or.inl rfl))
  have R3 : Hid (∀ w' : World, Below w.heap.size w w' → Calls Try.prog 35 #[pt.val, .int .i64 9, .int .i64 10] w' fun e w'' => e = .returned (.int .u32 (numAt pt.zs 9 1)) ∧ w'' = w') := fun w' hb => read_any pt 9 10 1 w' (Part.ok_below hok hb) hl rfl (by omega) (Or.inl rfl)
  have R4 : Hid (∀ w' : World, Below w.heap.size w w' → Calls Try.prog 35 #[pt.val, .int .i64 12, .int .i64 16] w' fun e w'' => e = .returned (.int .u32 (numAt pt.zs 12 4)) ∧ w'' = w') := fun w' hb => read_any pt 12 16 4 w' (Part.ok_below hok hb) hl rfl (by omega) (Or.inr (Or.inr rfl))
  have R5 : Hid (∀ w' : World, Below w.heap.size w w' → Calls Try.prog 35 #[pt.val, .int .i64 16, .int .i64 20] w' fun e w'' => e = .returned (.int .u32 (numAt pt.zs 16 4)) ∧ w'' = w') := fun w' hb => read_any pt 16 20 4 w' (Part.ok_below hok hb) hl rfl (by omega) (Or.inr (Or.inr rfl))
  have b1 := (numAt_bd hok.1 1).1
  have b4 := (numAt_bd hok.1 4).2.1
  have b9 := (numAt_bd hok.1 9).1
  have k1 : IntKind.i64.wrap (numAt pt.zs 1 1) = numAt pt.zs 1 1 := by simp only [IntKind.wrap_i64]; omega
  have k4 : IntKind.i64.wrap (numAt pt.zs 4 2) = numAt pt.zs 4 2 := by simp only [IntKind.wrap_i64]; omega
  have k9 : IntKind.i64.wrap (numAt pt.zs 9 1) = numAt pt.zs 9 1 := by simp only [IntKind.wrap_i64]; omega
  have HB : Hid (∀ o, Below w.heap.size w (w.alloc o)) := fun o => bpush (Below.refl _ _) o
  unfold fldE decP
  simp only [Ip.val]
  unfold Part.val at *
  generalize numAt pt.zs 6 2 = F at *
  generalize numAt pt.zs 8 1 = T at *
  generalize numAt pt.zs 1 1 = N1 at *
  generalize numAt pt.zs 4 2 = N2 at *
  generalize numAt pt.zs 9 1 = N3 at *
  generalize numAt pt.zs 12 4 = N4 at *
  generalize numAt pt.zs 16 4 = N5 at *
  generalize keepB F = B at *
  clear hok hl hs b1 b4 b9
  generalize pt.zs.length = l at *
  by_cases h1 : fragE F = 0
  · have HE1 : Hid (∀ v, upE (fragE F) v = .returned v) := fun v => by unfold upE; rw [if_pos h1]
    simp only [h1, if_true]
    by_cases h2 : ttlE T = 0
    · have HE2 : Hid (∀ v, upE (ttlE T) v = .returned v) := fun v => by unfold upE; rw [if_pos h2]
      simp only [HE2.out]
      go_enter Try.func28, Try.ntmps28
      go_wp2_with fail
      refine (HK.out _ (HB.out _)).mono ?_
      rintro e w1 ⟨rfl, hw⟩
      subst w1
      simp only [HE1.out]
      go_wp2_with fail
      refine (HT.out _ (HB.out _)).mono ?_
      rintro e w1 ⟨rfl, hw⟩
      subst w1
      simp only [HE2.out]
      go_wp2_with (first
        | (go_at_call 35; (with_reducible refine (R1.out _ (HB.out _)).mono ?_); rintro e w1 ⟨rfl, hw⟩; subst w1)
        | (go_at_call 35; (with_reducible refine (R2.out _ (HB.out _)).mono ?_); rintro e w1 ⟨rfl, hw⟩; subst w1)
        | (go_at_call 35; (with_reducible refine (R3.out _ (HB.out _)).mono ?_); rintro e w1 ⟨rfl, hw⟩; subst w1)
        | (go_at_call 35; (with_reducible refine (R4.out _ (HB.out _)).mono ?_); rintro e w1 ⟨rfl, hw⟩; subst w1)
        | (go_at_call 35; (with_reducible refine (R5.out _ (HB.out _)).mono ?_); rintro e w1 ⟨rfl, hw⟩; subst w1)
        | fail)
      exact bodyPost_ret (v := .agg #[.int .i64 N1, .int .i64 N2, .int .i64 T, .int .i64 N3, .bool B, .int .u32 N4, .int .u32 N5]) (by simp [results, Try.results28, go_sem]) rfl ⟨rfl, HB.out _⟩
    · have HE2 : Hid (∀ v, upE (ttlE T) v = .panicked [{ v := .iface 23 (.int .i64 (ttlE T)), recovered := false }]) := fun v => by unfold upE; rw [if_neg h2]; rfl
      simp only [HE2.out]
      go_enter Try.func28, Try.ntmps28
      go_wp2_with fail
      refine (HK.out _ (HB.out _)).mono ?_
      rintro e w1 ⟨rfl, hw⟩
      subst w1
      simp only [HE1.out]
      go_wp2_with fail
      refine (HT.out _ (HB.out _)).mono ?_
      rintro e w1 ⟨rfl, hw⟩
      subst w1
      simp only [HE2.out]
      exact ⟨rfl, rfl, HB.out _⟩
  · have e94 : fragE F = 94 := by unfold fragE at *; split at h1 <;> simp_all
    have HE1 : Hid (∀ v, upE (fragE F) v = .panicked [{ v := .iface 23 (.int .i64 94), recovered := false }]) := fun v => by unfold upE; rw [if_neg h1, e94]; rfl
    have HE3 : Hid (∀ v, upE 94 v = .panicked [{ v := .iface 23 (.int .i64 94), recovered := false }]) := fun v => by unfold upE; rw [if_neg (by decide)]; rfl
    simp only [h1, if_false, HE3.out]
    go_enter Try.func28, Try.ntmps28
    go_wp2_with fail
    refine (HK.out _ (HB.out _)).mono ?_
    rintro e w1 ⟨rfl, hw⟩
    subst w1
    simp only [HE1.out]
    exact ⟨rfl, rfl, HB.out _⟩
end Go.Proofs.Ytccmkljbedddiaa
