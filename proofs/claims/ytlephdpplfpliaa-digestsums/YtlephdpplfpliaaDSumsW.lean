/-
  The walk of the statement DigestSums.
-/
import Derived.Test.YtlephdpplfpliaaDBey
import Derived.Test.YtlephdpplfpliaaDLive
import Derived.Test.YtlephdpplfpliaaDRef9
import Derived.Test.YtlephdpplfpliaaDLentW
namespace Go.Proofs.Ytlephdpplfpliaa
open Go.RowKit
set_option linter.all false

/-- the parts that were lent. -/
def lparts (ls : List (Nat × Nat)) (ps : List Part) : List Part := (List.range ps.length).map fun i => ⟨some ⟨(ls.getD i (0, 0)).1, 0, none⟩, (ls.getD i (0, 0)).2, (ps.getD i Part.nil).zs⟩
theorem lparts_len (ls : List (Nat × Nat)) (ps : List Part) : (lparts ls ps).length = ps.length := by simp [lparts]
theorem lparts_flat (ls : List (Nat × Nat)) (ps : List Part) : flat (lparts ls ps) = flat ps := by
  have e : ps = (List.range ps.length).map fun i => ps.getD i Part.nil := by
    apply List.ext_getElem
    · simp
    · intro i h1 h2
      simp [List.getD_eq_getElem?_getD, List.getElem?_eq_getElem h1]
  unfold flat lparts
  rw [List.flatMap_map]
  conv => rhs; rw [e, List.flatMap_map]
theorem lent_parts {w wr : World} {va : Option Addr} {vc : Nat} {ls : List (Nat × Nat)} {ps : List Part} (h : LentI w wr (.slice va ps.length vc) ls ps ps.length) (hz : ∀ p, p ∈ ps → p.ok w) : PartsAt wr va (lparts ls ps) := by
  refine ⟨fun i hi => ?_, fun p hp => ?_⟩
  · rw [lparts_len] at hi
    obtain ⟨gv, cv, ev, hcv⟩ := h.row.cell i (by simp [lvals]; exact hi)
    have hva : va = some ⟨gv, 0, none⟩ := by simp [Value.slice.injEq] at ev; exact ev.1
    refine ⟨gv, 0, hva, ?_⟩
    rw [Nat.zero_add, hcv]
    simp [lvals, lval, lparts, Part.val, List.getD_eq_getElem?_getD, List.getElem?_map, List.getElem?_range, hi]
  · obtain ⟨i, hi, rfl⟩ := List.mem_map.1 hp
    have hi' : i < ps.length := by simpa using hi
    have hm : ps.getD i Part.nil ∈ ps := by rw [List.getD_eq_getElem?_getD, List.getElem?_eq_getElem hi']; exact List.getElem_mem hi'
    obtain ⟨_, _, _, _, _, _, _, _, ok⟩ := lent_reads (h.all i hi') (hz _ hm).1
    exact ok
theorem each_len (ps : List Part) (i : Nat) (h : i < ps.length) : (ps.getD i Part.nil).zs.length ≤ (flat ps).length := by
  have := flat_len ps i h
  omega

set_option maxRecDepth 20000 in
set_option maxHeartbeats 4000000 in
theorem digestSums_walk (ps0 : List Part) (a0 : Option Addr) (c0 : Nat) (ps1 : List Part) (a1 : Option Addr) (c1 : Nat) (w : World) (hp0 : PartsAt w a0 ps0) (hs0 : ps0.length * 24 ≤ 140737488351232 ∧ ∀ p, p ∈ ps0 → p.zs.length ≤ 140737488351232)
    (hp1 : PartsAt w a1 ps1) (hs1 : ps1.length * 24 ≤ 140737488351232 ∧ ∀ p, p ∈ ps1 → p.zs.length ≤ 140737488351232) :
    Calls Try.prog 3 #[.slice a0 ps0.length c0, .slice a1 ps1.length c1] w fun e w' => e = .returned (.bool true) ∧ Below w.heap.size w w' := by
  have K1 := fun w' (h : PartsAt w' a0 ps0) => refBeyond_any a0 c0 ps0 w' h.1 (fun p hp => by have := hs0.2 p hp; omega) (by omega)
  have K2 := fun w' (h : PartsAt w' a1 ps1) => refBeyond_any a1 c1 ps1 w' h.1 (fun p hp => by have := hs1.2 p hp; omega) (by omega)
  have HP0 := Bk.hid hp0
  have HP1 := Bk.hid hp1
  clear hp0 hp1
  by_cases hc : bulk ps0 ≤ 2147483647 ∧ bulk ps1 ≤ 2147483647
  · obtain ⟨hc0, hc1⟩ := hc
    have hw0 := bulk_within ps0 hc0
    have hw1 := bulk_within ps1 hc1
    rw [decide_eq_false (by omega)] at K1
    rw [decide_eq_false (by omega)] at K2
    have K3 := fun w' (h : PartsAt w' a0 ps0) => lentD_any a0 c0 ps0 w' h (by omega) (fun i hi => by have := each_len ps0 i hi; omega)
    have K4 : ∀ (wl w' : World) (va : Option Addr) (vc : Nat) (ls : List (Nat × Nat)), LentI wl w' (.slice va ps0.length vc) ls ps0 ps0.length → PartsAt wl a0 ps0 → Calls Try.prog 8 #[.slice va ps0.length vc] w' fun e w'' => e = .returned (.agg (u8s (sha (flat ps0))).toArray) ∧ Below w'.heap.size w' w'' := fun wl w' va vc ls h hp => by
      have := sum_any va vc (lparts ls ps0) w' (lent_parts h hp.2) (by rw [lparts_flat]; omega) (by rw [lparts_len]; omega)
      rw [lparts_flat, lparts_len] at this
      exact this
    have K5 := fun w' (h : PartsAt w' a1 ps1) => sum_any a1 c1 ps1 w' h (by omega) (by omega)
    have K6 := fun wl w' va vc ls (h : LentI wl w' (.slice va ps0.length vc) ls ps0 ps0.length) (hp : PartsAt wl a0 ps0) => keptD_any a0 c0 ps0 va vc ls wl w' hp (by omega) (fun i hi => by have := each_len ps0 i hi; omega) h
    have K7 := fun w' (h : PartsAt w' a0 ps0) => refSum_any a0 c0 ps0 w' h (by omega) (by omega)
    have K8 := fun w' (h : PartsAt w' a1 ps1) => refSum_any a1 c1 ps1 w' h (by omega) (by omega)
    have bA := sha_bd (flat ps0) (flat_bytes w ps0 HP0.out.2) (by omega)
    have bB := sha_bd (flat ps1) (flat_bytes w ps1 HP1.out.2) (by omega)
    have lA := sha_len (flat ps0)
    have lB := sha_len (flat ps1)
    generalize sha (flat ps0) = A at *
    generalize sha (flat ps1) = B at *
    generalize ps0.length = N0 at *
    generalize ps1.length = N1 at *
    replace K1 := Bk.hid K1
    replace K2 := Bk.hid K2
    replace K3 := Bk.hid K3
    replace K4 := Bk.hid K4
    replace K5 := Bk.hid K5
    replace K6 := Bk.hid K6
    replace K7 := Bk.hid K7
    replace K8 := Bk.hid K8
    have hlA : (u8s A).length = 32 := by rw [u8s_len, lA]
    have hlB : (u8s B).length = 32 := by rw [u8s_len, lB]
    have hsA := store_new 26 (u8s A) 32 size32 hlA (u8s_one A)
    have hsB := store_new 26 (u8s B) 32 size32 hlB (u8s_one B)
    have eA : ∀ w, (Op.equalIn 10000 26 (.agg (u8s A).toArray) (.agg (u8s A).toArray)).run Try.prog w = .ok true w := fun w => by
      rw [dig_eq A A lA lA bA bA, decide_eq_true rfl]
    have eB : ∀ w, (Op.equalIn 10000 26 (.agg (u8s B).toArray) (.agg (u8s B).toArray)).run Try.prog w = .ok true w := fun w => by
      rw [dig_eq B B lB lB bB bB, decide_eq_true rfl]
    have hzl := z32_len
    clear hs0 hs1 hc0 hc1 hw0 hw1 bA bB lA lB
    go_enter Try.func3, Try.ntmps3
    go_wp2_with fail
    refine (live_any _).mono ?_
    rintro e w1 ⟨rfl, hb1⟩
    have HB1 : Hid (Below w.heap.size w w1) := hb1
    have HQ0 := Bk.hid (HP0.out.below hb1)
    have HQ1 := Bk.hid (HP1.out.below hb1)
    clear hb1
    go_wp2_with fail
    refine (K1.out w1 HQ0.out).mono ?_
    rintro e w1' ⟨rfl, h1'⟩
    subst w1'
    go_wp2_with fail
    refine (K2.out w1 HQ1.out).mono ?_
    rintro e w1' ⟨rfl, h1'⟩
    subst w1'
    go_wp2_with fail
    refine (K3.out w1 HQ0.out).mono ?_
    rintro e w2 ⟨va, vc, rfl, ls, HL2⟩
    have HR2 : Hid (PartsAt w2 a1 ps1) := HQ1.out.below HL2.out.bel
    have HB2 : Hid (Below w.heap.size w w2) := bstep HB1.out HL2.out.bel
    have hg : ∀ i, i < N0 → (ls.getD i (0, 0)).1 < w2.heap.size := fun i hi => (HL2.out.all i hi).lt rfl
    obtain ⟨z2, hz2⟩ : ∃ z2, z2 = w2.heap.size := ⟨_, rfl⟩
    rw [← hz2] at hg
    have HZ2 := Bk.hid hz2
    have HG := Bk.hid hg
    have HBW := HB1
    clear hz2 hg HB1
    go_wp2_with fail
    refine (K4.out w1 w2 va vc ls HL2.out HQ0.out).mono ?_
    rintro e w3 ⟨rfl, hb3⟩
    have h23 := hb3.size
    have HL3 := Bk.hid ((HL2.out.below hb3).below (bpush (Below.refl _ _) (.cells (u8s A).toArray 26)))
    have HR3 : Hid (PartsAt (w3.alloc (.cells (u8s A).toArray 26)) a1 ps1) := (HR2.out.below hb3).below (bpush (Below.refl _ _) _)
    have HB3 : Hid (Below w.heap.size w (w3.alloc (.cells (u8s A).toArray 26))) := bpush (bstep HB2.out hb3) _
    have HH3 : Hid (Holds (w3.alloc (.cells (u8s A).toArray 26)) _) := (Holds.nil w3).push (.cells (u8s A).toArray 26)
    have HI3 : Hid (z2 ≤ w3.heap.size) := by unfold Hid; rw [HZ2.out]; exact h23
    clear hb3 h23 HL2 HR2 HB2 HZ2
    go_wp2_with (first
      | (refine wpList_alloc_to rfl 26 rfl (u8s z32).toArray (by kernel_rfl) ?_))
    refine (K5.out _ HR3.out).mono ?_
    rintro e w4 ⟨rfl, hb4⟩
    have HI4 : Hid (z2 ≤ w4.heap.size) := Nat.le_trans HI3.out (by have := hb4.size; rw [World.size_alloc] at this; omega)
    have HL4 := Bk.hid ((HL3.out.below hb4).below (bpush (Below.refl _ _) (.cells (u8s B).toArray 26)))
    have HR4 : Hid (PartsAt (w4.alloc (.cells (u8s B).toArray 26)) a1 ps1) := (HR3.out.below hb4).below (bpush (Below.refl _ _) _)
    have HB4 : Hid (Below w.heap.size w (w4.alloc (.cells (u8s B).toArray 26))) := bpush (bstep HB3.out hb4) _
    have HH4 : Hid (Holds (w4.alloc (.cells (u8s B).toArray 26)) _) := (HH3.out.below hb4).push (.cells (u8s B).toArray 26)
    clear hb4 HL3 HR3 HB3 HH3
    generalize w3.heap.size = g3 at *
    go_wp2_with (first
      | (refine wpList_alloc_to rfl 26 rfl (u8s z32).toArray (by kernel_rfl) ?_))
    refine (K4.out w1 _ va vc ls HL4.out HQ0.out).mono ?_
    rintro e w5 ⟨rfl, hb5⟩
    have HI5 : Hid (z2 ≤ w5.heap.size) := Nat.le_trans HI4.out (by have := hb5.size; rw [World.size_alloc] at this; omega)
    have HL5 := Bk.hid ((HL4.out.below hb5).below (bpush (Below.refl _ _) (.cells (u8s A).toArray 26)))
    have HB5 : Hid (Below w.heap.size w (w5.alloc (.cells (u8s A).toArray 26))) := bpush (bstep HB4.out hb5) _
    have HH5 : Hid (Holds (w5.alloc (.cells (u8s A).toArray 26)) _) := (HH4.out.below hb5).push (.cells (u8s A).toArray 26)
    clear hb5 HL4 HR4 HB4 HH4
    generalize w4.heap.size = g4 at *
    go_wp2_with (first
      | (refine wpList_alloc_to rfl 26 rfl (u8s z32).toArray (by kernel_rfl) ?_))
    refine (K6.out w1 _ va vc ls HL5.out HQ0.out).mono ?_
    rintro e w6 ⟨rfl, hb6, ho6⟩
    have HH6 : Hid (Holds w6 [(w5.heap.size, .cells (u8s A).toArray 26), (g4, .cells (u8s B).toArray 26), (g3, .cells (u8s A).toArray 26)]) := by
      intro p hp
      rw [ho6 p.1 (fun i hi e => ?_) (HH5.out.lt hp)]
      · exact HH5.out p hp
      · have h1 := HG.out i hi
        rw [e] at h1
        have i3 := HI3.out
        have i4 := HI4.out
        have i5 := HI5.out
        simp only [List.mem_cons, List.not_mem_nil, or_false] at hp
        rcases hp with rfl | rfl | rfl <;> simp only at h1 <;> omega
    have HB6 : Hid (Below w.heap.size w w6) := HBW.out.trans (hb6.mono HBW.out.size)
    have HS0 := Bk.hid (HQ0.out.below hb6)
    have HS1 := Bk.hid (HQ1.out.below hb6)
    clear hb6 ho6 HL5 HH5 HB5 HQ0 HQ1 HG HI3 HI4 HI5
    generalize w5.heap.size = g5 at *
    go_wp2_with fail
    refine (K7.out w6 HS0.out).mono ?_
    rintro e w7 ⟨rfl, hb7⟩
    have HR7 : Hid (PartsAt (w7.alloc (.cells (u8s A).toArray 26)) a1 ps1) := (HS1.out.below hb7).below (bpush (Below.refl _ _) _)
    have HB7 : Hid (Below w.heap.size w (w7.alloc (.cells (u8s A).toArray 26))) := bpush (bstep HB6.out hb7) _
    have HH7 : Hid (Holds (w7.alloc (.cells (u8s A).toArray 26)) _) := (HH6.out.below hb7).push (.cells (u8s A).toArray 26)
    clear hb7 HS0 HS1 HB6 HH6
    go_wp2_with (first
      | (refine wpList_alloc_to rfl 26 rfl (u8s z32).toArray (by kernel_rfl) ?_))
    refine (K8.out _ HR7.out).mono ?_
    rintro e w8 ⟨rfl, hb8⟩
    have HB8 : Hid (Below w.heap.size w (w8.alloc (.cells (u8s B).toArray 26))) := bpush (bstep HB7.out hb8) _
    have HH8 : Hid (Holds (w8.alloc (.cells (u8s B).toArray 26)) _) := (HH7.out.below hb8).push (.cells (u8s B).toArray 26)
    clear hb8 HR7 HB7 HH7
    generalize w7.heap.size = g7 at *
    go_wp2_with (first
      | (refine wpList_alloc_to rfl 26 rfl (u8s z32).toArray (by kernel_rfl) ?_)
      | (refine wpList_load_w (by rfl) 26 _ rfl w8.heap.size rfl 26 (u8s B).toArray (0, 0) _ (HH8.out.at 0 _ _ rfl) Try.underlying26 rfl (by rw [size32]; simp [hlB]) ?_)
      | (refine wpList_load_w (by rfl) 26 _ rfl g7 rfl 26 (u8s A).toArray (0, 0) _ (HH8.out.at 1 _ _ rfl) Try.underlying26 rfl (by rw [size32]; simp [hlA]) ?_)
      | (refine wpList_load_w (by rfl) 26 _ rfl g5 rfl 26 (u8s A).toArray (0, 0) _ (HH8.out.at 2 _ _ rfl) Try.underlying26 rfl (by rw [size32]; simp [hlA]) ?_)
      | (refine wpList_load_w (by rfl) 26 _ rfl g4 rfl 26 (u8s B).toArray (0, 0) _ (HH8.out.at 3 _ _ rfl) Try.underlying26 rfl (by rw [size32]; simp [hlB]) ?_)
      | (refine wpList_load_w (by rfl) 26 _ rfl g3 rfl 26 (u8s A).toArray (0, 0) _ (HH8.out.at 4 _ _ rfl) Try.underlying26 rfl (by rw [size32]; simp [hlA]) ?_))
    go_ret
    exact ⟨rfl, HB8.out⟩
  · have hb : decide (2147483647 < bulk ps0) = true ∨ decide (2147483647 < bulk ps1) = true := by
      simp only [decide_eq_true_eq]
      omega
    generalize decide (2147483647 < bulk ps0) = b0 at *
    generalize decide (2147483647 < bulk ps1) = b1 at *
    replace K1 := Bk.hid K1
    replace K2 := Bk.hid K2
    clear hs0 hs1 hc
    generalize ps0.length = N0 at *
    generalize ps1.length = N1 at *
    go_enter Try.func3, Try.ntmps3
    go_wp2_with fail
    refine (live_any _).mono ?_
    rintro e w1 ⟨rfl, hb1⟩
    have HB1 : Hid (Below w.heap.size w w1) := hb1
    have HQ0 := Bk.hid (HP0.out.below hb1)
    have HQ1 := Bk.hid (HP1.out.below hb1)
    clear hb1
    go_wp2_with fail
    refine (K1.out w1 HQ0.out).mono ?_
    rintro e w1' ⟨rfl, h1'⟩
    subst w1'
    go_wp2_with fail
    refine (K2.out w1 HQ1.out).mono ?_
    rintro e w1' ⟨rfl, h1'⟩
    subst w1'
    rcases hb with rfl | rfl
    · go_wp2_with fail
      go_ret
      exact ⟨rfl, HB1.out⟩
    · cases b0
      · go_wp2_with fail
        go_ret
        exact ⟨rfl, HB1.out⟩
      · go_wp2_with fail
        go_ret
        exact ⟨rfl, HB1.out⟩
end Go.Proofs.Ytlephdpplfpliaa
