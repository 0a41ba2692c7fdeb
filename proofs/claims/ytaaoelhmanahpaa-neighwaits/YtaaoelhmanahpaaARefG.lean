/-
  The document's Decode of what it does not take.
-/
import Derived.Test.YtaaoelhmanahpaaNwGtJ
import Derived.Test.YtaaoelhmanahpaaNwRpJ
namespace Go.Proofs.Ytaaoelhmanahpaa
open Go.RowKit
set_option linter.all false

theorem str_ne {a b : List Int} (ha : ∀ z, z ∈ a → 0 ≤ z ∧ z ≤ 255) (hb : ∀ z, z ∈ b → 0 ≤ z ∧ z ≤ 255) (h : a ≠ b) : ¬ (strOfNums a).toList = (strOfNums b).toList := fun e => h (str_inj ha hb (by
  rw [ByteArray.toList_eq, ByteArray.toList_eq] at e
  generalize strOfNums a = x at *
  generalize strOfNums b = y at *
  cases x with | mk d => cases y with | mk d' =>
    simp only at e
    rw [Array.ext' e]))
theorem zs_ne {a b : Mac} (h : a ≠ b) : a.zs ≠ b.zs := fun e => h (by
  cases a; cases b
  simp only [Mac.zs, List.cons.injEq, and_true] at e
  obtain ⟨rfl, rfl, rfl, rfl, rfl, rfl⟩ := e
  rfl)
/-- what is taken, by its bytes. -/
theorem decGood_iff (zs : List Int) (hz : ∀ z, z ∈ zs → 0 ≤ z ∧ z ≤ 255) : decGood zs ↔ macAt zs 0 = kindsM ∧ zs.getD 6 0 = 0 ∧ 1 ≤ zs.getD 7 0 ∧ zs.getD 7 0 ≤ 2 := by
  have h6 := getD_mem_bd hz 6
  have h7 := getD_mem_bd hz 7
  have e : numAt zs 6 2 = zs.getD 6 0 * 256 + zs.getD 7 0 := by simp [numAt, getTo]
  unfold decGood
  rw [e]
  generalize zs.getD 6 0 = x at *
  generalize zs.getD 7 0 = y at *
  simp only [opB, Bool.or_eq_true, beq_iff_eq]
  constructor
  · rintro ⟨h1, h2⟩
    exact ⟨h1, by omega, by omega, by omega⟩
  · rintro ⟨h1, h2, h3, h4⟩
    exact ⟨h1, by omega⟩

set_option maxRecDepth 20000 in
set_option maxHeartbeats 4000000 in
theorem refDecode_bad (pt : Part) (w : World) (hok : pt.ok w) (hl : 28 ≤ pt.zs.length) (hl2 : pt.zs.length ≤ 140737488351232) (hk : ¬ decGood pt.zs) :
    Calls Try.prog 42 #[pt.val] w fun e w' => e = .returned (.tuple #[zeroArp.val, .int .i64 80]) ∧ Below w.heap.size w w' := by
  have HH : Hid (∀ w, Calls Try.prog 67 #[] w fun e w' => e = .returned (.slice (some ⟨w.heap.size, 0, none⟩) 6 6) ∧ w' = w.alloc (.cells (u8s kindsM.zs).toArray 5)) := head_any
  obtain ⟨b, o, hpa, hc⟩ : ∃ b o, pt.a = some ⟨b, o, none⟩ ∧ ∀ j, j < pt.zs.length → w.cell? ⟨b, o + j, none⟩ = some (.int .u8 (pt.zs.getD j 0)) := by
    rcases hok.2.2 with he | ⟨b, o, ha', hc⟩
    · rw [he] at hl; simp at hl
    · exact ⟨b, o, ha', hc⟩
  have hcap := hok.2.1
  have hmo := macAt_ok hok.1 0
  have hb6 := getD_mem_bd hok.1 6
  have hb7 := getD_mem_bd hok.1 7
  have c6 := hc 6 (by omega)
  have c7 := hc 7 (by omega)
  have hbl : b < w.heap.size := World.block_lt_of_cell? w _ c6
  have HCV : Hid (∀ w', Below w.heap.size w w' → (convert 40 9 (.slice (some ⟨b, o, none⟩) 6 pt.c)).run Try.prog w' = .ok (.string (strOfNums (macAt pt.zs 0).zs)) w') := fun w' hb => by
    obtain ⟨pa, c, zs⟩ := pt
    simp only at hpa hl hcap
    subst hpa
    have := Part.sub_ok (Part.ok_below hok hb) 0 6 c (by omega) (by omega)
    rw [← macAt_zs zs 0 (by omega)] at this
    exact conv_part ⟨some ⟨b, o, none⟩, c, (macAt zs 0).zs⟩ w' this
  have HCK : Hid (∀ (w' : World) (g : Nat), w'.heap[g]? = some (.cells (u8s kindsM.zs).toArray 5 (0, 0)) → (convert 40 9 (.slice (some ⟨g, 0, none⟩) 6 6)).run Try.prog w' = .ok (.string (strOfNums kindsM.zs)) w') := fun w' g hg => conv_part ⟨some ⟨g, 0, none⟩, 6, kindsM.zs⟩ w' (Part.of_row hg (by simp [Mac.zs]) (Mac.bytes kindsM_ok))
  have HX : Hid (¬ (strOfNums (macAt pt.zs 0).zs).toList = (strOfNums kindsM.zs).toList ∨ (strOfNums (macAt pt.zs 0).zs = strOfNums kindsM.zs ∧ (¬ pt.zs.getD 6 0 = 0 ∨ (pt.zs.getD 6 0 = 0 ∧ (pt.zs.getD 7 0 < 1 ∨ (1 ≤ pt.zs.getD 7 0 ∧ 2 < pt.zs.getD 7 0)))))) := by
    unfold Hid
    rw [decGood_iff _ hok.1] at hk
    by_cases h : macAt pt.zs 0 = kindsM
    · right
      rw [h]
      refine ⟨rfl, ?_⟩
      by_cases h6 : pt.zs.getD 6 0 = 0
      · right
        refine ⟨h6, ?_⟩
        by_cases h7 : pt.zs.getD 7 0 < 1
        · exact Or.inl h7
        · exact Or.inr ⟨by omega, by
            rcases Int.lt_or_le 2 (pt.zs.getD 7 0) with h8 | h8
            · exact h8
            · exact absurd ⟨h, h6, by omega, h8⟩ hk⟩
      · exact Or.inl h6
    · left
      exact str_ne (Mac.bytes hmo) (Mac.bytes kindsM_ok) (zs_ne h)
  unfold Part.val
  rw [hpa]
  generalize strOfNums (macAt pt.zs 0).zs = X at *
  generalize strOfNums kindsM.zs = Y at *
  generalize kindsM.zs = K at *
  generalize pt.zs.getD 6 0 = b6 at *
  generalize pt.zs.getD 7 0 = b7 at *
  generalize pt.zs.length = l at *
  generalize pt.c = c at *
  clear hok hc hpa hk hmo
  have h3 : ¬ (l : Int) < 28 := by omega
  have i6 : (6 : Int) < (l : Int) := by omega
  have i7 : (7 : Int) < (l : Int) := by omega
  have i8 : (6 : Int) ≤ (c : Int) := by omega
  simp only [Arp.val, zeroArp, zeroMac] at *
  go_enter Try.func42, Try.ntmps42
  go_wp2
  have HG : Hid ((w.alloc (.cells #[.int .i64 0, .int .u8 0, .int .u8 0, .int .u8 0, .int .u8 0, .int .u8 0, .int .u8 0, .int .u32 0, .int .u8 0, .int .u8 0, .int .u8 0, .int .u8 0, .int .u8 0, .int .u8 0, .int .u32 0] 42)).heap[w.heap.size]? = some (.cells #[.int .i64 0, .int .u8 0, .int .u8 0, .int .u8 0, .int .u8 0, .int .u8 0, .int .u8 0, .int .u32 0, .int .u8 0, .int .u8 0, .int .u8 0, .int .u8 0, .int .u8 0, .int .u8 0, .int .u32 0] 42 (0, 0))) := heap_new _ _
  have HB : Hid (Below w.heap.size w (w.alloc (.cells #[.int .i64 0, .int .u8 0, .int .u8 0, .int .u8 0, .int .u8 0, .int .u8 0, .int .u8 0, .int .u32 0, .int .u8 0, .int .u8 0, .int .u8 0, .int .u8 0, .int .u8 0, .int .u8 0, .int .u32 0] 42))) := bpush (Below.refl _ _) _
  have bc6 : (w.alloc (.cells #[.int .i64 0, .int .u8 0, .int .u8 0, .int .u8 0, .int .u8 0, .int .u8 0, .int .u8 0, .int .u32 0, .int .u8 0, .int .u8 0, .int .u8 0, .int .u8 0, .int .u8 0, .int .u8 0, .int .u32 0] 42)).cell? ⟨b, o + 6, none⟩ = some (.int .u8 b6) := (HB.out.cell (p := ⟨b, o + 6, none⟩) hbl).trans c6
  have bc7 : (w.alloc (.cells #[.int .i64 0, .int .u8 0, .int .u8 0, .int .u8 0, .int .u8 0, .int .u8 0, .int .u8 0, .int .u32 0, .int .u8 0, .int .u8 0, .int .u8 0, .int .u8 0, .int .u8 0, .int .u8 0, .int .u32 0] 42)).cell? ⟨b, o + 7, none⟩ = some (.int .u8 b7) := (HB.out.cell (p := ⟨b, o + 7, none⟩) hbl).trans c7
  have hbW : b < (w.alloc (.cells #[.int .i64 0, .int .u8 0, .int .u8 0, .int .u8 0, .int .u8 0, .int .u8 0, .int .u8 0, .int .u32 0, .int .u8 0, .int .u8 0, .int .u8 0, .int .u8 0, .int .u8 0, .int .u8 0, .int .u32 0] 42)).heap.size := by rw [World.size_alloc]; omega
  have HSZ : Hid ((w.alloc (.cells #[.int .i64 0, .int .u8 0, .int .u8 0, .int .u8 0, .int .u8 0, .int .u8 0, .int .u8 0, .int .u32 0, .int .u8 0, .int .u8 0, .int .u8 0, .int .u8 0, .int .u8 0, .int .u8 0, .int .u32 0] 42)).heap.size = w.heap.size + 1) := World.size_alloc _ _
  generalize w.alloc (.cells #[.int .i64 0, .int .u8 0, .int .u8 0, .int .u8 0, .int .u8 0, .int .u8 0, .int .u8 0, .int .u32 0, .int .u8 0, .int .u8 0, .int .u8 0, .int .u8 0, .int .u8 0, .int .u8 0, .int .u32 0] 42) = W at *
  clear c6 c7
  have v1 : (convert 40 9 (.slice (some ⟨b, o, none⟩) 6 c)).run Try.prog W.drew = .ok (.string X) W.drew := HCV.out _ HB.out.drew
  have v2 : (convert 40 9 (.slice (some ⟨b, o, none⟩) 6 c)).run Try.prog (W.alloc (.cells (u8s K).toArray 5)).drew = .ok (.string X) (W.alloc (.cells (u8s K).toArray 5)).drew := HCV.out _ (HB.out.alloc HB.out.size _).drew
  have v3 : (convert 40 9 (.slice (some ⟨W.heap.size, 0, none⟩) 6 6)).run Try.prog (W.alloc (.cells (u8s K).toArray 5)).drew = .ok (.string Y) (W.alloc (.cells (u8s K).toArray 5)).drew := HCK.out _ _ (heap_new W _)
  have HB2 : Hid (Below w.heap.size w (W.alloc (.cells (u8s K).toArray 5)).drew) := (HB.out.alloc HB.out.size _).drew
  have HG2 : Hid ((W.alloc (.cells (u8s K).toArray 5)).drew.heap[w.heap.size]? = some (.cells #[.int .i64 0, .int .u8 0, .int .u8 0, .int .u8 0, .int .u8 0, .int .u8 0, .int .u8 0, .int .u32 0, .int .u8 0, .int .u8 0, .int .u8 0, .int .u8 0, .int .u8 0, .int .u8 0, .int .u32 0] 42 (0, 0))) := (heap_old W _ (heap_lt HG.out)).trans HG.out
  rcases HX.out with x1 | ⟨rfl, x2 | ⟨rfl, x3 | ⟨x3, x4⟩⟩⟩
  all_goals clear HX
  · first | go_region_with (first
      | (rw [if_neg (show ¬ _ from by unfold undef; simp)])
      | (go_at_call 67; refine (HH.out _).mono ?_; rintro e w1 ⟨rfl, hw⟩; subst w1) | fail) | fail
    all_goals
      go_wp2_with (first
        | (refine wpList_store_row rfl 42 _ _ rfl w.heap.size #[.int .i64 0, .int .u8 0, .int .u8 0, .int .u8 0, .int .u8 0, .int .u8 0, .int .u8 0, .int .u32 0, .int .u8 0, .int .u8 0, .int .u8 0, .int .u8 0, .int .u8 0, .int .u8 0, .int .u32 0] rfl rfl 42 _ (by exact HG2.out) (by kernel_rfl) rfl (by first | kernel_rfl | simp [Value.oneCell']) ?_) | fail)
      refine bodyPost_ret (v := .tuple #[.agg #[.int .i64 0, .int .u8 0, .int .u8 0, .int .u8 0, .int .u8 0, .int .u8 0, .int .u8 0, .int .u32 0, .int .u8 0, .int .u8 0, .int .u8 0, .int .u8 0, .int .u8 0, .int .u8 0, .int .u32 0], .int .i64 80]) ?_ (by rfl) ⟨rfl, bbut HB2.out (But.setRow _ _ _) (Nat.le_refl _)⟩
      exact results_row2 Try.results42 _ _ w.heap.size 42 _ (0, 0) _ _ rfl rfl (setRow_heap _ _ _ _ _ _ HG2.out) Try.underlying42 rfl (by kernel_rfl)
  · have x2' : (b6 != 0) = true := by simp [x2]
    first | go_region_with (first
      | (rw [if_neg (show ¬ _ from by unfold undef; simp)])
      | (go_at_call 67; refine (HH.out _).mono ?_; rintro e w1 ⟨rfl, hw⟩; subst w1) | fail) | fail
    all_goals
      go_wp2_with (first
        | (refine wpList_store_row rfl 42 _ _ rfl w.heap.size #[.int .i64 0, .int .u8 0, .int .u8 0, .int .u8 0, .int .u8 0, .int .u8 0, .int .u8 0, .int .u32 0, .int .u8 0, .int .u8 0, .int .u8 0, .int .u8 0, .int .u8 0, .int .u8 0, .int .u32 0] rfl rfl 42 _ (by exact HG2.out) (by kernel_rfl) rfl (by first | kernel_rfl | simp [Value.oneCell']) ?_) | fail)
      refine bodyPost_ret (v := .tuple #[.agg #[.int .i64 0, .int .u8 0, .int .u8 0, .int .u8 0, .int .u8 0, .int .u8 0, .int .u8 0, .int .u32 0, .int .u8 0, .int .u8 0, .int .u8 0, .int .u8 0, .int .u8 0, .int .u8 0, .int .u32 0], .int .i64 80]) ?_ (by rfl) ⟨rfl, bbut HB2.out (But.setRow _ _ _) (Nat.le_refl _)⟩
      exact results_row2 Try.results42 _ _ w.heap.size 42 _ (0, 0) _ _ rfl rfl (setRow_heap _ _ _ _ _ _ HG2.out) Try.underlying42 rfl (by kernel_rfl)
  · first | go_region_with (first
      | (rw [if_neg (show ¬ _ from by unfold undef; simp)])
      | (go_at_call 67; refine (HH.out _).mono ?_; rintro e w1 ⟨rfl, hw⟩; subst w1) | fail) | fail
    all_goals
      go_wp2_with (first
        | (refine wpList_store_row rfl 42 _ _ rfl w.heap.size #[.int .i64 0, .int .u8 0, .int .u8 0, .int .u8 0, .int .u8 0, .int .u8 0, .int .u8 0, .int .u32 0, .int .u8 0, .int .u8 0, .int .u8 0, .int .u8 0, .int .u8 0, .int .u8 0, .int .u32 0] rfl rfl 42 _ (by exact HG2.out) (by kernel_rfl) rfl (by first | kernel_rfl | simp [Value.oneCell']) ?_) | fail)
      refine bodyPost_ret (v := .tuple #[.agg #[.int .i64 0, .int .u8 0, .int .u8 0, .int .u8 0, .int .u8 0, .int .u8 0, .int .u8 0, .int .u32 0, .int .u8 0, .int .u8 0, .int .u8 0, .int .u8 0, .int .u8 0, .int .u8 0, .int .u32 0], .int .i64 80]) ?_ (by rfl) ⟨rfl, bbut HB2.out (But.setRow _ _ _) (Nat.le_refl _)⟩
      exact results_row2 Try.results42 _ _ w.heap.size 42 _ (0, 0) _ _ rfl rfl (setRow_heap _ _ _ _ _ _ HG2.out) Try.underlying42 rfl (by kernel_rfl)
  · have x3' : ¬ b7 < 1 := by omega
    first | go_region_with (first
      | (rw [if_neg (show ¬ _ from by unfold undef; simp)])
      | (go_at_call 67; refine (HH.out _).mono ?_; rintro e w1 ⟨rfl, hw⟩; subst w1) | fail) | fail
    all_goals
      go_wp2_with (first
        | (refine wpList_store_row rfl 42 _ _ rfl w.heap.size #[.int .i64 0, .int .u8 0, .int .u8 0, .int .u8 0, .int .u8 0, .int .u8 0, .int .u8 0, .int .u32 0, .int .u8 0, .int .u8 0, .int .u8 0, .int .u8 0, .int .u8 0, .int .u8 0, .int .u32 0] rfl rfl 42 _ (by exact HG2.out) (by kernel_rfl) rfl (by first | kernel_rfl | simp [Value.oneCell']) ?_) | fail)
      refine bodyPost_ret (v := .tuple #[.agg #[.int .i64 0, .int .u8 0, .int .u8 0, .int .u8 0, .int .u8 0, .int .u8 0, .int .u8 0, .int .u32 0, .int .u8 0, .int .u8 0, .int .u8 0, .int .u8 0, .int .u8 0, .int .u8 0, .int .u32 0], .int .i64 80]) ?_ (by rfl) ⟨rfl, bbut HB2.out (But.setRow _ _ _) (Nat.le_refl _)⟩
      exact results_row2 Try.results42 _ _ w.heap.size 42 _ (0, 0) _ _ rfl rfl (setRow_heap _ _ _ _ _ _ HG2.out) Try.underlying42 rfl (by kernel_rfl)
end Go.Proofs.Ytaaoelhmanahpaa
