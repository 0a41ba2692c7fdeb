/-
  The document's Decode: its number; what it does not take.
-/
import Derived.Test.YtccmkljbedddiaaIDecX
import Derived.Test.YtccmkljbedddiaaBRefGet
namespace Go.Proofs.Ytccmkljbedddiaa
open Go.RowKit
set_option linter.all false

set_option maxHeartbeats 400000 in
theorem refNumber_any (pt : Part) (a m : Nat) (w : World) (hok : pt.ok w) (hl : pt.zs.length ≤ 140737488351232) (ha : a + m ≤ pt.zs.length) (hm : m = 1 ∨ m = 2 ∨ m = 4) :
    Calls Try.prog 24 #[pt.val, .int .i64 a, .int .i64 m] w fun e w' => e = .returned (.int .i64 (numAt pt.zs a m)) ∧ w' = w := by
  have HG : Hid (∀ w', Below w.heap.size w w' → Calls Try.prog 34 #[pt.val, .int .i64 a, .int .i64 m] w' fun e w'' => e = .returned (.tuple #[.int .u64 (numAt pt.zs a m), .int .i64 0]) ∧ w'' = w') := fun w' hb => by
    have h := refGet_part pt a m w' (Part.ok_below hok hb) hl (by omega)
    have e : getAns pt.zs a m = (numAt pt.zs a m, 0) := by
      unfold getAns
      rw [if_neg (by omega), if_neg (by omega)]
      simp [numAt]
    rw [e] at h
    exact h
  have hb := numAt_bd hok.1 a
  have hw : IntKind.i64.wrap (numAt pt.zs a m) = numAt pt.zs a m := by
    simp only [IntKind.wrap_i64]
    rcases hm with rfl | rfl | rfl <;> omega
  clear hok hb hm
  generalize numAt pt.zs a m = N at *
  unfold Part.val at *
  generalize pt.zs.length = l at *
  go_enter Try.func24, Try.ntmps24
  go_wp2_with (first | (go_at_call 34; refine (HG.out _ (Below.refl _ _)).mono ?_; rintro e w1 ⟨rfl, hw1⟩; subst w1) | fail)
  go_ret
  exact ⟨rfl, rfl⟩
set_option maxHeartbeats 1000000 in
theorem refDecode_short (a : Option Addr) (l c : Nat) (w : World) (h : l < 20) :
    Calls Try.prog 15 #[.slice a l c] w fun e w' => e = .returned (.tuple #[zeroIp.val, .slice none 0 0, .int .i64 5]) ∧ Below w.heap.size w w' := by
  have h1 : (l : Int) < 20 := by omega
  go_enter Try.func15, Try.ntmps15
  go_wp2
  exact bodyPost_ret (v := .tuple #[zeroIp.val, .slice none 0 0, .int .i64 5]) (by simp [results, Try.results15, go_sem, Ip.val, zeroIp]) rfl ⟨rfl, bpush (Below.refl _ _) _⟩
/-- a struct and two more results. -/
theorem results_row12 {P : Program} {fn : Func} {p q r : Tmp} {ty : TypeId} (h : fn.results = #[.cell p ty, .tmp q, .tmp r]) (tmps : Array Value) (w : World) (g : Nat) (t : TypeId) (cs : Array Value) (fr : Nat × Nat) (d : TypeDesc) (u v : Value)
    (hp : tmps.getD p undef = .pointer (some ⟨g, 0, none⟩)) (hu' : tmps.getD q undef = u) (hv : tmps.getD r undef = v) (hg : w.heap[g]? = some (.cells cs t fr))
    (hu : P.underlying ty = some d) (hd : (match d with | .struct _ | .array _ _ => true | _ => false) = true) (hi : (P.info? ty).map (·.size) = some cs.size) :
    (results fn tmps).run P w = .ok (.tuple #[.agg cs, u, v]) w := by
  have hp' : tmps[p]?.getD undef = .pointer (some ⟨g, 0, none⟩) := by simpa using hp
  have hu2 : tmps[q]?.getD undef = u := by simpa using hu'
  have hv' : tmps[r]?.getD undef = v := by simpa using hv
  simp [results, h, hp', hu2, hv', asAddr, run_loadVar_row w g t ty cs fr d hg hu hd hi]

theorem numAt_one (zs : List Int) (a : Nat) : numAt zs a 1 = zs.getD a 0 := by simp [numAt, getTo]
/-- what the document's Decode meets, error by error. -/
theorem dec_cases (zs : List Int) (h20 : 20 ≤ zs.length) (hz : ∀ z, z ∈ zs → 0 ≤ z ∧ z ≤ 255) :
    (decE zs = 90 ∧ ¬ zs.getD 0 0 / 16 = 4) ∨ (decE zs = 91 ∧ zs.getD 0 0 / 16 = 4 ∧ 5 < zs.getD 0 0 % 16) ∨ (decE zs = 92 ∧ zs.getD 0 0 / 16 = 4 ∧ zs.getD 0 0 % 16 < 5)
    ∨ (decE zs = 92 ∧ zs.getD 0 0 / 16 = 4 ∧ zs.getD 0 0 % 16 = 5 ∧ numAt zs 2 2 < 20) ∨ (decE zs = 92 ∧ zs.getD 0 0 / 16 = 4 ∧ zs.getD 0 0 % 16 = 5 ∧ ¬ numAt zs 2 2 < 20 ∧ (zs.length : Int) < numAt zs 2 2)
    ∨ (lenE zs = 0 ∧ zs.getD 0 0 / 16 = 4 ∧ zs.getD 0 0 % 16 = 5 ∧ ¬ numAt zs 2 2 < 20 ∧ ¬ (zs.length : Int) < numAt zs 2 2 ∧
      ((decE zs = 93 ∧ ¬ sumOf (zs.take 20) = 0) ∨ (sumOf (zs.take 20) = 0 ∧
        ((decE zs = 94 ∧ numAt zs 6 2 / 8192 % 2 = 1) ∨ (decE zs = 94 ∧ ¬ numAt zs 6 2 / 8192 % 2 = 1 ∧ ¬ numAt zs 6 2 % 8192 = 0) ∨ (¬ numAt zs 6 2 / 8192 % 2 = 1 ∧ numAt zs 6 2 % 8192 = 0 ∧
          ((decE zs = 95 ∧ zs.getD 8 0 = 0) ∨ (decE zs = 0 ∧ ¬ zs.getD 8 0 = 0))))))) := by
  have hF := (numAt_bd hz 6).2.1
  have eT := numAt_one zs 8
  unfold decE fldE fragE ttlE
  by_cases h1 : zs.getD 0 0 / 16 = 4
  · by_cases h2 : 5 < zs.getD 0 0 % 16
    · have e : lenE zs = 91 := by unfold lenE; rw [if_neg (by omega), if_neg (by simpa using h1), if_pos h2]
      right; left; exact ⟨by rw [e, if_neg (by decide)], h1, h2⟩
    · by_cases h3 : zs.getD 0 0 % 16 < 5
      · have e : lenE zs = 92 := by unfold lenE; rw [if_neg (by omega), if_neg (by simpa using h1), if_neg h2, if_pos h3]
        right; right; left; exact ⟨by rw [e, if_neg (by decide)], h1, h3⟩
      · have h3' : zs.getD 0 0 % 16 = 5 := by omega
        by_cases h4 : numAt zs 2 2 < 20
        · have e : lenE zs = 92 := by unfold lenE; rw [if_neg (by omega), if_neg (by simpa using h1), if_neg h2, if_neg h3, if_pos (Or.inl h4)]
          right; right; right; left; exact ⟨by rw [e, if_neg (by decide)], h1, h3', h4⟩
        · by_cases h5 : (zs.length : Int) < numAt zs 2 2
          · have e : lenE zs = 92 := by unfold lenE; rw [if_neg (by omega), if_neg (by simpa using h1), if_neg h2, if_neg h3, if_pos (Or.inr h5)]
            right; right; right; right; left; exact ⟨by rw [e, if_neg (by decide)], h1, h3', h4, h5⟩
          · have e : lenE zs = 0 := by unfold lenE; rw [if_neg (by omega), if_neg (by simpa using h1), if_neg h2, if_neg h3, if_neg (by omega)]
            right; right; right; right; right
            refine ⟨e, h1, h3', h4, h5, ?_⟩
            rw [if_pos e]
            by_cases h6 : sumOf (zs.take 20) = 0
            · right
              refine ⟨h6, ?_⟩
              rw [if_pos h6, eT]
              by_cases h7 : numAt zs 6 2 / 8192 % 2 = 1
              · left; exact ⟨by rw [if_neg (show ¬ numAt zs 6 2 % 16384 = 0 by omega)]; simp, h7⟩
              · by_cases h8 : numAt zs 6 2 % 8192 = 0
                · right; right
                  refine ⟨h7, h8, ?_⟩
                  rw [if_pos (show numAt zs 6 2 % 16384 = 0 by omega)]
                  by_cases h9 : zs.getD 8 0 = 0
                  · left; exact ⟨by rw [if_pos rfl, if_pos h9], h9⟩
                  · right; exact ⟨by rw [if_pos rfl, if_neg h9], h9⟩
                · right; left; exact ⟨by rw [if_neg (show ¬ numAt zs 6 2 % 16384 = 0 by omega)]; simp, h7, h8⟩
            · left; exact ⟨by rw [if_neg h6], h6⟩
  · have e : lenE zs = 90 := by unfold lenE; rw [if_neg (by omega), if_pos h1]
    left; exact ⟨by rw [e, if_neg (by decide)], h1⟩

set_option maxRecDepth 20000 in
set_option maxHeartbeats 4000000 in
theorem refDecode_bad (pt : Part) (w : World) (hok : pt.ok w) (h20 : 20 ≤ pt.zs.length) (hl : pt.zs.length ≤ 140737488351232) (hE : ¬ decE pt.zs = 0) :
    Calls Try.prog 15 #[pt.val] w fun e w' => e = .returned (.tuple #[zeroIp.val, .slice none 0 0, .int .i64 (decE pt.zs)]) ∧ Below w.heap.size w w' := by
  have hcs := dec_cases pt.zs h20 hok.1
  have N1 : Hid (∀ w', Below w.heap.size w w' → Calls Try.prog 24 #[pt.val, .int .i64 2, .int .i64 2] w' fun e w'' => e = .returned (.int .i64 (numAt pt.zs 2 2)) ∧ w'' = w') := fun w' hb => refNumber_any pt 2 2 w' (Part.ok_below hok hb) hl (by omega) (Or.inr (Or.inl rfl))
  have N2 : Hid (∀ w', Below w.heap.size w w' → Calls Try.prog 24 #[pt.val, .int .i64 6, .int .i64 2] w' fun e w'' => e = .returned (.int .i64 (numAt pt.zs 6 2)) ∧ w'' = w') := fun w' hb => refNumber_any pt 6 2 w' (Part.ok_below hok hb) hl (by omega) (Or.inr (Or.inl rfl))
  obtain ⟨b, o, ha, hc⟩ : ∃ b o, pt.a = some ⟨b, o, none⟩ ∧ ∀ j, j < pt.zs.length → w.cell? ⟨b, o + j, none⟩ = some (.int .u8 (pt.zs.getD j 0)) := by
    rcases hok.2.2 with he | ⟨b, o, ha, hc⟩
    · rw [he] at h20; simp at h20
    · exact ⟨b, o, ha, hc⟩
  have hb0 := getD_mem_bd hok.1 0
  have hb8 := getD_mem_bd hok.1 8
  have hnL := (numAt_bd hok.1 2).2.1
  have hnF := (numAt_bd hok.1 6).2.1
  have hcap := hok.2.1
  obtain ⟨pa, c, zs⟩ := pt
  simp only at *
  subst ha
  have HS : Hid (∀ w' : World, Below w.heap.size w w' → Calls Try.prog 18 #[.slice (some ⟨b, o, none⟩) 20 c] w' fun e w'' => e = .returned (.int .u16 (sumOf (zs.take 20))) ∧ Below w'.heap.size w' w'') := fun w' hb => by
    have hsub := Part.sub_ok (Part.ok_below hok hb) 0 20 c (by omega) (by omega)
    have := refSumOf_any _ w' hsub (by simp; omega)
    simp only [Part.val, Nat.add_zero, List.drop_zero, List.length_take, Nat.min_eq_left h20] at this
    exact this
  have HC : Hid (∀ w' : World, Below w.heap.size w w' → w'.cell? ⟨b, o, none⟩ = some (.int .u8 (zs.getD 0 0)) ∧ w'.cell? ⟨b, o + 8, none⟩ = some (.int .u8 (zs.getD 8 0))) := fun w' hb =>
    ⟨(hb.cell (p := ⟨b, o, none⟩) (World.block_lt_of_cell? w _ (hc 0 (by omega)))).trans (hc 0 (by omega)), (hb.cell (p := ⟨b, o + 8, none⟩) (World.block_lt_of_cell? w _ (hc 8 (by omega)))).trans (hc 8 (by omega))⟩
  have hblt : b < w.heap.size := World.block_lt_of_cell? w _ (hc 0 (by omega))
  have HF0 : Hid (∀ w' : World, Below (w.heap.size + 1) (w.alloc (.cells #[.int .i64 0, .int .i64 0, .int .i64 0, .int .i64 0, .bool false, .int .u32 0, .int .u32 0] 27)) w' → w'.heap[w.heap.size]? = some (.cells #[.int .i64 0, .int .i64 0, .int .i64 0, .int .i64 0, .bool false, .int .u32 0, .int .u32 0] 27 (0, 0)) ∧ Below w.heap.size w w') := fun w' hb => ⟨(hb.block _ (by omega)).trans (heap_new w _), (bpush (Below.refl _ w) _).trans (hb.mono (by omega))⟩
  have HB0 : Hid (Below w.heap.size w (w.alloc (.cells #[.int .i64 0, .int .i64 0, .int .i64 0, .int .i64 0, .bool false, .int .u32 0, .int .u32 0] 27))) := bpush (Below.refl _ w) _
  have cA := (HC.out _ HB0.out).1
  unfold Part.val at *
  simp only [Ip.val, zeroIp] at *
  generalize zs.getD 0 0 = z0 at *
  generalize zs.getD 8 0 = z8 at *
  generalize numAt zs 2 2 = LN at *
  generalize numAt zs 6 2 = FN at *
  generalize sumOf (zs.take 20) = SU at *
  generalize decE zs = DE at *
  generalize zs.length = l at *
  clear hok hc
  have l20 : ¬ (l : Int) < 20 := by omega
  have l0 : (0 : Int) < (l : Int) := by omega
  have l8 : (8 : Int) < (l : Int) := by omega
  have c20 : (20 : Int) ≤ (c : Int) := by omega
  have t1 : Int.tmod z0 16 = z0 % 16 := Int.tmod_eq_emod_of_nonneg (by omega)
  have t2 : Int.tdiv z0 16 = z0 / 16 := Int.tdiv_eq_ediv_of_nonneg (by omega)
  have t3 : Int.tdiv FN 8192 = FN / 8192 := Int.tdiv_eq_ediv_of_nonneg (by omega)
  have t4 : Int.tmod (FN / 8192) 2 = FN / 8192 % 2 := Int.tmod_eq_emod_of_nonneg (by omega)
  have t5 : Int.tmod FN 8192 = FN % 8192 := Int.tmod_eq_emod_of_nonneg (by omega)
  go_enter Try.func15, Try.ntmps15
  go_wp2_with fail
  refine (N1.out _ HB0.out).mono ?_
  rintro e w1 ⟨rfl, hw⟩
  subst w1
  go_wp2_with fail
  refine (HS.out _ HB0.out).mono ?_
  rintro e w1 ⟨rfl, hb1⟩
  rw [World.size_alloc] at hb1
  have HF1 := hid (HF0.out _ hb1)
  clear hb1
  go_wp2_with fail
  refine (N2.out _ HF1.out.2).mono ?_
  rintro e w2 ⟨rfl, hw⟩
  subst w2
  have cB := HC.out _ HF1.out.2
  obtain ⟨cB0, cB8⟩ := cB
  clear cA
  rcases hcs with ⟨rfl, c1⟩ | ⟨rfl, c1, c2⟩ | ⟨rfl, c1, c3⟩ | ⟨rfl, c1, c2, c3⟩ | ⟨rfl, c1, c2, c3, c4⟩ | ⟨-, c1, c2, c3, c4, ⟨rfl, c5⟩ | ⟨rfl, ⟨rfl, c6⟩ | ⟨rfl, c6, c7⟩ | ⟨c6, c7, ⟨rfl, c8⟩ | ⟨rfl, c8⟩⟩⟩⟩
  · as_aux_lemma =>
      have q1 : (z0 / 16 != 4) = true := by simpa using c1
      go_wp2_with (first
        | (refine wpList_store_row rfl 27 _ _ rfl w.heap.size #[.int .i64 0, .int .i64 0, .int .i64 0, .int .i64 0, .bool false, .int .u32 0, .int .u32 0] rfl rfl 27 _ HF1.out.1 (by kernel_rfl) rfl (by first | kernel_rfl | simp [Value.oneCell']) ?_) | fail)
      refine bodyPost_ret (v := .tuple #[.agg #[.int .i64 0, .int .i64 0, .int .i64 0, .int .i64 0, .bool false, .int .u32 0, .int .u32 0], .slice none 0 0, .int .i64 90]) ?_ (by rfl) ⟨rfl, bbut HF1.out.2 (But.setRow _ _ _) (Nat.le_refl _)⟩
      exact results_row12 Try.results15 _ _ w.heap.size 27 _ (0, 0) _ _ _ rfl rfl rfl (setRow_heap _ _ _ _ _ _ HF1.out.1) Try.underlying27 rfl (by kernel_rfl)
  · as_aux_lemma =>
      have q1 : (z0 / 16 != 4) = false := by simpa using c1
      go_wp2_with (first
        | (refine wpList_store_row rfl 27 _ _ rfl w.heap.size #[.int .i64 0, .int .i64 0, .int .i64 0, .int .i64 0, .bool false, .int .u32 0, .int .u32 0] rfl rfl 27 _ HF1.out.1 (by kernel_rfl) rfl (by first | kernel_rfl | simp [Value.oneCell']) ?_) | fail)
      refine bodyPost_ret (v := .tuple #[.agg #[.int .i64 0, .int .i64 0, .int .i64 0, .int .i64 0, .bool false, .int .u32 0, .int .u32 0], .slice none 0 0, .int .i64 91]) ?_ (by rfl) ⟨rfl, bbut HF1.out.2 (But.setRow _ _ _) (Nat.le_refl _)⟩
      exact results_row12 Try.results15 _ _ w.heap.size 27 _ (0, 0) _ _ _ rfl rfl rfl (setRow_heap _ _ _ _ _ _ HF1.out.1) Try.underlying27 rfl (by kernel_rfl)
  · as_aux_lemma =>
      have q1 : (z0 / 16 != 4) = false := by simpa using c1
      have q2 : ¬ 5 < z0 % 16 := by omega
      go_wp2_with (first
        | (refine wpList_store_row rfl 27 _ _ rfl w.heap.size #[.int .i64 0, .int .i64 0, .int .i64 0, .int .i64 0, .bool false, .int .u32 0, .int .u32 0] rfl rfl 27 _ HF1.out.1 (by kernel_rfl) rfl (by first | kernel_rfl | simp [Value.oneCell']) ?_) | fail)
      refine bodyPost_ret (v := .tuple #[.agg #[.int .i64 0, .int .i64 0, .int .i64 0, .int .i64 0, .bool false, .int .u32 0, .int .u32 0], .slice none 0 0, .int .i64 92]) ?_ (by rfl) ⟨rfl, bbut HF1.out.2 (But.setRow _ _ _) (Nat.le_refl _)⟩
      exact results_row12 Try.results15 _ _ w.heap.size 27 _ (0, 0) _ _ _ rfl rfl rfl (setRow_heap _ _ _ _ _ _ HF1.out.1) Try.underlying27 rfl (by kernel_rfl)
  · as_aux_lemma =>
      have q1 : (z0 / 16 != 4) = false := by simpa using c1
      have q2 : ¬ 5 < z0 % 16 := by omega
      have q3 : ¬ z0 % 16 < 5 := by omega
      go_wp2_with (first
        | (refine wpList_store_row rfl 27 _ _ rfl w.heap.size #[.int .i64 0, .int .i64 0, .int .i64 0, .int .i64 0, .bool false, .int .u32 0, .int .u32 0] rfl rfl 27 _ HF1.out.1 (by kernel_rfl) rfl (by first | kernel_rfl | simp [Value.oneCell']) ?_) | fail)
      refine bodyPost_ret (v := .tuple #[.agg #[.int .i64 0, .int .i64 0, .int .i64 0, .int .i64 0, .bool false, .int .u32 0, .int .u32 0], .slice none 0 0, .int .i64 92]) ?_ (by rfl) ⟨rfl, bbut HF1.out.2 (But.setRow _ _ _) (Nat.le_refl _)⟩
      exact results_row12 Try.results15 _ _ w.heap.size 27 _ (0, 0) _ _ _ rfl rfl rfl (setRow_heap _ _ _ _ _ _ HF1.out.1) Try.underlying27 rfl (by kernel_rfl)
  · as_aux_lemma =>
      have q1 : (z0 / 16 != 4) = false := by simpa using c1
      have q2 : ¬ 5 < z0 % 16 := by omega
      have q3 : ¬ z0 % 16 < 5 := by omega
      go_wp2_with (first
        | (refine wpList_store_row rfl 27 _ _ rfl w.heap.size #[.int .i64 0, .int .i64 0, .int .i64 0, .int .i64 0, .bool false, .int .u32 0, .int .u32 0] rfl rfl 27 _ HF1.out.1 (by kernel_rfl) rfl (by first | kernel_rfl | simp [Value.oneCell']) ?_) | fail)
      refine bodyPost_ret (v := .tuple #[.agg #[.int .i64 0, .int .i64 0, .int .i64 0, .int .i64 0, .bool false, .int .u32 0, .int .u32 0], .slice none 0 0, .int .i64 92]) ?_ (by rfl) ⟨rfl, bbut HF1.out.2 (But.setRow _ _ _) (Nat.le_refl _)⟩
      exact results_row12 Try.results15 _ _ w.heap.size 27 _ (0, 0) _ _ _ rfl rfl rfl (setRow_heap _ _ _ _ _ _ HF1.out.1) Try.underlying27 rfl (by kernel_rfl)
  · as_aux_lemma =>
      have q1 : (z0 / 16 != 4) = false := by simpa using c1
      have q2 : ¬ 5 < z0 % 16 := by omega
      have q3 : ¬ z0 % 16 < 5 := by omega
      have q4 : (SU != 0) = true := by simpa using c5
      go_wp2_with (first
        | (refine wpList_store_row rfl 27 _ _ rfl w.heap.size #[.int .i64 0, .int .i64 0, .int .i64 0, .int .i64 0, .bool false, .int .u32 0, .int .u32 0] rfl rfl 27 _ HF1.out.1 (by kernel_rfl) rfl (by first | kernel_rfl | simp [Value.oneCell']) ?_) | fail)
      refine bodyPost_ret (v := .tuple #[.agg #[.int .i64 0, .int .i64 0, .int .i64 0, .int .i64 0, .bool false, .int .u32 0, .int .u32 0], .slice none 0 0, .int .i64 93]) ?_ (by rfl) ⟨rfl, bbut HF1.out.2 (But.setRow _ _ _) (Nat.le_refl _)⟩
      exact results_row12 Try.results15 _ _ w.heap.size 27 _ (0, 0) _ _ _ rfl rfl rfl (setRow_heap _ _ _ _ _ _ HF1.out.1) Try.underlying27 rfl (by kernel_rfl)
  · as_aux_lemma =>
      have q1 : (z0 / 16 != 4) = false := by simpa using c1
      have q2 : ¬ 5 < z0 % 16 := by omega
      have q3 : ¬ z0 % 16 < 5 := by omega
      have q5 : (FN / 8192 % 2 == 1) = true := by simpa using c6
      go_wp2_with (first
        | (refine wpList_store_row rfl 27 _ _ rfl w.heap.size #[.int .i64 0, .int .i64 0, .int .i64 0, .int .i64 0, .bool false, .int .u32 0, .int .u32 0] rfl rfl 27 _ HF1.out.1 (by kernel_rfl) rfl (by first | kernel_rfl | simp [Value.oneCell']) ?_) | fail)
      refine bodyPost_ret (v := .tuple #[.agg #[.int .i64 0, .int .i64 0, .int .i64 0, .int .i64 0, .bool false, .int .u32 0, .int .u32 0], .slice none 0 0, .int .i64 94]) ?_ (by rfl) ⟨rfl, bbut HF1.out.2 (But.setRow _ _ _) (Nat.le_refl _)⟩
      exact results_row12 Try.results15 _ _ w.heap.size 27 _ (0, 0) _ _ _ rfl rfl rfl (setRow_heap _ _ _ _ _ _ HF1.out.1) Try.underlying27 rfl (by kernel_rfl)
  · as_aux_lemma =>
      have q1 : (z0 / 16 != 4) = false := by simpa using c1
      have q2 : ¬ 5 < z0 % 16 := by omega
      have q3 : ¬ z0 % 16 < 5 := by omega
      have q5 : (FN / 8192 % 2 == 1) = false := by simpa using c6
      have q6 : (FN % 8192 != 0) = true := by simpa using c7
      go_wp2_with (first
        | (refine wpList_store_row rfl 27 _ _ rfl w.heap.size #[.int .i64 0, .int .i64 0, .int .i64 0, .int .i64 0, .bool false, .int .u32 0, .int .u32 0] rfl rfl 27 _ HF1.out.1 (by kernel_rfl) rfl (by first | kernel_rfl | simp [Value.oneCell']) ?_) | fail)
      refine bodyPost_ret (v := .tuple #[.agg #[.int .i64 0, .int .i64 0, .int .i64 0, .int .i64 0, .bool false, .int .u32 0, .int .u32 0], .slice none 0 0, .int .i64 94]) ?_ (by rfl) ⟨rfl, bbut HF1.out.2 (But.setRow _ _ _) (Nat.le_refl _)⟩
      exact results_row12 Try.results15 _ _ w.heap.size 27 _ (0, 0) _ _ _ rfl rfl rfl (setRow_heap _ _ _ _ _ _ HF1.out.1) Try.underlying27 rfl (by kernel_rfl)
  · as_aux_lemma =>
      have q1 : (z0 / 16 != 4) = false := by simpa using c1
      have q2 : ¬ 5 < z0 % 16 := by omega
      have q3 : ¬ z0 % 16 < 5 := by omega
      have q5 : (FN / 8192 % 2 == 1) = false := by simpa using c6
      have q6 : (FN % 8192 != 0) = false := by simpa using c7
      subst c8
      go_wp2_with (first
        | (refine wpList_store_row rfl 27 _ _ rfl w.heap.size #[.int .i64 0, .int .i64 0, .int .i64 0, .int .i64 0, .bool false, .int .u32 0, .int .u32 0] rfl rfl 27 _ HF1.out.1 (by kernel_rfl) rfl (by first | kernel_rfl | simp [Value.oneCell']) ?_) | fail)
      refine bodyPost_ret (v := .tuple #[.agg #[.int .i64 0, .int .i64 0, .int .i64 0, .int .i64 0, .bool false, .int .u32 0, .int .u32 0], .slice none 0 0, .int .i64 95]) ?_ (by rfl) ⟨rfl, bbut HF1.out.2 (But.setRow _ _ _) (Nat.le_refl _)⟩
      exact results_row12 Try.results15 _ _ w.heap.size 27 _ (0, 0) _ _ _ rfl rfl rfl (setRow_heap _ _ _ _ _ _ HF1.out.1) Try.underlying27 rfl (by kernel_rfl)
  · exact absurd rfl hE
end Go.Proofs.Ytccmkljbedddiaa
