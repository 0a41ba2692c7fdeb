/-
  arp.Decode of what it takes.
-/
import Derived.Test.YtecpmfkceeonlaaADecW
namespace Go.Proofs.Ytecpmfkceeonlaa
open Go.RowKit
set_option linter.all false

/-- a Decode under way, from the message's box on. -/
def DecJ (w : World) (gp : Nat) (F : Array Value) (w' : World) : Prop :=
  w'.heap[w.heap.size]? = some (.cells zeroArp.cells 27 (0, 0)) ∧ w'.heap[gp]? = some (.cells F 27 (0, 0)) ∧ w.heap.size < gp ∧ Below w.heap.size w w'
theorem decJ_first {w W : World} {H F : Array Value} (h : DecI w H W) : DecJ w W.heap.size F (W.alloc (.cells F 27)) :=
  ⟨(heap_old W _ (heap_lt h.1)).trans h.1, heap_new W _, heap_lt h.1, bpush h.2.2 _⟩
theorem decJ_next {w W W' w' : World} {gp : Nat} {F F' : Array Value} (h : DecJ w gp F W) (hB : Below W.heap.size W W') (hg : w'.heap[gp]? = some (.cells F' 27 (0, 0))) (hb : But gp W' w') : DecJ w gp F' w' :=
  ⟨keptBut (kept h.1 hB) hb (by have := h.2.2.1; omega), hg, h.2.2.1, bbut (bstep h.2.2.2 hB) hb (by have := h.2.2.1; omega)⟩

set_option maxRecDepth 20000 in
set_option maxHeartbeats 4000000 in
theorem decode_ok (pt : Part) (w : World) (hok : pt.ok w) (hl : 28 ≤ pt.zs.length) (hl2 : pt.zs.length ≤ 281474976710656) (hk : decGood pt.zs) :
    Calls Try.prog 14 #[pt.val] w fun e w' => e = .returned (.tuple #[(decP pt.zs).val, .int .i64 0]) ∧ Below w.heap.size w w' := by
  have HN : Hid (∀ w', Below w.heap.size w w' → Calls Try.prog 33 #[pt.val, .int .i64 6, .int .i64 2] w' fun e w'' => e = .returned (.int .u32 (numAt pt.zs 6 2)) ∧ w'' = w') := fun w' hb => number_any pt 6 2 w' (Part.ok_below hok hb) hl2 (by omega) (Or.inl rfl)
  have HN1 : Hid (∀ w', Below w.heap.size w w' → Calls Try.prog 33 #[pt.val, .int .i64 14, .int .i64 4] w' fun e w'' => e = .returned (.int .u32 (numAt pt.zs 14 4)) ∧ w'' = w') := fun w' hb => number_any pt 14 4 w' (Part.ok_below hok hb) hl2 (by omega) (Or.inr rfl)
  have HN2 : Hid (∀ w', Below w.heap.size w w' → Calls Try.prog 33 #[pt.val, .int .i64 24, .int .i64 4] w' fun e w'' => e = .returned (.int .u32 (numAt pt.zs 24 4)) ∧ w'' = w') := fun w' hb => number_any pt 24 4 w' (Part.ok_below hok hb) hl2 (by omega) (Or.inr rfl)
  have hcap := hok.2.1
  have HK : Hid (∀ w, Calls Try.prog 26 #[] w fun e w' => e = .returned kindsM.val ∧ Below w.heap.size w w') := kinds_any
  have HO : Hid (∀ w, Calls Try.prog 25 #[.int .i64 (numAt pt.zs 6 2)] w fun e w' => e = .returned (.bool true) ∧ w' = w) := fun w => by have := isOp_any (numAt pt.zs 6 2) w; rwa [hk.2] at this
  have hbd := (numAt_bd hok.1 6).1
  have hmo := macAt_ok hok.1 0
  have q1 := six_eq (macAt pt.zs 0) kindsM hmo kindsM_ok
  rw [decide_eq_true hk.1] at q1
  obtain ⟨b, o, ha, hc⟩ : ∃ b o, pt.a = some ⟨b, o, none⟩ ∧ True := by
    rcases hok.2.2 with he | ⟨b, o, ha, _⟩
    · rw [he] at hl; simp at hl
    · exact ⟨b, o, ha, trivial⟩
  obtain ⟨pa, c, zs⟩ := pt
  simp only at *
  subst ha
  have HS0 : Hid (∀ w', Below w.heap.size w w' → Part.ok w' ⟨some ⟨b, o, none⟩, 6, (macAt zs 0).zs⟩) := fun w' hb => by have := Part.sub_ok (Part.ok_below hok hb) 0 6 6 (by omega) (by omega); rwa [← macAt_zs zs 0 (by omega)] at this
  have hwi : IntKind.i64.wrap (numAt zs 6 2) = numAt zs 6 2 := by simp only [IntKind.wrap_i64]; omega
  have HS8 : Hid (∀ w', Below w.heap.size w w' → Part.ok w' ⟨some ⟨b, o + 8, none⟩, c - 8, (macAt zs 8).zs⟩) := fun w' hb => by have := Part.sub_ok (Part.ok_below hok hb) 8 6 (c - 8) (by omega) (by omega); rwa [← macAt_zs zs 8 (by omega)] at this
  have HS18 : Hid (∀ w', Below w.heap.size w w' → Part.ok w' ⟨some ⟨b, o + 18, none⟩, c - 18, (macAt zs 18).zs⟩) := fun w' hb => by have := Part.sub_ok (Part.ok_below hok hb) 18 6 (c - 18) (by omega) (by omega); rwa [← macAt_zs zs 18 (by omega)] at this
  have HDP : Hid (decP zs = ⟨numAt zs 6 2, macAt zs 8, numAt zs 14 4, macAt zs 18, numAt zs 24 4⟩) := rfl
  rw [HDP.out]
  clear hok hk hmo hc HDP
  simp only [Part.val] at *
  generalize numAt zs 6 2 = N at *
  generalize hm0 : macAt zs 0 = M0 at *
  generalize hm8 : macAt zs 8 = M8 at *
  generalize hm18 : macAt zs 18 = M18 at *
  generalize numAt zs 14 4 = N1 at *
  generalize numAt zs 24 4 = N2 at *
  generalize zs.length = l at *
  clear hm0 hm8 hm18
  have c8 : (8 : Int) ≤ (c : Int) := by omega
  have c14 : (14 : Int) ≤ (c : Int) := by omega
  have c18 : (18 : Int) ≤ (c : Int) := by omega
  have c24 : (24 : Int) ≤ (c : Int) := by omega
  have d8 : ¬ c = 8 := by omega
  have d18 : ¬ c = 18 := by omega
  have h3 : ¬ (l : Int) < 28 := by omega
  obtain ⟨m0, m1, m2, m3, m4, m5⟩ := M0
  obtain ⟨s0, s1, s2, s3, s4, s5⟩ := M8
  obtain ⟨d0, d1, d2, d3, d4, d5⟩ := M18
  simp only [Mac.zs, Mac.val, Arp.val, zeroArp, zeroMac, kindsM] at *
  go_enter Try.func14, Try.ntmps14
  have H0 := hid (dec_first w #[.int .u8 0, .int .u8 0, .int .u8 0, .int .u8 0, .int .u8 0, .int .u8 0])
  simp only [Arp.cells, zeroArp, zeroMac] at H0
  go_wp2_with (first
    | (refine wpList_copyL rfl _ _ rfl ⟨some ⟨b, o, none⟩, 6, [m0, m1, m2, m3, m4, m5]⟩ l c (w.heap.size + 1) 0 6 6 _ 23 rfl rfl H0.out.2.1 (HS0.out _ H0.out.2.2) (by simp) rfl (by simp; omega) (by simp) ?_; intro w2 hg2 hb2) | fail)
  have H2 : Hid (DecI w #[.int .u8 m0, .int .u8 m1, .int .u8 m2, .int .u8 m3, .int .u8 m4, .int .u8 m5] w2) := dec_head H0.out hg2.out hb2.out
  clear hg2 hb2 H0
  go_wp2_with fail
  refine (HN.out _ H2.out.2.2).mono ?_
  rintro e w3 ⟨rfl, hw3⟩
  subst w3
  go_wp2
  go_region_held3 (fun w' => (∀ q, w'.cell? ⟨w.heap.size + 1, q, none⟩ = (#[.int .u8 m0, .int .u8 m1, .int .u8 m2, .int .u8 m3, .int .u8 m4, .int .u8 m5] : Array Value)[q]?) ∧ DecI w #[.int .u8 m0, .int .u8 m1, .int .u8 m2, .int .u8 m3, .int .u8 m4, .int .u8 m5] w') (first
      | assumption | exact decS_drew H2.out | exact decS_keep (by assumption) (by assumption)) (first
      | (go_at_call 26; refine (HK.out _).mono ?_; rintro e w' ⟨rfl, hb⟩)
      | (go_at_call 25; refine (HO.out _).mono ?_; rintro e w' ⟨rfl, hw⟩; subst w') | fail)
  have HB := hid (‹_ ∧ DecI w #[.int .u8 m0, .int .u8 m1, .int .u8 m2, .int .u8 m3, .int .u8 m4, .int .u8 m5] _›).2
  clear hb H2
  go_wp2_with fail
  refine (HN1.out _ HB.out.2.2).mono ?_
  rintro e w3 ⟨rfl, hw⟩
  subst w3
  go_wp2_with fail
  refine (HN2.out _ HB.out.2.2).mono ?_
  rintro e w3 ⟨rfl, hw⟩
  subst w3
  have H3 := hid (decJ_first (F := #[.int .i64 N, .int .u8 0, .int .u8 0, .int .u8 0, .int .u8 0, .int .u8 0, .int .u8 0, .int .u32 N1, .int .u8 0, .int .u8 0, .int .u8 0, .int .u8 0, .int .u8 0, .int .u8 0, .int .u32 N2]) HB.out)
  clear HB
  go_wp2_with fail
  generalize hW : w'.alloc _ = W at *
  generalize w'.heap.size = gp at *
  clear hW
  go_region_held3 (fun w' => True) (exact trivial) (first
    | (refine step_copyV rfl _ _ rfl ⟨some ⟨b, o + 8, none⟩, c - 8, [s0, s1, s2, s3, s4, s5]⟩ gp 1 6 6 _ 27 rfl rfl (by exact H3.out.2.1) (by exact HS8.out _ H3.out.2.2.2.drew) (by simp) (by simp) ?_; intro w4 hg4 hb4) | fail)
  have H4 : Hid (DecJ w gp #[.int .i64 N, .int .u8 s0, .int .u8 s1, .int .u8 s2, .int .u8 s3, .int .u8 s4, .int .u8 s5, .int .u32 N1, .int .u8 0, .int .u8 0, .int .u8 0, .int .u8 0, .int .u8 0, .int .u8 0, .int .u32 N2] w4) := decJ_next H3.out (Below.refl _ _).drew hg4.out hb4.out
  clear hg4 hb4 H3
  go_wp2
  go_region_held3 (fun w' => True) (exact trivial) (first
    | (refine step_copyV rfl _ _ rfl ⟨some ⟨b, o + 18, none⟩, c - 18, [d0, d1, d2, d3, d4, d5]⟩ gp 8 6 6 _ 27 rfl rfl (by exact H4.out.2.1) (by exact HS18.out _ H4.out.2.2.2.drew) (by simp) (by simp) ?_; intro w5 hg5 hb5) | fail)
  have H5 : Hid (DecJ w gp #[.int .i64 N, .int .u8 s0, .int .u8 s1, .int .u8 s2, .int .u8 s3, .int .u8 s4, .int .u8 s5, .int .u32 N1, .int .u8 d0, .int .u8 d1, .int .u8 d2, .int .u8 d3, .int .u8 d4, .int .u8 d5, .int .u32 N2] w5) := decJ_next H4.out (Below.refl _ _).drew hg5.out hb5.out
  clear hg5 hb5 H4
  go_wp2_with (first
    | (refine wpList_load_row rfl 27 _ rfl gp rfl 27 #[.int .i64 N, .int .u8 s0, .int .u8 s1, .int .u8 s2, .int .u8 s3, .int .u8 s4, .int .u8 s5, .int .u32 N1, .int .u8 d0, .int .u8 d1, .int .u8 d2, .int .u8 d3, .int .u8 d4, .int .u8 d5, .int .u32 N2] (0, 0) _ (by exact H5.out.2.1) Try.underlying27 rfl (by kernel_rfl) ?_)
    | (refine wpList_store_row rfl 27 _ _ rfl w.heap.size #[.int .i64 N, .int .u8 s0, .int .u8 s1, .int .u8 s2, .int .u8 s3, .int .u8 s4, .int .u8 s5, .int .u32 N1, .int .u8 d0, .int .u8 d1, .int .u8 d2, .int .u8 d3, .int .u8 d4, .int .u8 d5, .int .u32 N2] rfl rfl 27 _ H5.out.1 (by kernel_rfl) rfl (by first | kernel_rfl | simp [Value.oneCell']) ?_) | fail)
  refine bodyPost_ret (v := .tuple #[.agg #[.int .i64 N, .int .u8 s0, .int .u8 s1, .int .u8 s2, .int .u8 s3, .int .u8 s4, .int .u8 s5, .int .u32 N1, .int .u8 d0, .int .u8 d1, .int .u8 d2, .int .u8 d3, .int .u8 d4, .int .u8 d5, .int .u32 N2], .int .i64 0]) ?_ (by rfl) ⟨rfl, bbut H5.out.2.2.2 (But.setRow _ _ _) (Nat.le_refl _)⟩
  exact results_row2 Try.results14 _ _ w.heap.size 27 _ (0, 0) _ _ rfl rfl (setRow_heap _ _ _ _ _ _ H5.out.1) Try.underlying27 rfl (by kernel_rfl)
/-- Decode, of any bytes. -/
theorem decode_any (pt : Part) (w : World) (hok : pt.ok w) (hl2 : pt.zs.length ≤ 281474976710656) :
    Calls Try.prog 14 #[pt.val] w fun e w' => e = .returned (.tuple #[(decA pt.zs).val, .int .i64 (decE pt.zs)]) ∧ Below w.heap.size w w' := by
  unfold decA decE
  by_cases h1 : pt.zs.length < 28
  · rw [if_pos h1, if_pos h1]
    exact decode_short _ _ _ w h1
  · rw [if_neg h1, if_neg h1]
    by_cases h2 : decGood pt.zs
    · rw [if_pos h2, if_pos h2]
      exact decode_ok pt w hok (by omega) hl2 h2
    · rw [if_neg h2, if_neg h2]
      exact decode_bad pt w hok (by omega) hl2 h2
end Go.Proofs.Ytecpmfkceeonlaa
