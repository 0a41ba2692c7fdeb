/-
  arp.Decode.
-/
import Derived.Test.YtecpmfkceeonlaaADec
namespace Go.Proofs.Ytecpmfkceeonlaa
open Go.RowKit
set_option linter.all false

/-- a Decode under way: the result's variable, the head. -/
def DecI (w : World) (H : Array Value) (w' : World) : Prop :=
  w'.heap[w.heap.size]? = some (.cells zeroArp.cells 27 (0, 0)) ∧ w'.heap[w.heap.size + 1]? = some (.cells H 23 (0, 0)) ∧ Below w.heap.size w w'
theorem dec_first (w : World) (H : Array Value) : DecI w H ((w.alloc (.cells zeroArp.cells 27)).alloc (.cells H 23)) := by
  have h := ((Holds.nil w).push (.cells zeroArp.cells 27)).push (.cells H 23)
  simp only [World.size_alloc] at h
  exact ⟨h.at 1 _ _ rfl, h.at 0 _ _ rfl, bpush (bpush (Below.refl _ _) _) _⟩
theorem dec_head {w W w' : World} {H H' : Array Value} (h : DecI w H W) (hg : w'.heap[w.heap.size + 1]? = some (.cells H' 23 (0, 0))) (hb : But (w.heap.size + 1) W w') : DecI w H' w' :=
  ⟨keptBut h.1 hb (by omega), hg, bbut h.2.2 hb (by omega)⟩
theorem dec_below {w W w' : World} {H : Array Value} (h : DecI w H W) (hb : Below W.heap.size W w') : DecI w H w' :=
  ⟨kept h.1 hb, kept h.2.1 hb, bstep h.2.2 hb⟩

/-- the same, with the head's bytes as the walk reads them. -/
def DecS (w : World) (H : Array Value) (w' : World) : Prop := (∀ q, w'.cell? ⟨w.heap.size + 1, q, none⟩ = H[q]?) ∧ DecI w H w'
theorem decS_of {w w' : World} {H : Array Value} (h : DecI w H w') : DecS w H w' := ⟨fun q => cell_of_heap h.2.1 q, h⟩
theorem decS_drew {w w' : World} {H : Array Value} (h : DecI w H w') : DecS w H w'.drew := decS_of (dec_below h (Below.refl _ _).drew)
theorem decS_keep {w W w' : World} {H : Array Value} (h : DecS w H W) (hb : Below W.heap.size W w') : DecS w H w' := decS_of (dec_below h.2 hb)

set_option maxRecDepth 20000 in
set_option maxHeartbeats 4000000 in
theorem decode_bad (pt : Part) (w : World) (hok : pt.ok w) (hl : 28 ≤ pt.zs.length) (hl2 : pt.zs.length ≤ 281474976710656) (hk : ¬ decGood pt.zs) :
    Calls Try.prog 14 #[pt.val] w fun e w' => e = .returned (.tuple #[zeroArp.val, .int .i64 80]) ∧ Below w.heap.size w w' := by
  have HN : Hid (∀ w', Below w.heap.size w w' → Calls Try.prog 33 #[pt.val, .int .i64 6, .int .i64 2] w' fun e w'' => e = .returned (.int .u32 (numAt pt.zs 6 2)) ∧ w'' = w') := fun w' hb => number_any pt 6 2 w' (Part.ok_below hok hb) hl2 (by omega) (Or.inl rfl)
  have HK : Hid (∀ w, Calls Try.prog 26 #[] w fun e w' => e = .returned kindsM.val ∧ Below w.heap.size w w') := kinds_any
  have HO : Hid (∀ w, Calls Try.prog 25 #[.int .i64 (numAt pt.zs 6 2)] w fun e w' => e = .returned (.bool (opB (numAt pt.zs 6 2))) ∧ w' = w) := fun w => isOp_any _ w
  have hbd := (numAt_bd hok.1 6).1
  have hmo := macAt_ok hok.1 0
  have q1 := six_eq (macAt pt.zs 0) kindsM hmo kindsM_ok
  have HX : Hid (decide (macAt pt.zs 0 = kindsM) = false ∨ opB (numAt pt.zs 6 2) = false) := by
    unfold Hid
    unfold decGood at hk
    by_cases h : macAt pt.zs 0 = kindsM
    · right
      cases h2 : opB (numAt pt.zs 6 2)
      · rfl
      · exact absurd ⟨h, h2⟩ hk
    · left; simp [h]
  obtain ⟨b, o, ha, hc⟩ : ∃ b o, pt.a = some ⟨b, o, none⟩ ∧ True := by
    rcases hok.2.2 with he | ⟨b, o, ha, _⟩
    · rw [he] at hl; simp at hl
    · exact ⟨b, o, ha, trivial⟩
  obtain ⟨pa, c, zs⟩ := pt
  simp only at *
  subst ha
  have HS0 : Hid (∀ w', Below w.heap.size w w' → Part.ok w' ⟨some ⟨b, o, none⟩, 6, (macAt zs 0).zs⟩) := fun w' hb => by have := Part.sub_ok (Part.ok_below hok hb) 0 6 6 (by omega) (by omega); rwa [← macAt_zs zs 0 (by omega)] at this
  have hwi : IntKind.i64.wrap (numAt zs 6 2) = numAt zs 6 2 := by simp only [IntKind.wrap_i64]; omega
  clear hok hk hmo hc
  simp only [Part.val] at *
  generalize numAt zs 6 2 = N at *
  generalize opB N = B at *
  generalize hm0 : macAt zs 0 = M0 at *
  generalize decide (M0 = kindsM) = E at *
  generalize zs.length = l at *
  clear hm0
  have h3 : ¬ (l : Int) < 28 := by omega
  obtain ⟨m0, m1, m2, m3, m4, m5⟩ := M0
  simp only [Mac.zs, Mac.val, Arp.val, zeroArp, zeroMac, kindsM] at *
  go_enter Try.func14, Try.ntmps14
  have H0 := hid (dec_first w #[.int .u8 0, .int .u8 0, .int .u8 0, .int .u8 0, .int .u8 0, .int .u8 0])
  simp only [Arp.cells, zeroArp, zeroMac] at H0
  go_wp2_with (first
    | (refine wpList_copyL rfl _ _ rfl ⟨some ⟨b, o, none⟩, 6, [m0, m1, m2, m3, m4, m5]⟩ l c (w.heap.size + 1) 0 6 6 _ 23 rfl rfl H0.out.2.1 (HS0.out _ H0.out.2.2) (by simp) rfl (by simp; omega) (by simp) ?_; intro w2 hg2 hb2) | fail)
  have H2 : Hid (DecI w #[.int .u8 m0, .int .u8 m1, .int .u8 m2, .int .u8 m3, .int .u8 m4, .int .u8 m5] w2) := dec_head H0.out hg2.out hb2.out
  clear hg2 hb2 H0
  go_wp2_with fail
  refine (HN.out _ H2.out.2.2).mono ?_
  rintro e w3 ⟨rfl, hw3⟩
  subst w3
  go_wp2
  have HZ : (E = false) ∨ (E = true ∧ B = false) := by have := HX.out; cases E <;> simp_all
  rcases HZ with rfl | ⟨rfl, rfl⟩
  · have hcc : ∀ q, w2.cell? ⟨w.heap.size + 1, q, none⟩ = (#[.int .u8 m0, .int .u8 m1, .int .u8 m2, .int .u8 m3, .int .u8 m4, .int .u8 m5] : Array Value)[q]? := fun q => cell_of_heap H2.out.2.1 q
    first | go_region_with (first
      | (rw [if_neg (show ¬ _ from by unfold undef; simp)])
      | (go_at_call 26; refine (HK.out _).mono ?_; rintro e w' ⟨rfl, hb⟩; obtain ⟨hc, hd⟩ := decS_keep (decS_drew H2.out) hb; have HB := hid hd; clear hb hd)
      | (go_at_call 25; refine (HO.out _).mono ?_; rintro e w' ⟨rfl, hw⟩; subst w') | fail) | fail
    all_goals
      go_wp2_with (first
        | (refine wpList_store_row rfl 27 _ _ rfl w.heap.size #[.int .i64 0, .int .u8 0, .int .u8 0, .int .u8 0, .int .u8 0, .int .u8 0, .int .u8 0, .int .u32 0, .int .u8 0, .int .u8 0, .int .u8 0, .int .u8 0, .int .u8 0, .int .u8 0, .int .u32 0] rfl rfl 27 _ HB.out.1 (by kernel_rfl) rfl (by first | kernel_rfl | simp [Value.oneCell']) ?_) | fail)
      refine bodyPost_ret (v := .tuple #[.agg #[.int .i64 0, .int .u8 0, .int .u8 0, .int .u8 0, .int .u8 0, .int .u8 0, .int .u8 0, .int .u32 0, .int .u8 0, .int .u8 0, .int .u8 0, .int .u8 0, .int .u8 0, .int .u8 0, .int .u32 0], .int .i64 80]) ?_ (by rfl) ⟨rfl, bbut HB.out.2.2 (But.setRow _ _ _) (Nat.le_refl _)⟩
      exact results_row2 Try.results14 _ _ w.heap.size 27 _ (0, 0) _ _ rfl rfl (setRow_heap _ _ _ _ _ _ HB.out.1) Try.underlying27 rfl (by kernel_rfl)
  · go_region_held3 (fun w' => (∀ q, w'.cell? ⟨w.heap.size + 1, q, none⟩ = (#[.int .u8 m0, .int .u8 m1, .int .u8 m2, .int .u8 m3, .int .u8 m4, .int .u8 m5] : Array Value)[q]?) ∧ DecI w #[.int .u8 m0, .int .u8 m1, .int .u8 m2, .int .u8 m3, .int .u8 m4, .int .u8 m5] w') (first
      | assumption | exact decS_drew H2.out | exact decS_keep (by assumption) (by assumption)) (first
      | (go_at_call 26; refine (HK.out _).mono ?_; rintro e w' ⟨rfl, hb⟩)
      | (go_at_call 25; refine (HO.out _).mono ?_; rintro e w' ⟨rfl, hw⟩; subst w') | fail)
    all_goals have HB := hid (‹_ ∧ DecI w #[.int .u8 m0, .int .u8 m1, .int .u8 m2, .int .u8 m3, .int .u8 m4, .int .u8 m5] _›).2
    all_goals clear hb
    all_goals
      go_wp2_with (first
        | (refine wpList_store_row rfl 27 _ _ rfl w.heap.size #[.int .i64 0, .int .u8 0, .int .u8 0, .int .u8 0, .int .u8 0, .int .u8 0, .int .u8 0, .int .u32 0, .int .u8 0, .int .u8 0, .int .u8 0, .int .u8 0, .int .u8 0, .int .u8 0, .int .u32 0] rfl rfl 27 _ HB.out.1 (by kernel_rfl) rfl (by first | kernel_rfl | simp [Value.oneCell']) ?_) | fail)
      refine bodyPost_ret (v := .tuple #[.agg #[.int .i64 0, .int .u8 0, .int .u8 0, .int .u8 0, .int .u8 0, .int .u8 0, .int .u8 0, .int .u32 0, .int .u8 0, .int .u8 0, .int .u8 0, .int .u8 0, .int .u8 0, .int .u8 0, .int .u32 0], .int .i64 80]) ?_ (by rfl) ⟨rfl, bbut HB.out.2.2 (But.setRow _ _ _) (Nat.le_refl _)⟩
      exact results_row2 Try.results14 _ _ w.heap.size 27 _ (0, 0) _ _ rfl rfl (setRow_heap _ _ _ _ _ _ HB.out.1) Try.underlying27 rfl (by kernel_rfl)
end Go.Proofs.Ytecpmfkceeonlaa
