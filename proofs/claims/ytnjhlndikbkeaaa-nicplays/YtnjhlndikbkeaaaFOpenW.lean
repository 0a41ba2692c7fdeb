/-
  frame.Open of what it takes.
-/
import Derived.Test.YtnjhlndikbkeaaaFOpen
namespace Go.Proofs.Ytnjhlndikbkeaaa
open Go.RowKit
set_option linter.all false

/-- an Open under way: the result's variable, Data, the frame. -/
def OpenI (w : World) (F : Array Value) (L : List Int) (w' : World) : Prop :=
  w'.heap[w.heap.size]? = some (.cells (frameC zeroMac zeroMac 0 (.slice none 0 0)) 51 (0, 0)) ∧ w'.heap[w.heap.size + 1]? = some (.cells (u8s L).toArray 5 (0, 0)) ∧ w'.heap[w.heap.size + 1 + 1]? = some (.cells F 51 (0, 0)) ∧ Below w.heap.size w w'
theorem open_first (w : World) (L : List Int) (F : Array Value) : OpenI w F L (((w.alloc (.cells (frameC zeroMac zeroMac 0 (.slice none 0 0)) 51)).alloc (.cells (u8s L).toArray 5)).alloc (.cells F 51)) := by
  have h := (((Holds.nil w).push (.cells (frameC zeroMac zeroMac 0 (.slice none 0 0)) 51)).push (.cells (u8s L).toArray 5)).push (.cells F 51)
  simp only [World.size_alloc] at h
  exact ⟨h.at 2 _ _ rfl, h.at 1 _ _ rfl, h.at 0 _ _ rfl, bpush (bpush (bpush (Below.refl _ _) _) _) _⟩
theorem open_frame {w W w' : World} {F F' : Array Value} {L : List Int} (h : OpenI w F L W) (hg : w'.heap[w.heap.size + 1 + 1]? = some (.cells F' 51 (0, 0))) (hb : But (w.heap.size + 1 + 1) W.drew w') : OpenI w F' L w' :=
  ⟨keptBut (w := W.drew) h.1 hb (by omega), keptBut (w := W.drew) h.2.1 hb (by omega), hg, bbut h.2.2.2.drew hb (by omega)⟩
theorem open_data {w W w' : World} {F : Array Value} {L L' : List Int} (h : OpenI w F L W) (hg : w'.heap[w.heap.size + 1]? = some (.cells (u8s L').toArray 5 (0, 0))) (hb : But (w.heap.size + 1) W.drew w') : OpenI w F L' w' :=
  ⟨keptBut (w := W.drew) h.1 hb (by omega), hg, keptBut (w := W.drew) h.2.2.1 hb (by omega), bbut h.2.2.2.drew hb (by omega)⟩

set_option maxRecDepth 20000 in
set_option maxHeartbeats 4000000 in
theorem open_ok (pt : Part) (w : World) (hok : pt.ok w) (hl : 60 ≤ pt.zs.length) (hl2 : pt.zs.length ≤ 1514) (hk : 1536 ≤ kindAt pt.zs) :
    Calls Try.prog 59 #[pt.val] w fun e w' => ∃ g, e = .returned (.tuple #[frameV (macAt pt.zs 0) (macAt pt.zs 6) (kindAt pt.zs) (.slice (some ⟨g, 0, none⟩) (pt.zs.length - 14) (pt.zs.length - 14)), .int .i64 0]) ∧ w.heap.size ≤ g ∧ w'.heap[g]? = some (.cells (u8s (pt.zs.drop 14)).toArray 5 (0, 0)) ∧ Below w.heap.size w w' := by
  have HG : Hid (∀ w', Below w.heap.size w w' → Calls Try.prog 65 #[pt.val, .int .i64 12, .int .i64 2] w' fun e w'' => e = .returned (.tuple #[.int .u64 (kindAt pt.zs), .int .i64 0]) ∧ w'' = w') := fun w' hb => get_kind pt w' (Part.ok_below hok hb) hl hl2
  have hk2 : kindAt pt.zs ≤ 65535 := by
    have h1 := getD_mem_bd hok.1 12
    have h2 := getD_mem_bd hok.1 13
    unfold kindAt; omega
  have hcap := hok.2.1
  obtain ⟨b, o, ha, hc⟩ : ∃ b o, pt.a = some ⟨b, o, none⟩ ∧ True := by
    rcases hok.2.2 with he | ⟨b, o, ha, _⟩
    · rw [he] at hl; simp at hl
    · exact ⟨b, o, ha, trivial⟩
  obtain ⟨pa, c, zs⟩ := pt
  simp only at ha hl hl2 hk hk2 hcap HG
  subst ha
  have HS : Hid (∀ w', Below w.heap.size w w' → ∀ i n cap, i + n ≤ zs.length → n ≤ cap → Part.ok w' ⟨some ⟨b, o + i, none⟩, cap, (zs.drop i).take n⟩) := fun w' hb i n cap h1 h2 => Part.sub_ok (Part.ok_below hok hb) i n cap h1 h2
  have HM0 : Hid ((zs.drop 0).take 6 = (macAt zs 0).zs) := (macAt_zs zs 0 (by omega)).symm
  have HM6 : Hid ((zs.drop 6).take 6 = (macAt zs 6).zs) := (macAt_zs zs 6 (by omega)).symm
  have HME : Hid (splice (List.replicate (zs.length - 14) 0) 0 (zs.drop 14) = zs.drop 14) := by
    unfold Hid
    simp [splice]
  have HD : Hid ((zs.drop 14).length = zs.length - 14) := by unfold Hid; simp
  have HS0 : Hid (∀ w', Below w.heap.size w w' → Part.ok w' ⟨some ⟨b, o, none⟩, 6, (macAt zs 0).zs⟩) := fun w' hb => by have := HS.out w' hb 0 6 6 (by omega) (by omega); rwa [HM0.out] at this
  have HS6 : Hid (∀ w', Below w.heap.size w w' → Part.ok w' ⟨some ⟨b, o + 6, none⟩, 6, (macAt zs 6).zs⟩) := fun w' hb => by have := HS.out w' hb 6 6 6 (by omega) (by omega); rwa [HM6.out] at this
  have HSD : Hid (∀ w', Below w.heap.size w w' → Part.ok w' ⟨some ⟨b, o + 14, none⟩, zs.length - 14, zs.drop 14⟩) := fun w' hb => by have := HS.out w' hb 14 (zs.length - 14) (zs.length - 14) (by omega) (by omega); rwa [List.take_of_length_le (by simp)] at this
  clear HS HM0 HM6
  have hmk : ∀ wx : World, (Instr.makeSlice 43 (.int .i64 ((zs.length : Int) - 14)) (.int .i64 ((zs.length : Int) - 14))).run Try.prog wx = .ok (.slice (some ⟨wx.heap.size, 0, none⟩) (zs.length - 14) (zs.length - 14)) (wx.alloc (.cells (u8s (List.replicate (zs.length - 14) 0)).toArray 5)) := fun wx => by
    have e : ((zs.length : Int) - 14) = ((zs.length - 14 : Nat) : Int) := by omega
    rw [e, Go.run_make_row' (P := Try.prog) 43 5 (.int .u8 0) 1 Try.underlying43 infoU8 rfl .i64 .i64 (zs.length - 14) (by omega) (by omega) wx, made_eq]
  clear hok
  simp only [Part.val] at *
  generalize kindAt zs = k at *
  generalize hD : zs.drop 14 = DD at *
  have HDD := hid hD
  generalize hm0 : macAt zs 0 = M0 at *
  generalize hm6 : macAt zs 6 = M6 at *
  generalize hll : zs.length = l at *
  have HLL := hid hll
  generalize hm : l - 14 = m at *
  have HMM := hid hm
  clear hD hm0 hm6 hm hll
  have h1 : ¬ (1514 : Int) < (l : Int) := by omega
  have h3 : ¬ (l : Int) < 60 := by omega
  have b1 : (6 : Int) ≤ (c : Int) := by omega
  have b2 : (12 : Int) ≤ (c : Int) := by omega
  have b3 : (l : Int) ≤ (c : Int) := by omega
  have b4 : (14 : Int) ≤ (l : Int) := by omega
  have b5 : ¬ c = 0 := by omega
  have b6 : ¬ l = 14 := by omega
  have hkw : IntKind.i64.wrap k = k := by simp only [IntKind.wrap_i64]; omega
  obtain ⟨d0, d1, d2, d3, d4, d5⟩ := M0
  obtain ⟨s0, s1, s2, s3, s4, s5⟩ := M6
  simp only [frameV, frameC, Mac.zs] at *
  go_enter Try.func59, Try.ntmps59
  go_wp2_with (first | (go_at_call 65; refine (HG.out _ (bpush (Below.refl _ _) _)).mono ?_; rintro e w1 ⟨rfl, rfl⟩))
  have H0 := hid (open_first w (List.replicate m 0) #[.int .u8 0, .int .u8 0, .int .u8 0, .int .u8 0, .int .u8 0, .int .u8 0, .int .u8 0, .int .u8 0, .int .u8 0, .int .u8 0, .int .u8 0, .int .u8 0, .int .i64 k, .slice (some ⟨w.heap.size + 1, 0, none⟩) m m])
  simp only [frameC, zeroMac] at H0
  generalize hW : ((w.alloc _).alloc _).alloc _ = W0 at *
  clear hW
  go_region_held3 (fun w' => True) (exact trivial) (first
    | (refine step_copyV rfl _ _ rfl ⟨some ⟨b, o, none⟩, 6, [d0, d1, d2, d3, d4, d5]⟩ (w.heap.size + 1 + 1) 0 6 6 _ 51 rfl rfl (by exact H0.out.2.2.1) (by exact HS0.out _ H0.out.2.2.2.drew) (by simp) (by simp) ?_; intro w2 hg2 hb2))
  have H2 : Hid (OpenI w #[.int .u8 d0, .int .u8 d1, .int .u8 d2, .int .u8 d3, .int .u8 d4, .int .u8 d5, .int .u8 0, .int .u8 0, .int .u8 0, .int .u8 0, .int .u8 0, .int .u8 0, .int .i64 k, .slice (some ⟨w.heap.size + 1, 0, none⟩) m m] (List.replicate m 0) w2) := open_frame H0.out hg2.out hb2.out
  clear hg2 hb2 H0
  go_wp2
  go_region_held3 (fun w' => True) (exact trivial) (first
    | (refine step_copyV rfl _ _ rfl ⟨some ⟨b, o + 6, none⟩, 6, [s0, s1, s2, s3, s4, s5]⟩ (w.heap.size + 1 + 1) 6 6 6 _ 51 rfl rfl (by exact H2.out.2.2.1) (by exact HS6.out _ H2.out.2.2.2.drew) (by simp) (by simp) ?_; intro w3 hg3 hb3))
  have H3 : Hid (OpenI w #[.int .u8 d0, .int .u8 d1, .int .u8 d2, .int .u8 d3, .int .u8 d4, .int .u8 d5, .int .u8 s0, .int .u8 s1, .int .u8 s2, .int .u8 s3, .int .u8 s4, .int .u8 s5, .int .i64 k, .slice (some ⟨w.heap.size + 1, 0, none⟩) m m] (List.replicate m 0) w3) := open_frame H2.out hg3.out hb3.out
  clear hg3 hb3 H2
  have hcd : w3.cell? ⟨w.heap.size + 1 + 1, 13, none⟩ = some (.slice (some ⟨w.heap.size + 1, 0, none⟩) m m) := by rw [cell_of_heap H3.out.2.2.1]; rfl
  go_wp2
  go_region_held3 (fun w' => w'.cell? ⟨w.heap.size + 1 + 1, 13, none⟩ = some (.slice (some ⟨w.heap.size + 1, 0, none⟩) m m)) (first | assumption | go_keep) (first
    | (refine step_copy rfl _ _ rfl ⟨some ⟨b, o + 14, none⟩, m, DD⟩ (w.heap.size + 1) 0 m m (List.replicate m 0) 5 rfl (by show _ = Value.slice _ _ _; rw [HD.out, ← HMM.out]; rfl) (by exact H3.out.2.1) (by exact HSD.out _ H3.out.2.2.2.drew) (by rw [HD.out]; exact Nat.le_refl _) (by rw [HD.out]; simp) ?_; intro w4 hg4 hb4; have H4 : Hid (OpenI w _ _ w4) := open_data H3.out hg4.out hb4.out; have hcd4 : w4.cell? ⟨w.heap.size + 1 + 1, 13, none⟩ = some (.slice (some ⟨w.heap.size + 1, 0, none⟩) m m) := (by rw [cell_of_heap H4.out.2.2.1]; rfl)))
  clear hg4 hb4 H3 hcd hcd4
  go_wp2_with (first
    | (refine wpList_load_row rfl 51 _ rfl (w.heap.size + 1 + 1) rfl 51 #[.int .u8 d0, .int .u8 d1, .int .u8 d2, .int .u8 d3, .int .u8 d4, .int .u8 d5, .int .u8 s0, .int .u8 s1, .int .u8 s2, .int .u8 s3, .int .u8 s4, .int .u8 s5, .int .i64 k, .slice (some ⟨w.heap.size + 1, 0, none⟩) m m] (0, 0) _ (by exact H4.out.2.2.1) Try.underlying51 rfl (by kernel_rfl) ?_)
    | (refine wpList_store_row rfl 51 _ _ rfl w.heap.size #[.int .u8 d0, .int .u8 d1, .int .u8 d2, .int .u8 d3, .int .u8 d4, .int .u8 d5, .int .u8 s0, .int .u8 s1, .int .u8 s2, .int .u8 s3, .int .u8 s4, .int .u8 s5, .int .i64 k, .slice (some ⟨w.heap.size + 1, 0, none⟩) m m] rfl rfl 51 _ H4.out.1 (by kernel_rfl) rfl (by first | kernel_rfl | simp [Value.oneCell']) ?_))
  refine bodyPost_ret (v := .tuple #[.agg #[.int .u8 d0, .int .u8 d1, .int .u8 d2, .int .u8 d3, .int .u8 d4, .int .u8 d5, .int .u8 s0, .int .u8 s1, .int .u8 s2, .int .u8 s3, .int .u8 s4, .int .u8 s5, .int .i64 k, .slice (some ⟨w.heap.size + 1, 0, none⟩) m m], .int .i64 0]) ?_ (by rfl) ?_
  · exact results_row2 Try.results59 _ _ w.heap.size 51 #[.int .u8 d0, .int .u8 d1, .int .u8 d2, .int .u8 d3, .int .u8 d4, .int .u8 d5, .int .u8 s0, .int .u8 s1, .int .u8 s2, .int .u8 s3, .int .u8 s4, .int .u8 s5, .int .i64 k, .slice (some ⟨w.heap.size + 1, 0, none⟩) m m] (0, 0) _ _ rfl rfl (setRow_heap w4 _ _ _ _ _ H4.out.1) Try.underlying51 rfl (by kernel_rfl)
  · exact ⟨w.heap.size + 1, rfl, by omega, by rw [← HME.out]; exact keptBut H4.out.2.1 (But.setRow _ _ _) (by omega), bbut H4.out.2.2.2 (But.setRow _ _ _) (Nat.le_refl _)⟩
end Go.Proofs.Ytnjhlndikbkeaaa
