/-
  The walk of the statement FrameBack.
-/
import Derived.Test.YtkhongkfnedflaaFBackC
import Derived.Deep.DeepCutAuto
namespace Go.Proofs.Ytkhongkfnedflaa
open Go.RowKit
set_option linter.all false

set_option maxRecDepth 20000 in
set_option maxHeartbeats 4000000 in
theorem frameBack_walk (d s : Mac) (k : Int) (pt qt : Part) (w : World) (hd : d.ok) (hs : s.ok) (hk : -9223372036854775808 ≤ k ∧ k ≤ 9223372036854775807) (hp : pt.ok w) (hz : pt.zs.length ≤ 140737488351232) (hq : qt.ok w) (hqz : qt.zs.length ≤ 140737488351232) :
    Calls Try.prog 7 #[frameV d s k pt.val, qt.val] w fun e w' => e = .returned (.bool true) ∧ Below w.heap.size w w' := by
  have HSA : Hid (∀ w', Below w.heap.size w w' → _) := fun w' hb => seal_any d s k pt w' hd hs hz (Part.ok_below hp hb)
  have HOS : Hid (∀ (g : Nat) (w' : World), 1536 ≤ k → k ≤ 65535 → pt.zs.length ≤ 1500 → _ → _) := fun g w' h1 h2 h3 hg => open_sealed d s k pt.zs g w' hd hs h1 h2 h3 hp.1 hg
  have HOA : Hid (∀ w', Below w.heap.size w w' → _) := fun w' hb => open_any qt w' (Part.ok_below hq hb) hqz
  have q1 := mac_eq d d hd hd
  have q2 := mac_eq s s hs hs
  rw [decide_eq_true rfl] at q1 q2
  have HC1 : Hid (∀ w', Below w.heap.size w w' → (convert 25 9 pt.val).run Try.prog w' = .ok (.string (strOfNums pt.zs)) w') := fun w' hb => conv_part pt w' (Part.ok_below hp hb)
  have HPB : Hid (∀ z, z ∈ pt.zs → 0 ≤ z ∧ z ≤ 255) := hp.1
  have HSB : Hid (∀ (g : Nat) (w' : World), frameGood qt.zs → _ → _) := fun g w' hgd hg => seal_opened qt.zs g w' hgd hq.1 hg
  have HC3 : Hid (∀ w', Below w.heap.size w w' → (convert 25 9 qt.val).run Try.prog w' = .ok (.string (strOfNums qt.zs)) w') := fun w' hb => conv_part qt w' (Part.ok_below hq hb)
  have HC4 : Hid (∀ (g : Nat) (w' : World), w'.heap[g]? = some (.cells (u8s qt.zs).toArray 5 (0, 0)) → (convert 25 9 (.slice (some ⟨g, 0, none⟩) qt.zs.length qt.zs.length)).run Try.prog w' = .ok (.string (strOfNums qt.zs)) w') := fun g w' hg => conv_part ⟨some ⟨g, 0, none⟩, qt.zs.length, qt.zs⟩ w' (Part.of_row hg (Nat.le_refl _) hq.1)
  have HQC : Hid (60 ≤ qt.zs.length → ∃ b o : Nat, qt.a = some ⟨b, o, none⟩ ∧ ∀ w', Below w.heap.size w w' → ∀ j, j < qt.zs.length → w'.cell? ⟨b, o + j, none⟩ = some (.int .u8 (qt.zs.getD j 0))) := fun h60 => by
    rcases hq.2.2 with he | ⟨b, o, ha, hc⟩
    · rw [he] at h60; simp at h60
    · exact ⟨b, o, ha, fun w' hb j hj => by rw [hb.cell (p := ⟨b, o + j, none⟩) (World.block_lt_of_cell? w _ (hc j hj)), hc j hj]⟩
  have HQB := hid hq.1
  clear hd hs hp hq
  obtain ⟨fa, fc, ps⟩ := pt
  obtain ⟨d0, d1, d2, d3, d4, d5⟩ := d
  obtain ⟨s0, s1, s2, s3, s4, s5⟩ := s
  simp only [Mac.val, frameV, Part.val] at HSA HOS HC1 q1 q2 hz HPB ⊢
  generalize hl : ps.length = l at *
  have Hl := hid hl
  clear hl
  go_enter Try.func7, Try.ntmps7
  go_wp2_with fail
  refine (awake_any _).mono ?_
  rintro e w1 ⟨rfl, hb1⟩
  have HF1 : Hid (w1.heap[w.heap.size]? = some (.cells #[.int .u8 d0, .int .u8 d1, .int .u8 d2, .int .u8 d3, .int .u8 d4, .int .u8 d5, .int .u8 s0, .int .u8 s1, .int .u8 s2, .int .u8 s3, .int .u8 s4, .int .u8 s5, .int .i64 k, .slice fa l fc] 27 (0, 0))) := kept (heap_new _ _) hb1
  have HB1 : Hid (Below w.heap.size w w1) := bstep (bpush (Below.refl _ _) _) hb1
  clear hb1
  have hc1 : ∀ q, w1.cell? ⟨w.heap.size, q, none⟩ = (#[.int .u8 d0, .int .u8 d1, .int .u8 d2, .int .u8 d3, .int .u8 d4, .int .u8 d5, .int .u8 s0, .int .u8 s1, .int .u8 s2, .int .u8 s3, .int .u8 s4, .int .u8 s5, .int .i64 k, .slice fa l fc] : Array Value)[q]? := fun q => cell_of_heap HF1.out q
  go_wp2_with fail
  refine (HSA.out _ HB1.out).mono ?_
  clear hc1
  rintro e w2 (⟨er, her, rfl, hb2⟩ | ⟨k1, k2, k3, g, rfl, hgw, hgb, hb2⟩)
  · have HF2 : Hid (w2.heap[w.heap.size]? = some (.cells #[.int .u8 d0, .int .u8 d1, .int .u8 d2, .int .u8 d3, .int .u8 d4, .int .u8 d5, .int .u8 s0, .int .u8 s1, .int .u8 s2, .int .u8 s3, .int .u8 s4, .int .u8 s5, .int .i64 k, .slice fa l fc] 27 (0, 0))) := kept HF1.out hb2
    have HB2 : Hid (Below w.heap.size w w2) := bstep HB1.out hb2
    clear hb2 HF1 HB1
    have hcF : ∀ q, w2.cell? ⟨w.heap.size, q, none⟩ = (#[.int .u8 d0, .int .u8 d1, .int .u8 d2, .int .u8 d3, .int .u8 d4, .int .u8 d5, .int .u8 s0, .int .u8 s1, .int .u8 s2, .int .u8 s3, .int .u8 s4, .int .u8 s5, .int .i64 k, .slice fa l fc] : Array Value)[q]? := fun q => cell_of_heap HF2.out q
    have hne : (er == 0) = false := by rcases her with ⟨rfl, _⟩ | ⟨rfl, _⟩ <;> rfl
    have HER := hid her
    clear her
    go_upto_if 24 with fail
    go_cut [8, 9, 10] (fun _ _ _ wx => Below w.heap.size w wx)

    case first =>
      have HX : (1500 : Int) < (l : Int) ∨ (l : Int) ≤ 1500 ∧ k < 1536 ∨ (l : Int) ≤ 1500 ∧ 1536 ≤ k ∧ 65535 < k := by have := HER.out; omega
      clear HOA HOS HSA HSB
      rcases HX with x1 | ⟨x1, x2⟩ | ⟨x1, x2, x3⟩
      all_goals
        go_wp2
        go_meet
        case rel => exact HB2.out
    case rest =>
      have HBC := hid hcut
      clear hcut
      go_wp2_with fail
      refine (HOA.out _ HBC.out).mono ?_
      simp only [Part.val, frameV, zeroMac] at HC3 HSB ⊢
      rintro e w5 (⟨er, her, rfl, hb5⟩ | ⟨hgd, g5, rfl, hgw5, hgb5, hb5⟩)
      · have HB5 := hid (bpush (bstep HBC.out hb5) (.cells (frameC zeroMac zeroMac 0 (.slice none 0 0)) 27))
        simp only [frameC, zeroMac] at HB5
        clear hb5
        rcases her with ⟨rfl, hs1⟩ | ⟨rfl, hs1⟩ | ⟨rfl, hs1, hs2, hs3⟩
        · have t1 : (qt.zs.length : Int) < 60 := by omega
          go_upto_region 18 with fail
          go_quiet (fail)
          go_wp2
          go_ret
          exact ⟨rfl, bdrewN HB5.out _⟩
        · have t1 : decide ((qt.zs.length : Int) < 60) = false := by simp; omega
          have t2 : (1514 : Int) < (qt.zs.length : Int) := by omega
          go_upto_region 18 with fail
          go_quiet (fail)
          go_wp2
          go_ret
          exact ⟨rfl, bdrewN HB5.out _⟩
        · have t1 : decide ((qt.zs.length : Int) < 60) = false := by simp; omega
          have t2 : decide ((1514 : Int) < (qt.zs.length : Int)) = false := by simp; omega
          have t3 : (12 : Int) < (qt.zs.length : Int) := by omega
          have t4 : (13 : Int) < (qt.zs.length : Int) := by omega
          obtain ⟨b, o, hqa, hqc⟩ := HQC.out hs1
          have c12 := hqc _ HB5.out 12 (by omega)
          have c13 := hqc _ HB5.out 13 (by omega)
          have b12 := getD_mem_bd HQB.out 12
          have b13 := getD_mem_bd HQB.out 13
          have HK : Hid (qt.zs.getD 12 0 * 256 + qt.zs.getD 13 0 < 1536) := hs3
          rw [hqa]
          generalize qt.zs.getD 12 0 = z12 at *
          generalize qt.zs.getD 13 0 = z13 at *
          have t5 := HK.out
          clear hqc hs3
          go_upto_region 18 with fail
          go_quiet (fail)
          go_wp2
          go_ret
          exact ⟨rfl, bdrewN HB5.out _⟩
      · generalize macAt qt.zs 0 = X at *
        generalize macAt qt.zs 6 = Y at *
        generalize kindAt qt.zs = kk at *
        obtain ⟨x0, x1, x2, x3, x4, x5⟩ := X
        obtain ⟨y0, y1, y2, y3, y4, y5⟩ := Y
        have HW := hid (((Holds.nil w5).cons hgb5).push (.cells #[.int .u8 x0, .int .u8 x1, .int .u8 x2, .int .u8 x3, .int .u8 x4, .int .u8 x5, .int .u8 y0, .int .u8 y1, .int .u8 y2, .int .u8 y3, .int .u8 y4, .int .u8 y5, .int .i64 kk, .slice (some ⟨g5, 0, none⟩) (qt.zs.length - 14) (qt.zs.length - 14)] 27))
        have HB5 := hid (bpush (bstep HBC.out hb5) (.cells #[.int .u8 x0, .int .u8 x1, .int .u8 x2, .int .u8 x3, .int .u8 x4, .int .u8 x5, .int .u8 y0, .int .u8 y1, .int .u8 y2, .int .u8 y3, .int .u8 y4, .int .u8 y5, .int .i64 kk, .slice (some ⟨g5, 0, none⟩) (qt.zs.length - 14) (qt.zs.length - 14)] 27))
        clear hb5 hgb5 hgw5
        go_wp2_with fail
        refine (HSB.out g5 _ hgd (HW.out.at 1 _ _ rfl)).mono ?_
        rintro e w6 ⟨g6, rfl, hg6, hb6⟩
        have HB6 := hid (bstep HB5.out hb6)
        have c3 := HC3.out _ HB6.out
        have c4 := HC4.out g6 _ hg6
        generalize strOfNums qt.zs = QS at *
        clear hb6 hg6
        go_wp2
        go_ret
        exact ⟨by simp, HB6.out⟩

  · obtain ⟨M, hN⟩ : ∃ M, max (14 + l) 60 = M + 14 := ⟨max (14 + l) 60 - 14, by omega⟩
    have HNN := hid hN
    rw [hN] at HOS ⊢
    simp only [Nat.add_sub_cancel] at HOS
    have hn1 : 46 ≤ M := by omega
    have hn2 : M ≤ 1500 := by omega
    have hn3 : l ≤ M := by omega
    clear hN
    have HF2 : Hid (w2.heap[w.heap.size]? = some (.cells #[.int .u8 d0, .int .u8 d1, .int .u8 d2, .int .u8 d3, .int .u8 d4, .int .u8 d5, .int .u8 s0, .int .u8 s1, .int .u8 s2, .int .u8 s3, .int .u8 s4, .int .u8 s5, .int .i64 k, .slice fa l fc] 27 (0, 0))) := kept HF1.out hb2
    have HB2 : Hid (Below w.heap.size w w2) := bstep HB1.out hb2
    have HG2 := hid hgb
    clear hb2 hgb HF1 HB1 hgw
    go_upto_if 24 with fail
    go_cut [8, 9, 10] (fun _ _ _ wx => Below w.heap.size w wx)
    case first =>
      have H46 : (l ≤ 46 ∧ M = 46) ∨ (46 < l ∧ M = l) := by have := HNN.out; omega
      go_wp2_with fail
      refine (HOS.out g w2 k1 k2 k3 HG2.out).mono ?_
      rintro e w3 ⟨g2, rfl, hg2, hgd, hb3⟩
      have HW := hid (((((Holds.nil w3).cons hgd).cons (kept HF2.out hb3)).push (.cells #[.int .u8 d0, .int .u8 d1, .int .u8 d2, .int .u8 d3, .int .u8 d4, .int .u8 d5, .int .u8 s0, .int .u8 s1, .int .u8 s2, .int .u8 s3, .int .u8 s4, .int .u8 s5, .int .i64 k, .slice (some ⟨g2, 0, none⟩) M M] 27)))
      have HB3 := hid (bpush (bstep HB2.out hb3) (.cells #[.int .u8 d0, .int .u8 d1, .int .u8 d2, .int .u8 d3, .int .u8 d4, .int .u8 d5, .int .u8 s0, .int .u8 s1, .int .u8 s2, .int .u8 s3, .int .u8 s4, .int .u8 s5, .int .i64 k, .slice (some ⟨g2, 0, none⟩) M M] 27))
      clear hb3 hgd HF2 HB2 HG2 hg2
      go_upto_region 7 with fail
      generalize w3.heap.size = g3 at *
      generalize w3.alloc _ = W at *
      have hcF : ∀ q, W.cell? ⟨w.heap.size, q, none⟩ = (#[.int .u8 d0, .int .u8 d1, .int .u8 d2, .int .u8 d3, .int .u8 d4, .int .u8 d5, .int .u8 s0, .int .u8 s1, .int .u8 s2, .int .u8 s3, .int .u8 s4, .int .u8 s5, .int .i64 k, .slice fa l fc] : Array Value)[q]? := fun q => cell_of_heap (HW.out.at 1 _ _ rfl) q
      have hcG : ∀ q, W.cell? ⟨g3, q, none⟩ = (#[.int .u8 d0, .int .u8 d1, .int .u8 d2, .int .u8 d3, .int .u8 d4, .int .u8 d5, .int .u8 s0, .int .u8 s1, .int .u8 s2, .int .u8 s3, .int .u8 s4, .int .u8 s5, .int .i64 k, .slice (some ⟨g2, 0, none⟩) M M] : Array Value)[q]? := fun q => cell_of_heap (HW.out.at 0 _ _ rfl) q
      have hv1 : ∀ n, (convert 25 9 (.slice fa l fc)).run Try.prog (W.drewN n) = .ok (.string (strOfNums ps)) (W.drewN n) := fun n => HC1.out _ (bdrewN HB3.out n)
      have hv2 : ∀ n, (convert 25 9 (.slice (some ⟨g2, 0, none⟩) l M)).run Try.prog (W.drewN n) = .ok (.string (strOfNums ps)) (W.drewN n) := fun n => padded_conv ps _ g2 l M _ Hl.out HPB.out (by omega) (by exact HW.out.at 2 _ _ rfl)
      have hz0 : ∀ q, l ≤ q → q < M → W.cell? ⟨g2, q, none⟩ = some (.int .u8 0) := fun q h1 h2 => by rw [cell_of_heap (HW.out.at 2 _ _ rfl), padded_zero ps _ q (by rw [Hl.out]; exact h1) (by rw [Hl.out]; omega)]
      generalize strOfNums ps = PS at *
      have hlM : (l : Int) ≤ (M : Int) := by omega
      rcases H46 with ⟨h46, hM⟩ | ⟨h46, hM⟩
      · have t1 : (((M : Int) + 14) != 60) = false := by simp; omega
        have t2 : (14 : Int) + l ≤ 60 := by omega
        clear hM h46 HOA HOS HSA
        go_quiet (fail)
        go_wp2
        go_loop [10] (fun i => ∃ q : Nat, l ≤ q ∧ q ≤ M ∧ i = .int .i64 q) (fun i => M - (intOf i).toNat)
        case atStart => exact ⟨l, Nat.le_refl _, hn3, rfl⟩
        case round =>
          obtain ⟨q, hq1, hq2, rfl⟩ := hrel
          by_cases hlt : q < M
          · have hc := hz0 q hq1 hlt
            clear hz0
            go_wp2
            go_round
            case rel => exact ⟨q + 1, by omega, by omega, by go_num⟩
            case measure => simp [intOf]; omega
          · clear hz0
            go_wp2
            go_meet
            case rel => exact bdrewN HB3.out _
      · have t1 : (((M : Int) + 14) != 14 + (l : Int)) = false := by simp; omega
        have t2 : (60 : Int) < 14 + l := by omega
        clear hM h46 HOA HOS HSA
        go_quiet (fail)
        go_wp2
        go_loop [10] (fun i => ∃ q : Nat, l ≤ q ∧ q ≤ M ∧ i = .int .i64 q) (fun i => M - (intOf i).toNat)
        case atStart => exact ⟨l, Nat.le_refl _, hn3, rfl⟩
        case round =>
          obtain ⟨q, hq1, hq2, rfl⟩ := hrel
          by_cases hlt : q < M
          · have hc := hz0 q hq1 hlt
            clear hz0
            go_wp2
            go_round
            case rel => exact ⟨q + 1, by omega, by omega, by go_num⟩
            case measure => simp [intOf]; omega
          · clear hz0
            go_wp2
            go_meet
            case rel => exact bdrewN HB3.out _
    case rest =>
      have HBC := hid hcut
      clear hcut
      go_wp2_with fail
      refine (HOA.out _ HBC.out).mono ?_
      simp only [Part.val, frameV, zeroMac] at HC3 HSB ⊢
      rintro e w5 (⟨er, her, rfl, hb5⟩ | ⟨hgd, g5, rfl, hgw5, hgb5, hb5⟩)
      · have HB5 := hid (bpush (bstep HBC.out hb5) (.cells (frameC zeroMac zeroMac 0 (.slice none 0 0)) 27))
        simp only [frameC, zeroMac] at HB5
        clear hb5
        rcases her with ⟨rfl, hs1⟩ | ⟨rfl, hs1⟩ | ⟨rfl, hs1, hs2, hs3⟩
        · have t1 : (qt.zs.length : Int) < 60 := by omega
          go_upto_region 18 with fail
          go_quiet (fail)
          go_wp2
          go_ret
          exact ⟨rfl, bdrewN HB5.out _⟩
        · have t1 : decide ((qt.zs.length : Int) < 60) = false := by simp; omega
          have t2 : (1514 : Int) < (qt.zs.length : Int) := by omega
          go_upto_region 18 with fail
          go_quiet (fail)
          go_wp2
          go_ret
          exact ⟨rfl, bdrewN HB5.out _⟩
        · have t1 : decide ((qt.zs.length : Int) < 60) = false := by simp; omega
          have t2 : decide ((1514 : Int) < (qt.zs.length : Int)) = false := by simp; omega
          have t3 : (12 : Int) < (qt.zs.length : Int) := by omega
          have t4 : (13 : Int) < (qt.zs.length : Int) := by omega
          obtain ⟨b, o, hqa, hqc⟩ := HQC.out hs1
          have c12 := hqc _ HB5.out 12 (by omega)
          have c13 := hqc _ HB5.out 13 (by omega)
          have b12 := getD_mem_bd HQB.out 12
          have b13 := getD_mem_bd HQB.out 13
          have HK : Hid (qt.zs.getD 12 0 * 256 + qt.zs.getD 13 0 < 1536) := hs3
          rw [hqa]
          generalize qt.zs.getD 12 0 = z12 at *
          generalize qt.zs.getD 13 0 = z13 at *
          have t5 := HK.out
          clear hqc hs3
          go_upto_region 18 with fail
          go_quiet (fail)
          go_wp2
          go_ret
          exact ⟨rfl, bdrewN HB5.out _⟩
      · generalize macAt qt.zs 0 = X at *
        generalize macAt qt.zs 6 = Y at *
        generalize kindAt qt.zs = kk at *
        obtain ⟨x0, x1, x2, x3, x4, x5⟩ := X
        obtain ⟨y0, y1, y2, y3, y4, y5⟩ := Y
        have HW := hid (((Holds.nil w5).cons hgb5).push (.cells #[.int .u8 x0, .int .u8 x1, .int .u8 x2, .int .u8 x3, .int .u8 x4, .int .u8 x5, .int .u8 y0, .int .u8 y1, .int .u8 y2, .int .u8 y3, .int .u8 y4, .int .u8 y5, .int .i64 kk, .slice (some ⟨g5, 0, none⟩) (qt.zs.length - 14) (qt.zs.length - 14)] 27))
        have HB5 := hid (bpush (bstep HBC.out hb5) (.cells #[.int .u8 x0, .int .u8 x1, .int .u8 x2, .int .u8 x3, .int .u8 x4, .int .u8 x5, .int .u8 y0, .int .u8 y1, .int .u8 y2, .int .u8 y3, .int .u8 y4, .int .u8 y5, .int .i64 kk, .slice (some ⟨g5, 0, none⟩) (qt.zs.length - 14) (qt.zs.length - 14)] 27))
        clear hb5 hgb5 hgw5
        go_wp2_with fail
        refine (HSB.out g5 _ hgd (HW.out.at 1 _ _ rfl)).mono ?_
        rintro e w6 ⟨g6, rfl, hg6, hb6⟩
        have HB6 := hid (bstep HB5.out hb6)
        have c3 := HC3.out _ HB6.out
        have c4 := HC4.out g6 _ hg6
        generalize strOfNums qt.zs = QS at *
        clear hb6 hg6
        go_wp2
        go_ret
        exact ⟨by simp, HB6.out⟩

end Go.Proofs.Ytkhongkfnedflaa
