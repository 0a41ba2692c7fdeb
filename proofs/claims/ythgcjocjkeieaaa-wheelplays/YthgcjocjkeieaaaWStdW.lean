/-
  stands, walked.
-/
import Derived.Test.YthgcjocjkeieaaaWStd
namespace Go.Proofs.Ythgcjocjkeieaaa
open Go.RowKit
set_option linter.all false

theorem P2.part {w : World} {kb : Nat} {lv wv : Value} {ls : List Value} {wr : World} {i : Nat} {gv : Value} {gs : List Value} (h : P2 w kb lv wv ls wr i gv gs) {j : Nat} (hj : j < i) : ∃ n, PartF wr (ls.getD j nilS) (marks j n) ∧ PartF wr (gs.getD j nilS) (marks j (n + 9)) ∧ n ≤ 1024 := by
  obtain ⟨n, h1, h2, h3⟩ := h.done j hj
  exact ⟨n, PartF.of h1 (by rw [marks_len]; omega), PartF.of h2 (by rw [marks_len]; omega), h3⟩
theorem belowN {B : Nat} {a w : World} (h : Below B a w) (n : Nat) : Below B a (w.drewN n) := ⟨h.os, h.tape, h.output, h.size, h.block⟩
/-- what stands leaves. -/
structure StI (w : World) (kb : Nat) (lv : Value) (ls : List Value) (w' : World) : Prop where
  only : Only (fun k => ∃ j, j < ls.length ∧ blkOf (ls.getD j nilS) k) w w'
theorem P2.below {w : World} {kb : Nat} {lv wv : Value} {ls : List Value} {w2 wr : World} {i : Nat} {gv : Value} {gs : List Value} (h : P2 w kb lv wv ls w2 i gv gs) (hb : Below w2.heap.size w2 wr) : P2 w kb lv wv ls wr i gv gs :=
  ⟨(hb.block kb (heap_lt h.box)).trans h.box, h.lrow.below hb, h.grow.below hb, h.glen, h.gnew, fun j hj => by
    obtain ⟨n, h1, h2, h3⟩ := h.done j hj
    exact ⟨n, RowS.below h1 hb, RowS.below h2 hb, h3⟩, h.gown, fun j h1 h2 => by
    obtain ⟨F, h3, h4⟩ := h.left j h1 h2
    exact ⟨F, RowS.below h3 hb, h4⟩, ⟨hb.os.trans h.only.os, hb.tape.trans h.only.tape, hb.output.trans h.only.output, Nat.le_trans h.only.size hb.size, fun k hk hkl => (hb.block k (by have := h.only.size; omega)).trans (h.only.block k hk hkl)⟩⟩
set_option maxRecDepth 20000 in
set_option maxHeartbeats 4000000 in
theorem stands_any (kb : Nat) (ls ws : List Value) (lv wv : Value) (hl : (ls.length + 1) * 24 ≤ 140737488355328) (w : World) (x : BK w kb ls ws lv wv) (hct : CT w ls ws) :
    Calls Try.prog 11 #[.pointer (some ⟨kb, 0, none⟩)] w fun e w' => e = .returned (.bool true) ∧ Hid (StI w kb lv ls w') := by
  obtain ⟨N, hN⟩ : ∃ N, N = ls.length := ⟨_, rfl⟩
  have HN := hid hN
  have hNb : (N : Int) ≤ 5864062014805 := by omega
  have X := hid x
  have C := hid hct
  have HL := hid hl
  clear x hct hl hN
  go_enter Try.func11, Try.ntmps11
  go_wp2
  -- they read as they came
  go_loopw [3, 4] (fun v _ wr => ∃ j q : Nat, v = .int .i64 j ∧ Hid (j ≤ N) ∧ wr = w.drewN q) (fun v _ _ => N - (intOf v).toNat)
  case atStart => exact ⟨0, 0, rfl, Nat.zero_le _, rfl⟩
  case round =>
    obtain ⟨j, q, rfl, HJ, hwr⟩ := hrel
    by_cases hj : j < N
    · have hj2 : (j : Int) < N := by omega
      have hjl : j < ls.length := by rw [← HN.out]; exact hj
      obtain ⟨g1, p1, hv1, k1⟩ := row_get X.out.lrow hjl
      obtain ⟨g2, p2, hv2, k2⟩ := row_get X.out.wrow (by rw [← X.out.len]; exact hjl)
      rw [← HN.out] at hv1
      rw [← X.out.len, ← HN.out] at hv2
      have b0 := cellHeap X.out.box 0 rfl
      have b1 := cellHeap X.out.box 1 rfl
      obtain ⟨F, r1, r2, hF⟩ := C.out.each j hjl
      rw [hv1] at b0
      rw [hv2] at b1
      have HS : Hid (∀ n, Calls Try.prog 18 #[ls.getD j nilS, ws.getD j nilS] (wr.drewN n) fun e w' => e = .returned (.bool true) ∧ ∃ q, w' = (wr.drewN n).drewN q) := fun n => by
        rw [hwr]
        exact same_any _ _ F _ (PartF.of (RowS.keep r1 fun _ _ => rfl) (by omega)) (PartF.of (RowS.keep r2 fun _ _ => rfl) (by omega))
      have hc : ∀ p, wr.cell? p = w.cell? p := fun p => by rw [hwr]; rfl
      rw [← hc] at b0 b1 k1 k2
      have HW : Hid (∀ n, wr.drewN n = w.drewN (q + n)) := fun n => by rw [hwr]; exact World.drewN_drewN _ _ _
      clear hwr hc hv1 hv2 r1 r2 hF hjl
      generalize ls.getD j nilS = u1 at *
      generalize ws.getD j nilS = u2 at *
      go_wp2_with fail
      go_quiet (first | (go_at_call 18; refine Calls.quiet_of (HS.out _)) | fail)
      go_wp2
      go_roundw
      case rel => exact ⟨j + 1, q + nq, by go_num, by unfold Hid; omega, HW.out nq⟩
      case measure => simp [intOf]; omega
    · have hje : j = N := by have := HJ.out; omega
      subst hje
      have b0 := cellHeap X.out.box 0 rfl
      obtain ⟨a1, p1, hv1, _⟩ := Row.form X.out.lrow
      rw [hv1, ← HN.out] at b0
      have hc : ∀ p, wr.cell? p = w.cell? p := fun p => by rw [hwr]; rfl
      rw [← hc] at b0
      have HP0 : Hid (P2 w kb lv wv ls wr 0 (.slice none 0 0) []) := by rw [hwr]; exact P2.start X.out C.out q
      clear hwr hc hv1 HJ hj
      go_wp2
      clear b0
      -- each is written full, and grown
      go_loopw [5, 6, 7, 8, 9] (fun gv v _ _ _ wr => ∃ (i : Nat) (ad : Option Addr) (cap : Nat) (gs : List Value), gv = .slice ad i cap ∧ v = .int .i64 i ∧ Hid (i ≤ j) ∧ Hid (P2 w kb lv wv ls wr i (.slice ad i cap) gs)) (fun _ v _ _ _ _ => j - (intOf v).toNat)
      case atStart => exact ⟨0, none, 0, [], rfl, rfl, Nat.zero_le _, HP0⟩
      case round =>
        clear HP0
        obtain ⟨i, gad, gcap, gs, rfl, rfl, HI, HP⟩ := hrel
        by_cases hi : i < j
        · have hi2 : (i : Int) < j := by omega
          have hil : i < ls.length := by rw [← HN.out]; exact hi
          obtain ⟨F, HF⟩ := HP.out.enter hil
          have HF := hid HF
          obtain ⟨g1, p1, hv1, k1⟩ := row_get HP.out.lrow hil
          have b0 := cellHeap HP.out.box 0 rfl
          rw [hv1, ← HN.out] at b0
          obtain ⟨w1, _, hr1, _⟩ := HF.out.p2
          obtain ⟨la, lc, hlv, _⟩ := RowS.form hr1
          have hFl := HF.out.fl
          rw [hlv] at k1
          have HV := hid hlv
          have HZ := hid (⟨F.length, rfl⟩ : ∃ M, M = F.length)
          obtain ⟨M, hM⟩ := HZ.out
          have HM := hid hM
          rw [← hM] at k1 hFl
          have hMb : (M : Int) ≤ 1024 := by omega
          clear HZ hM hr1 hlv hv1 HP hFl
          go_wp2
          clear k1 b0
          go_loopw [8] (fun v wr => ∃ n : Nat, v = .int .i64 n ∧ Hid (P2W w kb lv wv ls wr i (.slice gad i gcap) gs F n)) (fun v _ => M - (intOf v).toNat)
          case atStart => exact ⟨0, rfl, HF⟩
          case round =>
            clear HF
            obtain ⟨n, rfl, HF⟩ := hrel
            by_cases hn : n < M
            · have hn2 : (n : Int) < M := by omega
              obtain ⟨g, cp, hv, hc1, hf1, hW⟩ := HF.out.write (by rw [← HM.out]; exact hn)
              rw [HV.out] at hv
              simp only [Value.slice.injEq] at hv
              obtain ⟨hla, _, hlc⟩ := hv
              subst hla
              subst hlc
              obtain ⟨u0, c0⟩ := hc1 0 (by omega)
              obtain ⟨u1, c1⟩ := hc1 1 (by omega)
              obtain ⟨u2, c2⟩ := hc1 2 (by omega)
              rw [Nat.add_zero] at c0
              have f0 := hf1 (n * 3)
              have f1 := hf1 (n * 3 + 1)
              have f2 := hf1 (n * 3 + 2)
              have HW := hid hW
              clear hc1 hf1 hW HF
              go_wp2
              go_roundw
              case rel => exact ⟨n + 1, by go_num, HW⟩
              case measure => simp [intOf]; omega
            · have HG := hid (HF.out.grow (by rw [← HM.out]; omega))
              rw [HV.out, ← HM.out] at HG
              have hn2 : ¬ (n : Int) < M := by omega
              clear HF HM hn
              go_wp2
              go_loopw [7, 9] (fun cv v wr => ∃ (n m : Nat) (ad : Option Addr) (cap : Nat), cv = .slice ad m cap ∧ v = .int .i64 n ∧ Hid (n ≤ 9) ∧ Hid (m = M + n) ∧ Hid (P2G w kb lv wv ls wr i (.slice gad i gcap) gs M n (.slice ad m cap))) (fun _ v _ => 9 - (intOf v).toNat)
              case atStart => exact ⟨0, M, la, lc, rfl, rfl, Nat.zero_le _, rfl, HG⟩
              case round =>
                clear HG
                obtain ⟨n, m, ad, cap, rfl, rfl, H9, HM, HG⟩ := hrel
                by_cases hn : n < 9
                · have hn2 : (n : Int) < 9 := by omega
                  have hmb : (m : Int) ≤ 1033 := by have := HM.out; omega
                  obtain ⟨ad', cap', w', hrun, hG'⟩ := HG.out.push hn
                  rw [← HM.out] at hrun
                  have HR := hid hrun
                  have HG' := hid hG'
                  clear hrun hG' HG
                  go_wp2_with (first
                    | (at_builtin; refine wpList_append_run _ rfl _ _ _ _ rfl _ _ rfl rfl HR.out ?_; clear HR)
                    | fail)
                  go_roundw
                  case rel => exact ⟨n + 1, M + (n + 1), ad', cap', rfl, by go_num, by unfold Hid; omega, rfl, HG'⟩
                  case measure => simp [intOf]; omega
                · have hn9 : n = 9 := by have := H9.out; omega
                  subst hn9
                  have hm := HM.out
                  unfold Hid at hm
                  subst hm
                  obtain ⟨w', ad', cap', hrun, hP'⟩ := HG.out.aside X.out C.out hil HL.out
                  have HR := hid hrun
                  have HP' := hid hP'
                  clear hrun hP' HG HM H9
                  go_wp2_with (first
                    | (at_builtin; refine wpList_append_run _ rfl _ _ _ _ rfl _ _ rfl rfl HR.out ?_; clear HR)
                    | fail)
                  go_roundw
                  case rel => exact ⟨i + 1, ad', cap', _, rfl, by go_num, by unfold Hid; omega, HP'⟩
                  case measure => simp [intOf]; omega
        · have hie : i = j := by have := HI.out; omega
          subst hie
          have b0 := cellHeap HP.out.box 0 rfl
          obtain ⟨a1, p1, hv1, _⟩ := Row.form HP.out.lrow
          rw [hv1, ← HN.out] at b0
          clear hv1 HI hi
          go_wp2
          clear b0
          -- and each is as it was left
          obtain ⟨W2, hW2⟩ : ∃ W2, W2 = wr := ⟨_, rfl⟩
          have HB0 : Hid (Below W2.heap.size W2 wr) := by rw [hW2]; exact Below.refl _ _
          have HP2 : Hid (P2 w kb lv wv ls W2 i (.slice gad i gcap) gs) := by rw [hW2]; exact HP
          clear HP hW2
          go_loopw [10, 11, 12, 13] (fun v _ _ _ wr => ∃ j : Nat, v = .int .i64 j ∧ Hid (j ≤ i) ∧ Hid (Below W2.heap.size W2 wr)) (fun v _ _ _ _ => i - (intOf v).toNat)
          case atStart => exact ⟨0, rfl, Nat.zero_le _, HB0⟩
          case round =>
            clear HB0
            obtain ⟨j, rfl, HJ, HB⟩ := hrel
            by_cases hj : j < i
            · have hj2 : (j : Int) < i := by omega
              have hjl : j < ls.length := by rw [← HN.out]; exact hj
              have HP := hid (HP2.out.below HB.out)
              obtain ⟨g1, p1, hv1, k1⟩ := row_get HP.out.lrow hjl
              have b0 := cellHeap HP.out.box 0 rfl
              rw [hv1, ← HN.out] at b0
              obtain ⟨M, q1, q2, hMb⟩ := HP2.out.part hj
              obtain ⟨a1, c1, h1, _, h2⟩ := q1.ex
              obtain ⟨a3, c3, h3, _, h4⟩ := q2.ex
              rw [marks_len] at h1 h2 h3 h4
              have HM : Hid (0 < M → ∃ g, a1 = some ⟨g, 0, none⟩ ∧ g < W2.heap.size ∧ ∀ n, n < M → W2.cell? ⟨g, n * 3, none⟩ = some (.int .i64 (-1000 - (j : Int))) ∧ W2.cell? ⟨g, n * 3 + 1, none⟩ = some (.int .i64 n) ∧ W2.cell? ⟨g, n * 3 + 2, none⟩ = some (.int .i64 0)) := fun h0 => by
                obtain ⟨g, rfl, hg⟩ := h2 h0
                refine ⟨g, rfl, ?_, fun n hn => hg n _ (marks_get hn)⟩
                have := (hg 0 _ (marks_get h0)).1
                exact World.block_lt_of_cell? _ _ this
              have HM9 : Hid (∃ g, a3 = some ⟨g, 0, none⟩ ∧ g < W2.heap.size ∧ ∀ n, n < M + 9 → W2.cell? ⟨g, n * 3, none⟩ = some (.int .i64 (-1000 - (j : Int))) ∧ W2.cell? ⟨g, n * 3 + 1, none⟩ = some (.int .i64 n) ∧ W2.cell? ⟨g, n * 3 + 2, none⟩ = some (.int .i64 0)) := by
                obtain ⟨g, rfl, hg⟩ := h4 (by omega)
                refine ⟨g, rfl, ?_, fun n hn => hg n _ (marks_get hn)⟩
                have := (hg 0 _ (marks_get (by omega))).1
                exact World.block_lt_of_cell? _ _ this
              rw [h1] at k1
              have H3 := hid h3
              have hMb2 : (M : Int) ≤ 1024 := by omega
              clear q1 q2 h1 h2 h3 h4 hMb hv1
              go_wp2
              clear k1 b0
              have HB1 := HB
              clear HP
              go_loopw [12, 13] (fun v _ wr => ∃ n : Nat, v = .int .i64 n ∧ Hid (n ≤ M + 9) ∧ Hid (Below W2.heap.size W2 wr)) (fun v _ _ => M + 9 - (intOf v).toNat)
              case atStart => exact ⟨0, rfl, Nat.zero_le _, HB⟩
              case round =>
                clear HB HB1
                obtain ⟨n, rfl, HNn, HB⟩ := hrel
                have hgl : j < gs.length := by rw [HP2.out.glen]; exact hj
                obtain ⟨gg, gp, hgv, kg⟩ := row_get (HP2.out.below HB.out).grow hgl
                rw [H3.out] at kg
                simp only [Value.slice.injEq] at hgv
                obtain ⟨hga, -, hgc⟩ := hgv
                subst hga
                clear hgc hgl
                obtain ⟨g9, e9, l9, h9⟩ := HM9.out
                subst e9
                have hs := HB.out.size
                by_cases hn : n < M + 9
                · have hn2 : (n : Int) < M + 9 := by omega
                  obtain ⟨x0, x1, x2⟩ := h9 n hn
                  have hc : ∀ (g o : Nat), g < W2.heap.size → wr.cell? ⟨g, o, none⟩ = W2.cell? ⟨g, o, none⟩ := fun g o hg => World.cell?_of_block (w := W2) (a := ⟨g, o, none⟩) (HB.out.block g hg)
                  rw [← hc _ _ l9] at x0 x1 x2
                  have hS := fun wx => fired_same (-1000 - (j : Int)) n 0 wx
                  have lg : gg < wr.heap.size := World.block_lt_of_cell? _ _ kg
                  have l9' : g9 < wr.heap.size := by omega
                  by_cases hm : n < M
                  · have hm2 : (n : Int) < M := by omega
                    obtain ⟨g, e, l, h⟩ := HM.out (by omega)
                    subst e
                    obtain ⟨y0, y1, y2⟩ := h n hm
                    rw [← hc _ _ l] at y0 y1 y2
                    have l' : g < wr.heap.size := by omega
                    clear hc h h9 HM HM9 hs HP2 H3 l l9
                    go_wp2_with fail
                    go_quiet (fail)
                    go_wp2
                    go_roundw
                    case rel => exact ⟨n + 1, by go_num, by unfold Hid; omega, belowN (bpush HB.out _) _⟩
                    case measure => simp [intOf]; omega
                  · have hm2 : ¬ (n : Int) < M := by omega
                    have hd : decide ((n : Int) < M) = false := by simp; omega
                    clear hc h9 HM HM9 hs HP2 H3 l9
                    go_wp2_with fail
                    go_quiet (fail)
                    go_wp2
                    go_roundw
                    case rel => exact ⟨n + 1, by go_num, by unfold Hid; omega, belowN (bpush HB.out _) _⟩
                    case measure => simp [intOf]; omega
                · have hne : n = M + 9 := by have := HNn.out; omega
                  have hn2 : ¬ (n : Int) < M + 9 := by omega
                  clear hne
                  go_wp2
                  go_roundw
                  case rel => exact ⟨j + 1, by go_num, by unfold Hid; omega, HB⟩
                  case measure => simp [intOf]; omega
            · have hje : j = i := by have := HJ.out; omega
              have hj2 : ¬ (j : Int) < i := by omega
              have HE : Hid (StI w kb lv ls wr) := ⟨(HP2.out.below HB.out).only⟩
              clear HJ hj HP2 HB hje
              go_wp2
              go_ret
              exact ⟨rfl, HE⟩
end Go.Proofs.Ythgcjocjkeieaaa
