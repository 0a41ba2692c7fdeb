/-
  Tftp: the program's firsts, Agree, Accept.
-/
import Derived.Test.YtdcppiknomoigaaDoorTgF
import Derived.Test.YtdcppiknomoigaaDoorTfAg
namespace Go.Proofs.YtdcppiknomoigaaDoor
open Go.RowKit
set_option linter.all false

set_option maxRecDepth 20000 in
set_option maxHeartbeats 4000000 in
theorem firsts_any (l : List Ch) (a : Option Addr) (n c : Nat) (w : World) (h : ChV w a l) (hn : n = l.length) (hbig : n ≤ 5864062014700) :
    Calls Tryd.prog 49 #[.slice a n c] w fun e w' => ∃ a' n' c', e = .returned (.slice a' n' c') ∧ Hid (RowB 56 2 w w' a' n' c' (chs (fstL l n))) := by
  have HV := hid h
  have HN := hid hn
  clear h hn
  go_enter Tryd.func49, Tryd.ntmps49
  go_wp2_with fail
  go_loopw [3, 10] (fun vl vi wr => ∃ (k no co : Nat) (ao : Option Addr), vl = .slice ao no co ∧ vi = .int .i64 k ∧ k ≤ n ∧ no ≤ k ∧ Hid (RowB 56 2 w wr ao no co (chs (fstL l k)))) (fun _ vi _ => n - (intOfT vi).toNat)
  case atStart => exact ⟨0, 0, 0, none, rfl, rfl, Nat.zero_le _, Nat.le_refl _, RowB.void _ _ _⟩
  case round =>
    obtain ⟨k, no, co, ao, rfl, rfl, hk, hno, HR⟩ := hrel
    have HVR := hid (HV.out.below HR.out.below)
    by_cases hkl : k < n
    · obtain ⟨y, hy⟩ : ∃ y, l[k]? = some y := ⟨_, List.getElem?_eq_getElem (by rw [← HN.out]; omega)⟩
      obtain ⟨g, o, rfl, c0, c1⟩ := HVR.out.ent hy
      have hkz : (0 : Int) ≤ (k : Int) := by omega
      have hkn : (k : Int) < (n : Int) := by omega
      have HSU : Hid (fstL l (k + 1) = if knownB y.nm = true ∧ inB y.nm (fstL l k) = false then fstL l k ++ [y] else fstL l k) := by
        unfold Hid
        rw [fstL, show l.getD k Ch.nil = y from by rw [List.getD_eq_getElem?_getD, hy]; rfl]
      clear hy
      go_upto_region 5 with fail
      have HR3 := hid (HR.out.bel (bpush (Below.refl wr.heap.size wr) (.cells #[.string y.nm, .int .i64 y.v] 56)))
      have HBX := hid (heap_new wr (.cells #[.string y.nm, .int .i64 y.v] 56))
      clear c0 c1 HVR HR
      generalize wr.alloc (.cells #[.string y.nm, .int .i64 y.v] 56) = W at *
      generalize wr.heap.size = bx at *
      have hx0 : W.cell? ⟨bx, 0, none⟩ = some (.string y.nm) := cell_of_heap HBX.out 0
      have CW := hid (pwant_any (fstL l k) ao no co y.nm W HR3.out.chv.2 HR3.out.chv.1 (by omega))
      have HWB : Hid (wantB (fstL l k) y.nm = inB y.nm (fstL l k)) := wantB_in _ _
      generalize wantB (fstL l k) y.nm = wb at *
      generalize wantV (fstL l k) y.nm = wv at *
      have CK := hid (fun W' => pknown_any y.nm W')
      obtain ⟨kb, hkb⟩ : ∃ kb, kb = knownB y.nm := ⟨_, rfl⟩
      rw [← hkb] at CK HSU
      clear hkb
      go_upto_region 6 with (first
        | (go_at_call 21; refine CW.out.mono ?_; go_loud (rintro e w5 ⟨rfl, HB5⟩))
        | fail)
      have HR5 := hid (HR3.out.bel HB5.out)
      have HBX5 := hid ((HB5.out.block _ (heap_lt HBX.out)).trans HBX.out)
      have hy0 : w5.cell? ⟨bx, 0, none⟩ = some (.string y.nm) := cell_of_heap HBX5.out 0
      have hy1 : w5.cell? ⟨bx, 1, none⟩ = some (.int .i64 y.v) := cell_of_heap HBX5.out 1
      clear hx0 CW HR3 HBX HB5
      rw [← HWB.out] at HSU
      clear HWB
      cases kb
      · have HS2 : Hid (fstL l (k + 1) = fstL l k) := by unfold Hid; rw [HSU.out, if_neg (by simp)]
        go_wp2_with (first
          | (go_at_call 70; refine (CK.out _).mono ?_; rintro e w6 ⟨rfl, hw⟩; subst w6)
          | fail)
        go_roundw
        case rel => exact ⟨k + 1, no, co, ao, rfl, by first | rfl | (congr 1; omega), by omega, by omega, by unfold Hid; rw [HS2.out]; exact HR5.out⟩
        case measure => simp only [intOfT]; omega
      · cases wb
        · have HS2 : Hid (fstL l (k + 1) = fstL l k ++ [y]) := by unfold Hid; rw [HSU.out, if_pos (by simp)]
          obtain ⟨a', cp', w7, hrun, HR7, _⟩ := HR5.out.ch (Below.refl _ _) y (by omega)
          clear HR5 HSU
          go_wp2_with (first
            | (go_at_call 70; refine (CK.out _).mono ?_; rintro e w6 ⟨rfl, hw⟩; subst w6)
            | (at_builtin; refine wpList_append_run _ rfl _ _ _ _ rfl _ _ rfl rfl hrun ?_)
            | fail)
          go_roundw
          case rel => exact ⟨k + 1, no + 1, cp', a', rfl, by first | rfl | (congr 1; omega), by omega, by omega, by unfold Hid; rw [HS2.out]; exact HR7.out⟩
          case measure => simp only [intOfT]; omega
        · have HS2 : Hid (fstL l (k + 1) = fstL l k) := by unfold Hid; rw [HSU.out, if_neg (by simp)]
          go_wp2_with (first
            | (go_at_call 70; refine (CK.out _).mono ?_; rintro e w6 ⟨rfl, hw⟩; subst w6)
            | fail)
          go_roundw
          case rel => exact ⟨k + 1, no, co, ao, rfl, by first | rfl | (congr 1; omega), by omega, by omega, by unfold Hid; rw [HS2.out]; exact HR5.out⟩
          case measure => simp only [intOfT]; omega
    · obtain rfl : k = n := by omega
      clear hkl
      go_wp2_with fail
      go_ret
      exact ⟨ao, no, co, rfl, HR⟩
set_option maxRecDepth 20000 in
set_option maxHeartbeats 8000000 in
theorem paccept_any (asked answer : List Ch) (a b : Option Addr) (m n c d : Nat) (most : Int) (w : World) (h : ChV w a asked) (h' : ChV w b answer) (hm : m = asked.length) (hn : n = answer.length) (hd : n ≤ d) (hbm : m ≤ 9223372036854775807) (hbn : n ≤ 9223372036854775807) :
    Calls Tryd.prog 23 #[.slice a m c, .slice b n d, .int .i64 most] w fun e w' => e = .returned (.tuple #[.int .i64 (accP asked answer most).1, .int .i64 (accP asked answer most).2.1, .int .i64 (accP asked answer most).2.2]) ∧ Hid (Below w.heap.size w w') := by
  have HVA := hid h
  have HV := hid h'
  have HM := hid hm
  have HN := hid hn
  clear h h' hm hn
  go_enter Tryd.func23, Tryd.ntmps23
  go_wp2_with fail
  go_loopw [21] (fun vi wr => ∃ k : Nat, vi = .int .i64 k ∧ k ≤ n ∧ Hid (Below w.heap.size w wr) ∧ Hid (allA asked answer k = true)) (fun vi _ => n - (intOfT vi).toNat)
  case atStart => exact ⟨0, rfl, Nat.zero_le _, Below.refl _ _, by simp [allA, Hid]⟩
  case round =>
    obtain ⟨k, rfl, hk, HB, HI⟩ := hrel
    have HVR := hid (HV.out.below HB.out)
    by_cases hkl : k < n
    · obtain ⟨y, hy⟩ : ∃ y, answer[k]? = some y := ⟨_, List.getElem?_eq_getElem (by rw [← HN.out]; omega)⟩
      obtain ⟨g, o, rfl, c0, c1⟩ := HVR.out.ent hy
      have hkz : (0 : Int) ≤ (k : Int) := by omega
      have hkn : (k : Int) < (n : Int) := by omega
      have hkc : (k : Int) ≤ (d : Int) := by omega
      have HSU : Hid (allA asked answer (k + 1) = (wantB asked y.nm && !inB y.nm (answer.take k) && mayA y (wantV asked y.nm))) := by
        unfold Hid
        rw [allA_succ, HI.out]
        unfold okA
        rw [show answer.getD k Ch.nil = y from by rw [List.getD_eq_getElem?_getD, hy]; rfl]
        rfl
      have HMO : Hid (allA asked answer (k + 1) = false → accP asked answer most = (0, 0, 172)) := fun e => by
        have := allA_mono asked answer (k + 1) (n - (k + 1)) e
        rw [show k + 1 + (n - (k + 1)) = answer.length from by rw [← HN.out]; omega] at this
        unfold accP
        rw [this]; rfl
      clear hy
      go_upto_region 4 with fail
      have HB3 := hid (bstep HB.out (bpush (Below.refl wr.heap.size wr) (.cells #[.string y.nm, .int .i64 y.v] 56)))
      have HV3 := hid (HVR.out.below (bpush (Below.refl wr.heap.size wr) (.cells #[.string y.nm, .int .i64 y.v] 56)))
      have HBX := hid (heap_new wr (.cells #[.string y.nm, .int .i64 y.v] 56))
      clear c0 c1 HVR HB
      generalize wr.alloc (.cells #[.string y.nm, .int .i64 y.v] 56) = W at *
      generalize wr.heap.size = bx at *
      have hx0 : W.cell? ⟨bx, 0, none⟩ = some (.string y.nm) := cell_of_heap HBX.out 0
      have CA := hid (pwant_any asked a m c y.nm W (HVA.out.below HB3.out) HM.out hbm)
      go_upto_region 5 with (first
        | (go_at_call 21; refine CA.out.mono ?_; go_loud (rintro e w4 ⟨rfl, HB4⟩))
        | fail)
      have HBX4 := hid ((HB4.out.block _ (heap_lt HBX.out)).trans HBX.out)
      have HB44 := hid (bstep HB3.out HB4.out)
      have HV4 := hid (HV3.out.below HB4.out)
      clear hx0 CA HBX HB3 HV3 HB4
      have hx0 : w4.cell? ⟨bx, 0, none⟩ = some (.string y.nm) := cell_of_heap HBX4.out 0
      obtain ⟨b2, hb2⟩ : ∃ b, b = inB y.nm (answer.take k) := ⟨_, rfl⟩
      obtain ⟨vx, hvx⟩ : ∃ v, v = wantV (answer.take k) y.nm := ⟨_, rfl⟩
      have HW : Hid (∀ W', Below w4.heap.size w4 W' → Calls Tryd.prog 21 #[.slice (some ⟨g, o, none⟩) k d, .string y.nm] W' fun e w' => e = .returned (.tuple #[.int .i64 vx, .bool b2]) ∧ Hid (Below W'.heap.size W' w')) := fun W' hw => by
        rw [hb2, ← wantB_in, hvx]
        exact pwant_any (answer.take k) _ k d y.nm W' ((HV4.out.take k).below hw) (by rw [List.length_take, ← HN.out]; omega) (by omega)
      have HW0 := hid (HW.out w4 (Below.refl _ _))
      have HW1 := hid (HW.out w4.drew (bdrewT w4 1))
      rw [← hb2] at HSU
      clear hb2 hvx HW
      generalize wantB asked y.nm = b1 at *
      have CM := hid (fun W' => pmay_any y (wantV asked y.nm) W')
      generalize mayA y (wantV asked y.nm) = b3 at *
      generalize wantV asked y.nm = va at *
      go_cut [14] (fun v wx => v = .bool b2 ∧ ∃ wy, wy = wx ∧ Hid (Below w4.heap.size w4 wy))
      case first =>
        go_region_held3 (fun s => s.cell? ⟨bx, 0, none⟩ = some (.string y.nm)) (first | assumption | exact hx0) (first
          | (go_at_call 21; (with_reducible refine HW0.out.mono ?_); rintro e w5 ⟨rfl, HB5⟩; have hq5 := HB5; have hx5 : w5.cell? ⟨bx, 0, none⟩ = some (.string y.nm) := cell_of_heap (w := w5) ((hq5.out.block _ (heap_lt HBX4.out)).trans HBX4.out) 0)
          | (go_at_call 21; (with_reducible refine HW1.out.mono ?_); rintro e w5 ⟨rfl, HB5⟩; have hq5 : Hid (Below w4.heap.size w4 w5) := bstep (Below.refl _ _).drew HB5.out; have hx5 : w5.cell? ⟨bx, 0, none⟩ = some (.string y.nm) := cell_of_heap (w := w5) ((hq5.out.block _ (heap_lt HBX4.out)).trans HBX4.out) 0)
          | fail)
        all_goals
          go_wp2_with fail
          go_meet
          case rel => exact ⟨rfl, _, rfl, hq5⟩
      case rest =>
        obtain ⟨rfl, wy, rfl, HBY⟩ := hcut
        have hz : bx < w4.heap.size := heap_lt HBX4.out
        have hy0 : wy.cell? ⟨bx, 0, none⟩ = some (.string y.nm) := cell_of_heap (w := wy) ((HBY.out.block _ hz).trans HBX4.out) 0
        have hy1 : wy.cell? ⟨bx, 1, none⟩ = some (.int .i64 y.v) := cell_of_heap (w := wy) ((HBY.out.block _ hz).trans HBX4.out) 1
        have HBW := hid (bstep HB44.out HBY.out)
        have CM1 := hid (CM.out wy)
        clear hz hx0 HW0 HW1 HBX4 HB44 HV4 HBY CM
        cases b1
        · have HP := hid (HMO.out (by rw [HSU.out]; rfl))
          clear HSU HMO
          go_wp2_with fail
          go_ret3
          exact ⟨by rw [HP.out]; rfl, HBW⟩
        · cases b2
          · cases b3
            · have HP := hid (HMO.out (by rw [HSU.out]; rfl))
              clear HSU HMO
              go_wp2_with (first
                | (go_at_call 52; refine CM1.out.mono ?_; rintro e w7 ⟨rfl, HB7⟩)
                | fail)
              go_ret3
              exact ⟨by rw [HP.out]; rfl, bstep HBW.out HB7.out⟩
            · go_wp2_with (first
                | (go_at_call 52; refine CM1.out.mono ?_; rintro e w7 ⟨rfl, HB7⟩)
                | fail)
              go_roundw
              case rel => exact ⟨k + 1, by first | rfl | (congr 1; omega), by omega, bstep HBW.out HB7.out, by unfold Hid; rw [HSU.out]; rfl⟩
              case measure => simp only [intOfT]; omega
          · have HP := hid (HMO.out (by rw [HSU.out]; rfl))
            clear HSU HMO
            go_wp2_with fail
            go_ret3
            exact ⟨by rw [HP.out]; rfl, HBW⟩
    · obtain rfl : k = n := by omega
      clear hkl
      have HAC : Hid (accP asked answer most = if wantB answer nTsz = true ∧ most < wantV answer nTsz then (0, 0, 2) else (agd answer nBlk 512, agd answer nWin 1, 0)) := by
        unfold Hid accP
        rw [← HN.out, HI.out, if_pos rfl]
      have CT := hid (pwant_any answer b k d nTsz wr HVR.out HN.out hbn)
      have CG := hid (fun W' (hb : Below wr.heap.size wr W') => pagreed_any answer b k d W' (HVR.out.below hb) HN.out hbn)
      obtain ⟨b1, e1⟩ : ∃ b1, b1 = wantB answer nTsz := ⟨_, rfl⟩
      obtain ⟨v1, e2⟩ : ∃ v1, v1 = wantV answer nTsz := ⟨_, rfl⟩
      rw [← e1, ← e2] at HAC CT
      simp only [nTsz] at CT
      clear e1 e2
      cases b1
      · have HP := hid (HAC.out.trans (if_neg (by simp)))
        clear HAC
        go_wp2_with (first
          | (go_at_call 21; refine CT.out.mono ?_; rintro e w7 ⟨rfl, HB7⟩; have CG7 := hid (CG.out _ HB7.out))
          | (go_at_call 51; refine CG7.out.mono ?_; rintro e w8 ⟨rfl, HB8⟩)
          | fail)
        go_ret3
        exact ⟨by rw [HP.out]; rfl, bstep (bstep HB.out HB7.out) HB8.out⟩
      · by_cases hv : most < v1
        · have HP := hid (HAC.out.trans (if_pos ⟨rfl, hv⟩))
          clear HAC
          go_wp2_with (first
            | (go_at_call 21; refine CT.out.mono ?_; rintro e w7 ⟨rfl, HB7⟩)
            | fail)
          go_ret3
          exact ⟨by rw [HP.out]; rfl, bstep HB.out HB7.out⟩
        · have HP := hid (HAC.out.trans (if_neg (fun h => hv h.2)))
          clear HAC
          go_wp2_with (first
            | (go_at_call 21; refine CT.out.mono ?_; rintro e w7 ⟨rfl, HB7⟩; have CG7 := hid (CG.out _ HB7.out))
            | (go_at_call 51; refine CG7.out.mono ?_; rintro e w8 ⟨rfl, HB8⟩)
            | fail)
          go_ret3
          exact ⟨by rw [HP.out]; rfl, bstep (bstep HB.out HB7.out) HB8.out⟩
end Go.Proofs.YtdcppiknomoigaaDoor
