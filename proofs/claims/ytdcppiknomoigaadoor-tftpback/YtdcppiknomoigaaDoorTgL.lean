/-
  Tftp: the program's Agree.
-/
import Derived.Test.YtdcppiknomoigaaDoorTgK
namespace Go.Proofs.YtdcppiknomoigaaDoor
open Go.RowKit
set_option linter.all false

theorem ansL_take (b w s : Int) {l : List Ch} {k : Nat} {y : Ch} (hy : l[k]? = some y) : ansL b w s (l.take (k + 1)) = ansL b w s (l.take k) ++ (ansC b w s y).toList := by
  rw [List.take_add_one, hy, ← ansL_snoc]; rfl
set_option maxRecDepth 20000 in
set_option maxHeartbeats 16000000 in
theorem pagree_any (asked : List Ch) (a : Option Addr) (n c : Nat) (block window size : Int) (w : World) (h : ChV w a asked) (hn : n = asked.length) (hbn : n ≤ 5864062014700) :
    Calls Tryd.prog 22 #[.slice a n c, .int .i64 block, .int .i64 window, .int .i64 size] w fun e w' => ∃ a' no co, e = .returned (.tuple #[.int .i64 (agT block window size (fstL asked n)).1, .int .i64 (agT block window size (fstL asked n)).2.1, .slice a' no co]) ∧ Hid (RowB 56 2 w w' a' no co (chs (agT block window size (fstL asked n)).2.2)) := by
  have CF := hid (firsts_any asked a n c w h hn hbn)
  have HLF := hid (fstL_len asked n)
  obtain ⟨f, hf⟩ : ∃ f, f = fstL asked n := ⟨_, rfl⟩
  rw [← hf] at CF HLF ⊢
  clear h hn hf
  simp only [agT]
  go_enter Tryd.func22, Tryd.ntmps22
  go_wp2_with (first
    | (go_at_call 49; refine CF.out.mono ?_; go_loud (rintro e w1 ⟨a1, n1, c1, rfl, HF⟩))
    | fail)
  have HN1 := hid HF.out.chv.1
  have HV := hid HF.out.chv.2
  have HB1 := hid HF.out.below
  have hn1 : n1 ≤ 5864062014700 := by have := HN1.out; have := HLF.out; omega
  clear CF HF HLF
  go_loopw [11, 19] (fun vl vi wr => ∃ (k no co : Nat) (ao : Option Addr), vl = .slice ao no co ∧ vi = .int .i64 k ∧ k ≤ n1 ∧ no ≤ k ∧ Hid (RowB 56 2 w1 wr ao no co (chs (ansL block window size (f.take k))))) (fun _ vi _ => n1 - (intOfT vi).toNat)
  case atStart => exact ⟨0, 0, 0, none, rfl, rfl, Nat.zero_le _, Nat.le_refl _, RowB.void _ _ _⟩
  case round =>
    obtain ⟨k, no, co, ao, rfl, rfl, hk, hno, HR⟩ := hrel
    have HVR := hid (HV.out.below HR.out.below)
    by_cases hkl : k < n1
    · obtain ⟨y, hy⟩ : ∃ y, f[k]? = some y := ⟨_, List.getElem?_eq_getElem (by rw [← HN1.out]; omega)⟩
      obtain ⟨g, o, rfl, c0, c1'⟩ := HVR.out.ent hy
      have hkz : (0 : Int) ≤ (k : Int) := by omega
      have hkn : (k : Int) < (n1 : Int) := by omega
      have HSU := hid (ansL_take block window size hy)
      have hsB := sBlk y.nm
      have hsW := sWin y.nm
      have hsT := sTsz y.nm
      clear hy
      go_upto_region 5 with fail
      have hbp := bpush (Below.refl wr.heap.size wr) (.cells #[.string y.nm, .int .i64 y.v] 56)
      have HBX := hid (heap_new wr (.cells #[.string y.nm, .int .i64 y.v] 56))
      have HKEEP : Hid (∀ W', But wr.heap.size (wr.alloc (.cells #[.string y.nm, .int .i64 y.v] 56)) W' → RowB 56 2 w1 W' ao no co (chs (ansL block window size (f.take k)))) := fun W' hb => HR.out.bel (bbut hbp hb (Nat.le_refl _))
      have HZ : Hid (wr.heap.size < (wr.alloc (.cells #[.string y.nm, .int .i64 y.v] 56)).heap.size) := by unfold Hid; simp
      clear c0 c1' HVR HR hbp
      generalize wr.alloc (.cells #[.string y.nm, .int .i64 y.v] 56) = W at *
      generalize wr.heap.size = bx at *
      have hx0 : W.cell? ⟨bx, 0, none⟩ = some (.string y.nm) := cell_of_heap HBX.out 0
      have hx1 : W.cell? ⟨bx, 1, none⟩ = some (.int .i64 y.v) := cell_of_heap HBX.out 1
      have hf1 : W.frozen? ⟨bx, 1, none⟩ = false := frozen_of_heap HBX.out 1
      have HPUT : Hid (∀ (V : World) (m : Int), But bx W V → V.heap[bx]? = some (.cells #[.string y.nm, .int .i64 y.v] 56 (0, 0)) → (V.setCell ⟨bx, 1, none⟩ (.int .i64 m)).heap[bx]? = some (.cells #[.string y.nm, .int .i64 m] 56 (0, 0)) ∧ But bx W (V.setCell ⟨bx, 1, none⟩ (.int .i64 m))) := fun V m hb hv =>
        ⟨heap_setCell (j := 1) (v := .int .i64 m) hv, hb.trans (But.setCell _ _ _ _)⟩
      by_cases e1 : y.nm = nBlk
      · have e2 : ¬ y.nm = nWin := by rw [e1]; decide
        have e3 : ¬ y.nm = nTsz := by rw [e1]; decide
        rw [decide_eq_true e1] at hsB
        rw [decide_eq_false e2] at hsW
        rw [decide_eq_false e3] at hsT
        by_cases hv : 8 ≤ y.v
        · as_aux_lemma =>
            have HS2 : Hid (ansL block window size (f.take (k + 1)) = ansL block window size (f.take k) ++ [⟨y.nm, min y.v (wi block 8 65464)⟩]) := by unfold Hid; rw [HSU.out]; unfold ansC; rw [if_pos ⟨e1, hv⟩]; rfl
            clear HSU e1 e2 e3
            obtain ⟨z, hz⟩ : ∃ z, z = wi block 8 65464 := ⟨_, rfl⟩
            rw [← hz] at HS2
            have HWZ : Hid (∀ W, Calls Tryd.prog 50 #[.int .i64 block, .int .i64 8, .int .i64 65464] W fun e w' => e = .returned (.int .i64 z) ∧ w' = W) := fun W => by rw [hz]; exact pwithin_any block 8 65464 W (by omega)
            clear hz
            go_upto_region 6 with fail
            go_region_with (first
              | (go_at_call 50; refine (HWZ.out _).mono ?_; rintro e w5 ⟨rfl, hw5⟩; subst w5)
              | fail)
            all_goals
              go_upto_region 11 with fail
              have HP0 := HPUT.out W (min y.v z) (But.refl _ _) HBX.out
              have HP2 : Hid (((W.setCell ⟨bx, 1, none⟩ (.int .i64 (min y.v z))).drew).heap[bx]? = some (.cells #[.string y.nm, .int .i64 (min y.v z)] 56 (0, 0)) ∧ But bx W (W.setCell ⟨bx, 1, none⟩ (.int .i64 (min y.v z))).drew) := ⟨HP0.1, HP0.2.trans (But.drew _ _)⟩
              clear hx0 hx1 hf1 HP0
              generalize (W.setCell ⟨bx, 1, none⟩ (.int .i64 (min y.v z))).drew = W9 at *
              generalize min y.v z = z2 at *
              have hy0 : W9.cell? ⟨bx, 0, none⟩ = some (.string y.nm) := cell_of_heap HP2.out.1 0
              have hy1 : W9.cell? ⟨bx, 1, none⟩ = some (.int .i64 z2) := cell_of_heap HP2.out.1 1
              obtain ⟨a', cp', w7, hrun, HR7, _⟩ := (HKEEP.out W9 HP2.out.2).ch (Below.refl _ _) ⟨y.nm, z2⟩ (by omega)
              clear HKEEP HP2 HPUT HBX HZ HWZ
              go_wp2_with (first
                | (at_builtin; refine wpList_append_run _ rfl _ _ _ _ rfl _ _ rfl rfl hrun ?_)
                | fail)
              go_roundw
              case rel => exact ⟨k + 1, no + 1, cp', a', rfl, by first | rfl | (congr 1; omega), by omega, by omega, by unfold Hid; rw [HS2.out]; exact HR7.out⟩
              case measure => simp only [intOfT]; omega
        · as_aux_lemma =>
            have HS2 : Hid (ansL block window size (f.take (k + 1)) = ansL block window size (f.take k)) := by unfold Hid; rw [HSU.out]; unfold ansC; rw [if_neg (fun h => hv h.2), if_neg (fun h => e2 h.1), if_neg e3]; simp
            clear HSU e1 e2 e3
            have HR9 := hid (HKEEP.out W (But.refl _ _))
            go_wp2_with fail
            go_roundw
            case rel => exact ⟨k + 1, no, co, ao, rfl, by first | rfl | (congr 1; omega), by omega, by omega, by unfold Hid; rw [HS2.out]; exact HR9.out⟩
            case measure => simp only [intOfT]; omega
      · rw [decide_eq_false e1] at hsB
        by_cases e2 : y.nm = nWin
        · have e3 : ¬ y.nm = nTsz := by rw [e2]; decide
          rw [decide_eq_true e2] at hsW
          rw [decide_eq_false e3] at hsT
          by_cases hv : 1 ≤ y.v
          · as_aux_lemma =>
              have HS2 : Hid (ansL block window size (f.take (k + 1)) = ansL block window size (f.take k) ++ [⟨y.nm, min y.v (wi window 1 65535)⟩]) := by unfold Hid; rw [HSU.out]; unfold ansC; rw [if_neg (fun h => e1 h.1), if_pos ⟨e2, hv⟩]; rfl
              clear HSU e1 e2 e3
              obtain ⟨z, hz⟩ : ∃ z, z = wi window 1 65535 := ⟨_, rfl⟩
              rw [← hz] at HS2
              have HWZ : Hid (∀ W, Calls Tryd.prog 50 #[.int .i64 window, .int .i64 1, .int .i64 65535] W fun e w' => e = .returned (.int .i64 z) ∧ w' = W) := fun W => by rw [hz]; exact pwithin_any window 1 65535 W (by omega)
              clear hz
              go_upto_region 8 with fail
              go_region_with (first
                | (go_at_call 50; refine (HWZ.out _).mono ?_; rintro e w5 ⟨rfl, hw5⟩; subst w5)
                | fail)
              all_goals
                go_upto_region 11 with fail
                have HP0 := HPUT.out W (min y.v z) (But.refl _ _) HBX.out
                have HP2 : Hid (((W.setCell ⟨bx, 1, none⟩ (.int .i64 (min y.v z))).drew).heap[bx]? = some (.cells #[.string y.nm, .int .i64 (min y.v z)] 56 (0, 0)) ∧ But bx W (W.setCell ⟨bx, 1, none⟩ (.int .i64 (min y.v z))).drew) := ⟨HP0.1, HP0.2.trans (But.drew _ _)⟩
                clear hx0 hx1 hf1 HP0
                generalize (W.setCell ⟨bx, 1, none⟩ (.int .i64 (min y.v z))).drew = W9 at *
                generalize min y.v z = z2 at *
                have hy0 : W9.cell? ⟨bx, 0, none⟩ = some (.string y.nm) := cell_of_heap HP2.out.1 0
                have hy1 : W9.cell? ⟨bx, 1, none⟩ = some (.int .i64 z2) := cell_of_heap HP2.out.1 1
                obtain ⟨a', cp', w7, hrun, HR7, _⟩ := (HKEEP.out W9 HP2.out.2).ch (Below.refl _ _) ⟨y.nm, z2⟩ (by omega)
                clear HKEEP HP2 HPUT HBX HZ HWZ
                go_wp2_with (first
                  | (at_builtin; refine wpList_append_run _ rfl _ _ _ _ rfl _ _ rfl rfl hrun ?_)
                  | fail)
                go_roundw
                case rel => exact ⟨k + 1, no + 1, cp', a', rfl, by first | rfl | (congr 1; omega), by omega, by omega, by unfold Hid; rw [HS2.out]; exact HR7.out⟩
                case measure => simp only [intOfT]; omega
          · as_aux_lemma =>
              have HS2 : Hid (ansL block window size (f.take (k + 1)) = ansL block window size (f.take k)) := by unfold Hid; rw [HSU.out]; unfold ansC; rw [if_neg (fun h => e1 h.1), if_neg (fun h => hv h.2), if_neg e3]; simp
              clear HSU e1 e2 e3
              have HR9 := hid (HKEEP.out W (But.refl _ _))
              go_wp2_with fail
              go_roundw
              case rel => exact ⟨k + 1, no, co, ao, rfl, by first | rfl | (congr 1; omega), by omega, by omega, by unfold Hid; rw [HS2.out]; exact HR9.out⟩
              case measure => simp only [intOfT]; omega
        · rw [decide_eq_false e2] at hsW
          by_cases e3 : y.nm = nTsz
          · rw [decide_eq_true e3] at hsT
            as_aux_lemma =>
              have HS2 : Hid (ansL block window size (f.take (k + 1)) = ansL block window size (f.take k) ++ [⟨y.nm, wi size 0 2147483647⟩]) := by unfold Hid; rw [HSU.out]; unfold ansC; rw [if_neg (fun h => e1 h.1), if_neg (fun h => e2 h.1), if_pos e3]; rfl
              clear HSU e1 e2 e3
              have HWZ : Hid (∀ W, Calls Tryd.prog 50 #[.int .i64 size, .int .i64 0, .int .i64 2147483647] W fun e w' => e = .returned (.int .i64 (wi size 0 2147483647)) ∧ w' = W) := fun W => pwithin_any size 0 2147483647 W (by omega)
              generalize wi size 0 2147483647 = z at *
              go_upto_region 11 with (first
                | (go_at_call 50; refine (HWZ.out _).mono ?_; go_loud (rintro e w5 ⟨rfl, hw5⟩; subst w5))
                | fail)
              have HP2 := hid (HPUT.out W z (But.refl _ _) HBX.out)
              clear hx0 hx1 hf1
              generalize W.setCell ⟨bx, 1, none⟩ (.int .i64 z) = W9 at *
              have hy0 : W9.cell? ⟨bx, 0, none⟩ = some (.string y.nm) := cell_of_heap HP2.out.1 0
              have hy1 : W9.cell? ⟨bx, 1, none⟩ = some (.int .i64 z) := cell_of_heap HP2.out.1 1
              obtain ⟨a', cp', w7, hrun, HR7, _⟩ := (HKEEP.out W9 HP2.out.2).ch (Below.refl _ _) ⟨y.nm, z⟩ (by omega)
              clear HKEEP HP2 HPUT HBX HZ
              go_wp2_with (first
                | (at_builtin; refine wpList_append_run _ rfl _ _ _ _ rfl _ _ rfl rfl hrun ?_)
                | fail)
              go_roundw
              case rel => exact ⟨k + 1, no + 1, cp', a', rfl, by first | rfl | (congr 1; omega), by omega, by omega, by unfold Hid; rw [HS2.out]; exact HR7.out⟩
              case measure => simp only [intOfT]; omega
          · rw [decide_eq_false e3] at hsT
            as_aux_lemma =>
              have HS2 : Hid (ansL block window size (f.take (k + 1)) = ansL block window size (f.take k)) := by unfold Hid; rw [HSU.out]; unfold ansC; rw [if_neg (fun h => e1 h.1), if_neg (fun h => e2 h.1), if_neg e3]; simp
              clear HSU e1 e2 e3
              have HR9 := hid (HKEEP.out W (But.refl _ _))
              go_wp2_with fail
              go_roundw
              case rel => exact ⟨k + 1, no, co, ao, rfl, by first | rfl | (congr 1; omega), by omega, by omega, by unfold Hid; rw [HS2.out]; exact HR9.out⟩
              case measure => simp only [intOfT]; omega
    · obtain rfl : k = n1 := by omega
      clear hkl
      have HT : Hid (f.take k = f) := by unfold Hid; rw [HN1.out, List.take_length]
      have HR2 : Hid (RowB 56 2 w1 wr ao no co (chs (ansL block window size f))) := by have := HR.out; rw [HT.out] at this; exact this
      have CG := hid (pagreed_any _ ao no co wr HR2.out.chv.2 HR2.out.chv.1 (by omega))
      have HFIN : Hid (∀ w', Below wr.heap.size wr w' → RowB 56 2 w w' ao no co (chs (ansL block window size f))) := fun w' hb =>
        ⟨HR2.out.row.below hb, fun b hb' => Nat.le_trans HB1.out.size (HR2.out.new b hb'), bstep (bstep HB1.out HR2.out.below) hb⟩
      go_wp2_with (first
        | (go_at_call 51; refine CG.out.mono ?_; rintro e w8 ⟨rfl, HB8⟩)
        | fail)
      go_ret3
      exact ⟨ao, no, co, rfl, HFIN.out _ HB8.out⟩
end Go.Proofs.YtdcppiknomoigaaDoor
