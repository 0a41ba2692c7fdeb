/-
  Tftp: the document's Agree.
-/
import Derived.Test.YtdcppiknomoigaaDoorTfAc
import Derived.Test.YtdcppiknomoigaaDoorBRowB
import Derived.Deep.DeepCutAuto
import Derived.Deep.CutRange
import Derived.Deep.RegionHeld3
import Derived.Deep.RegionHeldLaw
namespace Go.Proofs.YtdcppiknomoigaaDoor
open Go.RowKit
set_option linter.all false

def chs (l : List Ch) : List Value := l.flatMap fun x => (chC x).toList
theorem chs_snoc (l : List Ch) (y : Ch) : chs (l ++ [y]) = chs l ++ (chC y).toList := by simp [chs]
theorem chs_len (l : List Ch) : (chs l).length = l.length * 2 := flatL _ 2 (fun _ => rfl) l
theorem chs_get {l : List Ch} {k : Nat} {y : Ch} (h : l[k]? = some y) {j : Nat} (hj : j < 2) : (chs l)[k * 2 + j]? = (chC y)[j]? := by
  rw [← Array.getElem?_toList]; exact flatG _ 2 (fun _ => rfl) l k j y h hj
theorem infoCh : (Tryd.prog.info? 56).map (fun i => (i.zero, i.size, i.bytes)) = some (some (.agg #[.string ⟨#[]⟩, .int .i64 0]), 2, 24) := by kernel_rfl
theorem RowB.ch {w wr w5 : World} {a : Option Addr} {n cp : Nat} {l : List Ch} (h : RowB 56 2 w wr a n cp (chs l)) (hb : Below wr.heap.size wr w5) (y : Ch) (hl : n ≤ 5864062014800) :
    ∃ a' cp' w7, (Builtin.append_ #[23, 23] 23 #[.slice a n cp, .slice (some ⟨w5.heap.size, 0, none⟩) 1 1]).run Tryd.prog (w5.alloc (.cells #[.string y.nm, .int .i64 y.v] 56)) = .ok (.slice a' (n + 1) cp') w7 ∧ Hid (RowB 56 2 w w7 a' (n + 1) cp' (chs (l ++ [y]))) ∧ Hid (∀ b, b < w5.heap.size → (Value.slice a n cp).ownBlock ≠ some b → w7.heap[b]? = w5.heap[b]?) := by
  rw [chs_snoc]
  exact RowB.one 23 56 _ 2 24 Tryd.underlying23 infoCh rfl (by omega) h hb (chC y) rfl (fun u hu => by simp [chC] at hu; rcases hu with rfl | rfl <;> rfl) (by unfold maxLen; omega) (by omega)
/-- a row of choices, read. -/
theorem RowB.chv {w wr : World} {a : Option Addr} {n cp : Nat} {l : List Ch} (h : RowB 56 2 w wr a n cp (chs l)) : n = l.length ∧ ChV wr a l := by
  have h1 := h.row.1
  rw [chs_len] at h1
  have hn : n = l.length := by omega
  refine ⟨hn, ?_⟩
  by_cases h0 : n = 0
  · left
    exact List.eq_nil_of_length_eq_zero (by omega)
  · obtain ⟨g, rfl, hc⟩ := h.row.at0 (by omega)
    refine Or.inr ⟨g, 0, rfl, fun k x hx => ?_⟩
    rw [Nat.zero_add]
    exact ⟨hc _ _ (chs_get hx (j := 0) (by omega)), hc _ _ (chs_get hx (j := 1) (by omega))⟩
def wi (n lo hi : Int) : Int := max lo (min n hi)
def agS (asked : List Ch) (block window size : Int) : Nat → Int × Int × List Ch
  | 0 => (512, 1, [])
  | k + 1 =>
    let s := agS asked block window size k
    let x := asked.getD k Ch.nil
    if inB x.nm (asked.take k) = true then s
    else if x.nm = nBlk ∧ 8 ≤ x.v then (min x.v (wi block 8 65464), s.2.1, s.2.2 ++ [⟨x.nm, min x.v (wi block 8 65464)⟩])
    else if x.nm = nWin ∧ 1 ≤ x.v then (s.1, min x.v (wi window 1 65535), s.2.2 ++ [⟨x.nm, min x.v (wi window 1 65535)⟩])
    else if x.nm = nTsz then (s.1, s.2.1, s.2.2 ++ [⟨x.nm, wi size 0 2147483647⟩])
    else s
theorem agS_len (asked : List Ch) (block window size : Int) : ∀ k, (agS asked block window size k).2.2.length ≤ k
  | 0 => by simp [agS]
  | k + 1 => by
    have ih := agS_len asked block window size k
    rw [agS]
    split
    · omega
    · split
      · simp; omega
      · split
        · simp; omega
        · split
          · simp; omega
          · omega
theorem minT (a b : Int) : (if a < b then a else b) = min a b := by omega
set_option maxRecDepth 20000 in
set_option maxHeartbeats 8000000 in
theorem agree_any (asked : List Ch) (a : Option Addr) (n c : Nat) (block window size : Int) (w : World) (h : ChV w a asked) (hn : n = asked.length) (hbn : n ≤ 5864062014700) :
    Calls Tryd.prog 25 #[.slice a n c, .int .i64 block, .int .i64 window, .int .i64 size] w fun e w' => ∃ a' no co, e = .returned (.tuple #[.int .i64 (agS asked block window size n).1, .int .i64 (agS asked block window size n).2.1, .slice a' no co]) ∧ Hid (RowB 56 2 w w' a' no co (chs (agS asked block window size n).2.2)) := by
  have HV := hid h
  have HN := hid hn
  clear h hn
  go_enter Tryd.func25, Tryd.ntmps25
  go_wp2_with fail
  go_loopw [11, 12, 13, 14] (fun vb vw vo vi wr => ∃ (k no co : Nat) (ao : Option Addr) (s : Int × Int × List Ch), vb = .int .i64 s.1 ∧ vw = .int .i64 s.2.1 ∧ vo = .slice ao no co ∧ vi = .int .i64 k ∧ k ≤ n ∧ no ≤ k ∧ Hid (RowB 56 2 w wr ao no co (chs s.2.2)) ∧ Hid (agS asked block window size k = s)) (fun _ _ _ vi _ => n - (intOfT vi).toNat)
  case atStart => exact ⟨0, 0, 0, none, (512, 1, []), rfl, rfl, rfl, rfl, Nat.zero_le _, Nat.le_refl _, RowB.void _ _ _, rfl⟩
  case round =>
    obtain ⟨k, no, co, ao, ⟨sb, sw, so⟩, rfl, rfl, rfl, rfl, hk, hno, HR, HS⟩ := hrel
    have HVR := hid (HV.out.below HR.out.below)
    by_cases hkl : k < n
    · obtain ⟨y, hy⟩ : ∃ y, asked[k]? = some y := ⟨_, List.getElem?_eq_getElem (by rw [← HN.out]; omega)⟩
      obtain ⟨g, o, rfl, c0, c1⟩ := HVR.out.ent hy
      have hkz : (0 : Int) ≤ (k : Int) := by omega
      have hkn : (k : Int) < (n : Int) := by omega
      have HSU : Hid (agS asked block window size (k + 1) = if inB y.nm (asked.take k) = true then (sb, sw, so) else if y.nm = nBlk ∧ 8 ≤ y.v then (min y.v (wi block 8 65464), sw, so ++ [⟨y.nm, min y.v (wi block 8 65464)⟩]) else if y.nm = nWin ∧ 1 ≤ y.v then (sb, min y.v (wi window 1 65535), so ++ [⟨y.nm, min y.v (wi window 1 65535)⟩]) else if y.nm = nTsz then (sb, sw, so ++ [⟨y.nm, wi size 0 2147483647⟩]) else (sb, sw, so)) := by
        unfold Hid
        rw [agS, HS.out, show asked.getD k Ch.nil = y from by rw [List.getD_eq_getElem?_getD, hy]; rfl]
      have HTW := hid (twice_any asked (some ⟨g, o, none⟩) n c k y wr HVR.out HN.out hy (by omega))
      have HWI := hid (fun x lo hi W => within_any x lo hi W)
      have hsB := sBlk y.nm
      have hsW := sWin y.nm
      have hsT := sTsz y.nm
      clear hy
      generalize inB y.nm (asked.take k) = b1 at *
      go_upto_region 8 with (first
        | (go_at_call 53; refine HTW.out.mono ?_; go_loud (rintro e w2 ⟨rfl, q2, hw2⟩; have HW2 := hid hw2; clear hw2))
        | fail)
      have HR2 : Hid (RowB 56 2 w w2 ao no co (chs so)) := hid (by rw [HW2.out]; exact HR.out.bel (bdrewT _ q2))
      have hc0 : w2.cell? ⟨g, o + k * 2, none⟩ = some (.string y.nm) := by rw [HW2.out]; exact c0
      have hc1 : w2.cell? ⟨g, o + k * 2 + 1, none⟩ = some (.int .i64 y.v) := by rw [HW2.out]; exact c1
      clear HTW HW2 c0 c1 HR HVR
      go_upto_region 9 with fail
      have HR3 := hid (HR2.out.bel (bpush (Below.refl w2.heap.size w2) (.cells #[.string y.nm, .int .i64 y.v] 56)))
      have HBX := hid (heap_new w2 (.cells #[.string y.nm, .int .i64 y.v] 56))
      have HNE : Hid (∀ b, (Value.slice ao no co).ownBlock = some b → b ≠ w2.heap.size) := fun b hb e => by have := HR2.out.row.lt hb; omega
      clear HR2 hc0 hc1
      generalize w2.alloc (.cells #[.string y.nm, .int .i64 y.v] 56) = W at *
      generalize w2.heap.size = bx at *
      have hx0 : W.cell? ⟨bx, 0, none⟩ = some (.string y.nm) := cell_of_heap HBX.out 0
      have hx1 : W.cell? ⟨bx, 1, none⟩ = some (.int .i64 y.v) := cell_of_heap HBX.out 1
      cases b1
      · simp only [Bool.false_eq_true, if_false] at HSU
        by_cases e1 : y.nm = nBlk
        · have e2 : ¬ y.nm = nWin := by rw [e1]; decide
          have e3 : ¬ y.nm = nTsz := by rw [e1]; decide
          rw [decide_eq_true e1] at hsB
          rw [decide_eq_false e2] at hsW
          rw [decide_eq_false e3] at hsT
          by_cases hv : 8 ≤ y.v
          · as_aux_lemma =>
              have HS2 : Hid (agS asked block window size (k + 1) = (min y.v (wi block 8 65464), sw, so ++ [⟨y.nm, min y.v (wi block 8 65464)⟩])) := by unfold Hid; rw [HSU, if_pos ⟨e1, hv⟩]
              clear HSU e1 e2 e3
              obtain ⟨z, hz⟩ : ∃ z, z = wi block 8 65464 := ⟨_, rfl⟩
              rw [← hz] at HS2
              have HWZ : Hid (∀ W, Calls Tryd.prog 54 #[.int .i64 block, .int .i64 8, .int .i64 65464] W fun e w' => e = .returned (.int .i64 z) ∧ w' = W) := fun W => by rw [hz]; exact within_any block 8 65464 W
              clear hz HWI
              go_upto_region 11 with fail
              go_cut [11] (fun v wx => v = .int .i64 (min y.v z) ∧ ∃ q, wx = W.drewN q)
              case first =>
                clear HS2
                rcases Int.lt_trichotomy y.v z with hzz | hzz | hzz
                · have hz1 : ¬ z < y.v := by omega
                  go_region_held3 (fun s => s.cell? ⟨bx, 1, none⟩ = some (.int .i64 y.v)) (first | assumption | exact hx1) (first
                    | (go_at_call 54; refine (HWZ.out _).mono ?_; rintro e w5 ⟨rfl, hw5⟩; subst w5)
                    | fail)
                  all_goals
                    go_wp2_with fail
                    go_meet
                    case rel => exact ⟨by first | rfl | (congr 1; omega), 1, rfl⟩
                · have hz1 : ¬ z < y.v := by omega
                  have hz2 : ¬ y.v < z := by omega
                  have HZE := hid hzz
                  clear hzz
                  go_region_held3 (fun s => s.cell? ⟨bx, 1, none⟩ = some (.int .i64 y.v)) (first | assumption | exact hx1) (first
                    | (go_at_call 54; refine (HWZ.out _).mono ?_; rintro e w5 ⟨rfl, hw5⟩; subst w5)
                    | fail)
                  all_goals
                    go_wp2_with fail
                    go_meet
                    case rel => exact ⟨by first | rfl | (have := HZE.out; congr 1; omega), 1, rfl⟩
                · have hz1 : ¬ y.v < z := by omega
                  go_region_held3 (fun s => s.cell? ⟨bx, 1, none⟩ = some (.int .i64 y.v)) (first | assumption | exact hx1) (first
                    | (go_at_call 54; refine (HWZ.out _).mono ?_; rintro e w5 ⟨rfl, hw5⟩; subst w5)
                    | fail)
                  all_goals
                    go_wp2_with fail
                    go_meet
                    case rel => exact ⟨by first | rfl | (congr 1; omega), 1, rfl⟩
              case rest =>
                obtain ⟨rfl, q, rfl⟩ := hcut
                generalize min y.v z = z2 at *
                have hx0' : (W.drewN q).cell? ⟨bx, 0, none⟩ = some (.string y.nm) := hx0
                obtain ⟨a', cp', w7, hrun, HR7, _⟩ := (HR3.out.bel (bdrewT W q)).ch (Below.refl _ _) ⟨y.nm, z2⟩ (by omega)
                clear hx0 hx1 HR3
                go_wp2_with (first
                  | (at_builtin; refine wpList_append_run _ rfl _ _ _ _ rfl _ _ rfl rfl hrun ?_)
                  | fail)
                go_roundw
                case rel => exact ⟨k + 1, no + 1, cp', a', _, rfl, rfl, rfl, by first | rfl | (congr 1; omega), by omega, by omega, HR7, HS2⟩
                case measure => simp only [intOfT]; omega
          · as_aux_lemma =>
              have HS2 : Hid (agS asked block window size (k + 1) = (sb, sw, so)) := by unfold Hid; rw [HSU, if_neg (fun h => hv h.2), if_neg (fun h => e2 h.1), if_neg e3]
              clear HSU e1 e2 e3
              go_wp2_with fail
              go_roundw
              case rel => exact ⟨k + 1, no, co, ao, (sb, sw, so), rfl, rfl, rfl, by first | rfl | (congr 1; omega), by omega, by omega, HR3, HS2⟩
              case measure => simp only [intOfT]; omega
        · rw [decide_eq_false e1] at hsB
          by_cases e2 : y.nm = nWin
          · have e3 : ¬ y.nm = nTsz := by rw [e2]; decide
            rw [decide_eq_true e2] at hsW
            rw [decide_eq_false e3] at hsT
            by_cases hv : 1 ≤ y.v
            · as_aux_lemma =>
                have HS2 : Hid (agS asked block window size (k + 1) = (sb, min y.v (wi window 1 65535), so ++ [⟨y.nm, min y.v (wi window 1 65535)⟩])) := by unfold Hid; rw [HSU, if_neg (fun h => e1 h.1), if_pos ⟨e2, hv⟩]
                clear HSU e1 e2 e3
                obtain ⟨z, hz⟩ : ∃ z, z = wi window 1 65535 := ⟨_, rfl⟩
                rw [← hz] at HS2
                have HWZ : Hid (∀ W, Calls Tryd.prog 54 #[.int .i64 window, .int .i64 1, .int .i64 65535] W fun e w' => e = .returned (.int .i64 z) ∧ w' = W) := fun W => by rw [hz]; exact within_any window 1 65535 W
                clear hz HWI
                go_upto_region 14 with fail
                go_cut [12] (fun v wx => v = .int .i64 (min y.v z) ∧ ∃ q, wx = W.drewN q)
                case first =>
                  clear HS2
                  rcases Int.lt_trichotomy y.v z with hzz | hzz | hzz
                  · have hz1 : ¬ z < y.v := by omega
                    go_region_held3 (fun s => s.cell? ⟨bx, 1, none⟩ = some (.int .i64 y.v)) (first | assumption | exact hx1) (first
                      | (go_at_call 54; refine (HWZ.out _).mono ?_; rintro e w5 ⟨rfl, hw5⟩; subst w5)
                      | fail)
                    all_goals
                      go_wp2_with fail
                      go_meet
                      case rel => exact ⟨by first | rfl | (congr 1; omega), 1, rfl⟩
                  · have hz1 : ¬ z < y.v := by omega
                    have hz2 : ¬ y.v < z := by omega
                    have HZE := hid hzz
                    clear hzz
                    go_region_held3 (fun s => s.cell? ⟨bx, 1, none⟩ = some (.int .i64 y.v)) (first | assumption | exact hx1) (first
                      | (go_at_call 54; refine (HWZ.out _).mono ?_; rintro e w5 ⟨rfl, hw5⟩; subst w5)
                      | fail)
                    all_goals
                      go_wp2_with fail
                      go_meet
                      case rel => exact ⟨by first | rfl | (have := HZE.out; congr 1; omega), 1, rfl⟩
                  · have hz1 : ¬ y.v < z := by omega
                    go_region_held3 (fun s => s.cell? ⟨bx, 1, none⟩ = some (.int .i64 y.v)) (first | assumption | exact hx1) (first
                      | (go_at_call 54; refine (HWZ.out _).mono ?_; rintro e w5 ⟨rfl, hw5⟩; subst w5)
                      | fail)
                    all_goals
                      go_wp2_with fail
                      go_meet
                      case rel => exact ⟨by first | rfl | (congr 1; omega), 1, rfl⟩
                case rest =>
                  obtain ⟨rfl, q, rfl⟩ := hcut
                  generalize min y.v z = z2 at *
                  have hx0' : (W.drewN q).cell? ⟨bx, 0, none⟩ = some (.string y.nm) := hx0
                  obtain ⟨a', cp', w7, hrun, HR7, _⟩ := (HR3.out.bel (bdrewT W q)).ch (Below.refl _ _) ⟨y.nm, z2⟩ (by omega)
                  clear hx0 hx1 HR3
                  go_wp2_with (first
                    | (at_builtin; refine wpList_append_run _ rfl _ _ _ _ rfl _ _ rfl rfl hrun ?_)
                    | fail)
                  go_roundw
                  case rel => exact ⟨k + 1, no + 1, cp', a', _, rfl, rfl, rfl, by first | rfl | (congr 1; omega), by omega, by omega, HR7, HS2⟩
                  case measure => simp only [intOfT]; omega
            · as_aux_lemma =>
                have HS2 : Hid (agS asked block window size (k + 1) = (sb, sw, so)) := by unfold Hid; rw [HSU, if_neg (fun h => e1 h.1), if_neg (fun h => hv h.2), if_neg e3]
                clear HSU e1 e2 e3
                go_wp2_with fail
                go_roundw
                case rel => exact ⟨k + 1, no, co, ao, (sb, sw, so), rfl, rfl, rfl, by first | rfl | (congr 1; omega), by omega, by omega, HR3, HS2⟩
                case measure => simp only [intOfT]; omega
          · rw [decide_eq_false e2] at hsW
            by_cases e3 : y.nm = nTsz
            · rw [decide_eq_true e3] at hsT
              as_aux_lemma =>
                have HS2 : Hid (agS asked block window size (k + 1) = (sb, sw, so ++ [⟨y.nm, wi size 0 2147483647⟩])) := by unfold Hid; rw [HSU, if_neg (fun h => e1 h.1), if_neg (fun h => e2 h.1), if_pos e3]
                clear HSU e1 e2 e3
                obtain ⟨z, hz⟩ : ∃ z, z = wi size 0 2147483647 := ⟨_, rfl⟩
                rw [← hz] at HS2
                have HWZ : Hid (∀ W, Calls Tryd.prog 54 #[.int .i64 size, .int .i64 0, .int .i64 2147483647] W fun e w' => e = .returned (.int .i64 z) ∧ w' = W) := fun W => by rw [hz]; exact within_any size 0 2147483647 W
                clear hz HWI
                obtain ⟨a', cp', w7, hrun0, HR7, HK7⟩ := HR3.out.ch (w5 := W.drew) (Below.refl _ _).drew ⟨y.nm, z⟩ (by omega)
                have hrun : (Builtin.append_ #[23, 23] 23 #[.slice ao no co, .slice (some ⟨W.heap.size, 0, none⟩) 1 1]).run Tryd.prog (W.alloc (.cells #[.string y.nm, .int .i64 z] 56)).drew = .ok (.slice a' (no + 1) cp') w7 := hrun0
                clear hrun0 hx1
                go_upto_region 17 with fail
                have hxa : (W.alloc (.cells #[.string y.nm, .int .i64 z] 56)).drew.cell? ⟨bx, 0, none⟩ = some (.string y.nm) := cell_of_heap (w := W.alloc (.cells #[.string y.nm, .int .i64 z] 56)) (kept HBX.out (bpush (Below.refl W.heap.size W) (.cells #[.string y.nm, .int .i64 z] 56))) 0
                have hx7 : w7.cell? ⟨bx, 0, none⟩ = some (.string y.nm) := cell_of_heap (w := w7) ((HK7.out bx (heap_lt HBX.out) (fun e => HNE.out bx e rfl)).trans HBX.out) 0
                go_region_held_law (fun s => s.cell? ⟨bx, 0, none⟩ = some (.string y.nm)) (first | assumption | exact hx0 | exact hxa | exact hx7) (first
                  | (refine step_append_run rfl _ _ _ _ rfl _ _ rfl rfl hrun ?_)
                  | (go_at_call 54; refine (HWZ.out _).mono ?_; rintro e w5 ⟨rfl, hw5⟩; subst w5)
                  | fail)
                all_goals
                  clear hrun hx0 hxa hx7
                  go_wp2_with fail
                  go_roundw
                  case rel => exact ⟨k + 1, no + 1, cp', a', _, rfl, rfl, rfl, by first | rfl | (congr 1; omega), by omega, by omega, HR7, HS2⟩
                  case measure => simp only [intOfT]; omega
            · rw [decide_eq_false e3] at hsT
              as_aux_lemma =>
                have HS2 : Hid (agS asked block window size (k + 1) = (sb, sw, so)) := by unfold Hid; rw [HSU, if_neg (fun h => e1 h.1), if_neg (fun h => e2 h.1), if_neg e3]
                clear HSU e1 e2 e3
                go_wp2_with fail
                go_roundw
                case rel => exact ⟨k + 1, no, co, ao, (sb, sw, so), rfl, rfl, rfl, by first | rfl | (congr 1; omega), by omega, by omega, HR3, HS2⟩
                case measure => simp only [intOfT]; omega
      · simp only [if_true] at HSU
        go_wp2_with fail
        go_roundw
        case rel => exact ⟨k + 1, no, co, ao, (sb, sw, so), rfl, rfl, rfl, by first | rfl | (congr 1; omega), by omega, by omega, HR3, HSU⟩
        case measure => simp only [intOfT]; omega
    · obtain rfl : k = n := by omega
      clear hkl
      go_wp2_with fail
      go_ret3
      exact ⟨ao, no, co, by rw [HS.out]; rfl, by unfold Hid; rw [HS.out]; exact HR.out⟩
end Go.Proofs.YtdcppiknomoigaaDoor
