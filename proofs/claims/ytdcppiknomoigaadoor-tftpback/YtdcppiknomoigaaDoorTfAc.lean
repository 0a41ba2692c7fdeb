/-
  Tftp: the document's SameChoices and Accept.
-/
import Derived.Test.YtdcppiknomoigaaDoorTfS
namespace Go.Proofs.YtdcppiknomoigaaDoor
open Go.RowKit
set_option linter.all false

set_option maxRecDepth 20000 in
theorem choice_same (s : ByteArray) (v : Int) (w : World) : (Op.equalIn 10000 56 (.agg #[.string s, .int .i64 v]) (.agg #[.string s, .int .i64 v])).run Tryd.prog w = .ok true w := by
  have h1 : Tryd.prog.stoodInHeld 56 = false := by kernel_rfl
  have e3 : ∀ d z, (Op.equalIn (d + 1) 3 (.int .i64 z) (.int .i64 z)).run Tryd.prog w = .ok true w := fun d z => by
    simp [Op.equalIn, run_underlying Tryd.underlying3]
  have e4 : ∀ d z, (Op.equalIn (d + 1) 9 (.string z) (.string z)).run Tryd.prog w = .ok true w := fun d z => by
    have hz : (z == z) = true := by have := str_same z; simpa [bne] using this
    simp [Op.equalIn, run_underlying Tryd.underlying9, hz]
  rw [show (10000 : Nat) = 9998 + 1 + 1 from rfl]
  unfold Op.equalIn
  have p0 : (part 9 #[.string s, .int .i64 v] 0).run Tryd.prog w = .ok (.string s) w := by kernel_rfl
  have p1 : (part 3 #[.string s, .int .i64 v] 1).run Tryd.prog w = .ok (.int .i64 v) w := by kernel_rfl
  have e9 : ∀ z, (Op.equalIn 9999 3 (.int .i64 z) (.int .i64 z)).run Tryd.prog w = .ok true w := fun z => e3 9998 z
  have e8 : ∀ z, (Op.equalIn 9999 9 (.string z) (.string z)).run Tryd.prog w = .ok true w := fun z => e4 9998 z
  simp [run_underlying Tryd.underlying56, h1, p0, p1, e9, e8, Result.andThen]
set_option maxRecDepth 20000 in
set_option maxHeartbeats 2000000 in
theorem same_choices_yes (l : List Ch) (a b : Option Addr) (n c d : Nat) (w : World) (h : ChV w a l) (h' : ChV w b l) (hn : n = l.length) (hbig : n ≤ 9223372036854775807) :
    Calls Tryd.prog 27 #[.slice a n c, .slice b n d] w fun e w' => e = .returned (.bool true) ∧ ∃ q, w' = w.drewN q := by
  have HV := hid h
  have HV2 := hid h'
  have HN := hid hn
  clear h h' hn
  go_enter Tryd.func27, Tryd.ntmps27
  go_wp2_with fail
  go_loopw [5] (fun vi wr => ∃ (k q : Nat), vi = .int .i64 k ∧ k ≤ n ∧ Hid (wr = w.drewN q)) (fun vi _ => n - (intOfT vi).toNat)
  case atStart => exact ⟨0, 0, rfl, Nat.zero_le _, rfl⟩
  case round =>
    obtain ⟨k, q, rfl, hk, HW⟩ := hrel
    by_cases hkl : k < n
    · have HVR : Hid (ChV wr a l) := hid (by rw [HW.out]; exact HV.out.below (bdrewT w q))
      have HVR2 : Hid (ChV wr b l) := hid (by rw [HW.out]; exact HV2.out.below (bdrewT w q))
      obtain ⟨y, hy⟩ : ∃ y, l[k]? = some y := ⟨_, List.getElem?_eq_getElem (by rw [← HN.out]; omega)⟩
      obtain ⟨g, o, rfl, c0, c1⟩ := HVR.out.ent hy
      obtain ⟨g', o', rfl, d0, d1⟩ := HVR2.out.ent hy
      have hkz : (0 : Int) ≤ (k : Int) := by omega
      have hkn : (k : Int) < (n : Int) := by omega
      have hS := fun wx => choice_same y.nm y.v wx
      clear hy
      go_wp2_with (first | go_quiet (fail) | fail)
      go_roundw
      case rel => exact ⟨k + 1, q + nq, by first | rfl | (congr 1; omega), by omega, by unfold Hid; rw [HW.out]; simp [World.drewN, Nat.add_assoc]⟩
      case measure => simp only [intOfT]; omega
    · obtain rfl : k = n := by omega
      clear hkl
      go_wp2_with fail
      go_ret
      exact ⟨rfl, q, HW.out⟩
/-! ### Accept -/
def accS (asked answer : List Ch) : Nat → Option (Int × Int)
  | 0 => some (512, 1)
  | k + 1 => match accS asked answer k with
    | none => none
    | some s =>
      let x := answer.getD k Ch.nil
      if !knownB x.nm || !wantB asked x.nm || inB x.nm (answer.take k) || decide (x.v < 0) then none
      else if x.nm = nBlk then (if x.v < 8 ∨ wantV asked x.nm < x.v then none else some (x.v, s.2))
      else if x.nm = nWin then (if x.v < 1 ∨ wantV asked x.nm < x.v then none else some (s.1, x.v))
      else some s
theorem accS_none (asked answer : List Ch) : ∀ k d, accS asked answer k = none → accS asked answer (k + d) = none
  | k, 0, h => h
  | k, d + 1, h => by rw [← Nat.add_assoc, accS, accS_none asked answer k d h]
def accF (asked answer : List Ch) (most : Int) : Int × Int × Int := match accS asked answer answer.length with
  | none => (0, 0, 172)
  | some s => if wantB answer nTsz = true ∧ most < wantV answer nTsz then (0, 0, 2) else (s.1, s.2, 0)
theorem nBlk_nWin : nBlk ≠ nWin := by decide
set_option maxRecDepth 20000 in
set_option maxHeartbeats 8000000 in
theorem accept_any (asked answer : List Ch) (a b : Option Addr) (m n c d : Nat) (most : Int) (w : World) (h : ChV w a asked) (h' : ChV w b answer) (hm : m = asked.length) (hn : n = answer.length) (hbm : m ≤ 9223372036854775807) (hbn : n ≤ 9223372036854775807) :
    Calls Tryd.prog 26 #[.slice a m c, .slice b n d, .int .i64 most] w fun e w' => e = .returned (.tuple #[.int .i64 (accF asked answer most).1, .int .i64 (accF asked answer most).2.1, .int .i64 (accF asked answer most).2.2]) ∧ Below w.heap.size w w' := by
  have HV := hid h
  have HV2 := hid h'
  have HN := hid hn
  have HM := hid hm
  have HNO : Hid (∀ k, k ≤ n → accS asked answer k = none → accF asked answer most = (0, 0, 172)) := fun k hk e => by
    have h2 := accS_none asked answer k (n - k) e
    rw [show k + (n - k) = n from by omega, HN.out] at h2
    unfold accF; rw [h2]
  clear h h' hn hm
  go_enter Tryd.func26, Tryd.ntmps26
  go_wp2_with fail
  go_loopw [9, 10, 11] (fun vb vw vi wr => ∃ (k : Nat) (s : Int × Int), vb = .int .i64 s.1 ∧ vw = .int .i64 s.2 ∧ vi = .int .i64 k ∧ k ≤ n ∧ Hid (Below w.heap.size w wr) ∧ Hid (accS asked answer k = some s)) (fun _ _ vi _ => n - (intOfT vi).toNat)
  case atStart => exact ⟨0, (512, 1), rfl, rfl, rfl, Nat.zero_le _, Below.refl _ _, rfl⟩
  case round =>
    obtain ⟨k, ⟨sb, sw⟩, rfl, rfl, rfl, hk, HB, HS⟩ := hrel
    have HVR := hid (HV.out.below HB.out)
    have HVR2 := hid (HV2.out.below HB.out)
    by_cases hkl : k < n
    · obtain ⟨y, hy⟩ : ∃ y, answer[k]? = some y := ⟨_, List.getElem?_eq_getElem (by rw [← HN.out]; omega)⟩
      obtain ⟨g, o, rfl, c0, c1⟩ := HVR2.out.ent hy
      have hkz : (0 : Int) ≤ (k : Int) := by omega
      have hkn : (k : Int) < (n : Int) := by omega
      have HSU : Hid (accS asked answer (k + 1) = if !knownB y.nm || !wantB asked y.nm || inB y.nm (answer.take k) || decide (y.v < 0) then none else if y.nm = nBlk then (if y.v < 8 ∨ wantV asked y.nm < y.v then none else some (y.v, sw)) else if y.nm = nWin then (if y.v < 1 ∨ wantV asked y.nm < y.v then none else some (sb, y.v)) else some (sb, sw)) := by
        unfold Hid
        rw [accS, HS.out, show answer.getD k Ch.nil = y from by rw [List.getD_eq_getElem?_getD, hy]; rfl]
      have HBA := hid (bpush (Below.refl wr.heap.size wr) (.cells #[.string y.nm, .int .i64 y.v] 56))
      have HKN := hid (fun W => known_any y.nm W)
      have HWA := hid (fun W (hb : Below wr.heap.size wr W) => want_any asked a m c y.nm W (HVR.out.below hb) HM.out hbm)
      have HTW := hid (fun W (hb : Below wr.heap.size wr W) => twice_any answer (some ⟨g, o, none⟩) n d k y W (HVR2.out.below hb) HN.out hy hbn)
      have HBX : Hid (∀ q, ((wr.alloc (.cells #[.string y.nm, .int .i64 y.v] 56)).drewN q).cell? ⟨wr.heap.size, 0, none⟩ = some (.string y.nm) ∧ ((wr.alloc (.cells #[.string y.nm, .int .i64 y.v] 56)).drewN q).cell? ⟨wr.heap.size, 1, none⟩ = some (.int .i64 y.v)) := fun q => by
        have h1 := heap_new wr (.cells #[.string y.nm, .int .i64 y.v] 56)
        exact ⟨cell_of_heap (w := (wr.alloc (.cells #[.string y.nm, .int .i64 y.v] 56)).drewN q) h1 0, cell_of_heap (w := (wr.alloc (.cells #[.string y.nm, .int .i64 y.v] 56)).drewN q) h1 1⟩
      have hsB := sBlk y.nm
      have hsW := sWin y.nm
      clear hy
      generalize knownB y.nm = b1 at *
      generalize wantB asked y.nm = b2 at *
      generalize wantV asked y.nm = vw at *
      generalize inB y.nm (answer.take k) = b3 at *
      go_upto_region 10 with (first
        | (go_at_call 55; refine (HKN.out _).mono ?_; go_loud (rintro e w1 ⟨rfl, hw1⟩; subst w1))
        | (go_at_call 24; refine (HWA.out _ HBA.out).mono ?_; go_loud (rintro e w1 ⟨rfl, hw1⟩; subst w1))
        | (go_at_call 53; refine (HTW.out _ HBA.out).mono ?_; go_loud (rintro e w2 ⟨rfl, q2, hw2⟩; have HW2 := hid hw2; clear hw2))
        | fail)
      have HB2 : Hid (Below w.heap.size w w2) := hid (by rw [HW2.out]; exact bstep (bstep HB.out HBA.out) (bdrewT _ q2))
      have hx0 : w2.cell? ⟨wr.heap.size, 0, none⟩ = some (.string y.nm) := by rw [HW2.out]; exact (HBX.out q2).1
      have hx1 : w2.cell? ⟨wr.heap.size, 1, none⟩ = some (.int .i64 y.v) := by rw [HW2.out]; exact (HBX.out q2).2
      clear HKN HWA HTW HBX HBA c0 c1 HW2
      by_cases hbad : (!b1 || !b2 || b3 || decide (y.v < 0)) = true
      · have HF : Hid (accF asked answer most = (0, 0, 172)) := HNO.out (k + 1) (by omega) (by rw [HSU.out, if_pos hbad])
        clear hsB hsW HSU
        cases b1
        · clear hbad
          go_wp2_with fail
          go_ret3
          exact ⟨by rw [HF.out]; rfl, HB2.out⟩
        · cases b2
          · clear hbad
            go_wp2_with fail
            go_ret3
            exact ⟨by rw [HF.out]; rfl, HB2.out⟩
          · cases b3
            · have hv : y.v < 0 := by simpa using hbad
              clear hbad
              go_wp2_with fail
              go_ret3
              exact ⟨by rw [HF.out]; rfl, HB2.out⟩
            · clear hbad
              go_wp2_with fail
              go_ret3
              exact ⟨by rw [HF.out]; rfl, HB2.out⟩
      · simp only [Bool.or_eq_true, Bool.not_eq_true', not_or, Bool.not_eq_false, Bool.not_eq_true, decide_eq_true_eq, decide_eq_false_iff_not] at hbad
        obtain ⟨⟨⟨rfl, rfl⟩, rfl⟩, hv⟩ := hbad
        have hv0 : ¬ y.v < 0 := by simpa using hv
        have hvd : decide (y.v < 0) = false := decide_eq_false hv0
        rw [hvd] at HSU
        simp only [Bool.not_true, Bool.or_false, Bool.false_eq_true, if_false] at HSU
        clear hv hvd
        by_cases e1 : y.nm = nBlk
        · rw [decide_eq_true e1] at hsB
          rw [if_pos e1] at HSU
          clear e1 hsW
          by_cases hlo : y.v < 8
          · have HF : Hid (accF asked answer most = (0, 0, 172)) := HNO.out (k + 1) (by omega) (by rw [HSU.out, if_pos (Or.inl hlo)])
            clear HSU
            go_wp2_with fail
            go_ret3
            exact ⟨by rw [HF.out]; rfl, HB2.out⟩
          · by_cases hhi : vw < y.v
            · have HF : Hid (accF asked answer most = (0, 0, 172)) := HNO.out (k + 1) (by omega) (by rw [HSU.out, if_pos (Or.inr hhi)])
              clear HSU
              go_wp2_with fail
              go_ret3
              exact ⟨by rw [HF.out]; rfl, HB2.out⟩
            · have HS2 : Hid (accS asked answer (k + 1) = some (y.v, sw)) := by
                unfold Hid; rw [HSU.out, if_neg (by omega)]
              clear HSU
              go_wp2_with fail
              go_roundw
              case rel => exact ⟨k + 1, (y.v, sw), rfl, rfl, by first | rfl | (congr 1; omega), by omega, HB2, HS2⟩
              case measure => simp only [intOfT]; omega
        · rw [decide_eq_false e1] at hsB
          rw [if_neg e1] at HSU
          clear e1
          by_cases e2 : y.nm = nWin
          · rw [decide_eq_true e2] at hsW
            rw [if_pos e2] at HSU
            clear e2
            by_cases hlo : y.v < 1
            · have HF : Hid (accF asked answer most = (0, 0, 172)) := HNO.out (k + 1) (by omega) (by rw [HSU.out, if_pos (Or.inl hlo)])
              clear HSU
              go_wp2_with fail
              go_ret3
              exact ⟨by rw [HF.out]; rfl, HB2.out⟩
            · by_cases hhi : vw < y.v
              · have HF : Hid (accF asked answer most = (0, 0, 172)) := HNO.out (k + 1) (by omega) (by rw [HSU.out, if_pos (Or.inr hhi)])
                clear HSU
                go_wp2_with fail
                go_ret3
                exact ⟨by rw [HF.out]; rfl, HB2.out⟩
              · have HS2 : Hid (accS asked answer (k + 1) = some (sb, y.v)) := by
                  unfold Hid; rw [HSU.out, if_neg (by omega)]
                clear HSU
                go_wp2_with fail
                go_roundw
                case rel => exact ⟨k + 1, (sb, y.v), rfl, rfl, by first | rfl | (congr 1; omega), by omega, HB2, HS2⟩
                case measure => simp only [intOfT]; omega
          · rw [decide_eq_false e2] at hsW
            rw [if_neg e2] at HSU
            have HS2 : Hid (accS asked answer (k + 1) = some (sb, sw)) := HSU
            clear e2 HSU
            go_wp2_with fail
            go_roundw
            case rel => exact ⟨k + 1, (sb, sw), rfl, rfl, by first | rfl | (congr 1; omega), by omega, HB2, HS2⟩
            case measure => simp only [intOfT]; omega
    · obtain rfl : k = n := by omega
      have HF : Hid (accF asked answer most = if wantB answer nTsz = true ∧ most < wantV answer nTsz then (0, 0, 2) else (sb, sw, 0)) := by
        have := HS.out
        rw [HN.out] at this
        unfold Hid accF; rw [this]
      have HWA := hid (want_any answer b k d nTsz wr HVR2.out HN.out hbn)
      clear hkl
      generalize wantB answer nTsz = t1 at *
      generalize wantV answer nTsz = t2 at *
      simp only [nTsz] at HWA
      go_upto_region 22 with (first
        | (go_at_call 24; refine HWA.out.mono ?_; go_loud (rintro e w1 ⟨rfl, hw1⟩; subst w1))
        | fail)
      cases t1
      · go_wp2_with fail
        go_ret3
        exact ⟨by rw [HF.out, if_neg (by simp)]; rfl, HB.out⟩
      · by_cases hl : most < t2
        · go_wp2_with fail
          go_ret3
          exact ⟨by rw [HF.out, if_pos (by simp [hl])]; rfl, HB.out⟩
        · go_wp2_with fail
          go_ret3
          exact ⟨by rw [HF.out, if_neg (by simp; omega)]; rfl, HB.out⟩
end Go.Proofs.YtdcppiknomoigaaDoor
