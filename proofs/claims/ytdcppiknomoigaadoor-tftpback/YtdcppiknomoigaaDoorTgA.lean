/-
  Tftp: the program's Want, isKnown, isValue, within, agreed, mayAnswer.
-/
import Derived.Test.YtdcppiknomoigaaDoorTfP
namespace Go.Proofs.YtdcppiknomoigaaDoor
open Go.RowKit
set_option linter.all false

set_option maxHeartbeats 1000000 in
theorem pwithin_any (n lo hi : Int) (w : World) (hl : lo ≤ hi) :
    Calls Tryd.prog 50 #[.int .i64 n, .int .i64 lo, .int .i64 hi] w fun e w' => e = .returned (.int .i64 (wi n lo hi)) ∧ w' = w := by
  unfold wi
  go_enter Tryd.func50, Tryd.ntmps50
  go_wp2
  all_goals go_ret
  all_goals exact ⟨ret_int (by omega), rfl⟩
set_option maxHeartbeats 1000000 in
theorem pknown_any (s : ByteArray) (w : World) :
    Calls Tryd.prog 70 #[.string s] w fun e w' => e = .returned (.bool (knownB s)) ∧ w' = w := by
  have e1 := sBlk s
  have e2 := sWin s
  have e3 := sTsz s
  unfold knownB
  generalize decide (s = nBlk) = b1 at *
  generalize decide (s = nWin) = b2 at *
  generalize decide (s = nTsz) = b3 at *
  go_enter Tryd.func70, Tryd.ntmps70
  cases b1
  · cases b2
    · cases b3
      · go_wp2
        go_ret
        exact ⟨rfl, rfl⟩
      · go_wp2
        go_ret
        exact ⟨rfl, rfl⟩
    · go_wp2
      go_ret
      exact ⟨rfl, rfl⟩
  · go_wp2
    go_ret
    exact ⟨rfl, rfl⟩
def isVal (n : Int) : Bool := decide (0 ≤ n ∧ n ≤ 2147483647)
theorem isVal_yes {n : Int} (h0 : 0 ≤ n) (h1 : n ≤ 2147483647) : isVal n = true := decide_eq_true ⟨h0, h1⟩
theorem isVal_no {n : Int} (h : ¬ (0 ≤ n ∧ n ≤ 2147483647)) : isVal n = false := decide_eq_false h
set_option maxHeartbeats 1000000 in
theorem pvalue_any (n : Int) (w : World) :
    Calls Tryd.prog 75 #[.int .i64 n] w fun e w' => e = .returned (.bool (isVal n)) ∧ w' = w := by
  go_enter Tryd.func75, Tryd.ntmps75
  by_cases h0 : 0 ≤ n
  · by_cases h1 : n ≤ 2147483647
    · rw [isVal_yes h0 h1]
      go_wp2
      go_ret
      exact ⟨rfl, rfl⟩
    · rw [isVal_no (fun h => h1 h.2)]
      go_wp2
      go_ret
      exact ⟨rfl, rfl⟩
  · rw [isVal_no (fun h => h0 h.1)]
    go_wp2
    go_ret
    exact ⟨rfl, rfl⟩
set_option maxRecDepth 20000 in
set_option maxHeartbeats 2000000 in
theorem pwant_any (l : List Ch) (a : Option Addr) (n c : Nat) (nm : ByteArray) (w : World) (h : ChV w a l) (hn : n = l.length) (hbig : n ≤ 9223372036854775807) :
    Calls Tryd.prog 21 #[.slice a n c, .string nm] w fun e w' => e = .returned (.tuple #[.int .i64 (wantV l nm), .bool (wantB l nm)]) ∧ Hid (Below w.heap.size w w') := by
  have HV := hid h
  have HN := hid hn
  clear h hn
  go_enter Tryd.func21, Tryd.ntmps21
  go_wp2_with fail
  go_loopw [10] (fun vi wr => ∃ k : Nat, vi = .int .i64 k ∧ k ≤ n ∧ Hid (Below w.heap.size w wr) ∧ Hid (∀ x ∈ l.take k, x.nm ≠ nm)) (fun vi _ => n - (intOfT vi).toNat)
  case atStart => exact ⟨0, rfl, Nat.zero_le _, Below.refl _ _, by simp [Hid]⟩
  case round =>
    obtain ⟨k, rfl, hk, HB, HI⟩ := hrel
    by_cases hkl : k < n
    · obtain ⟨y, hy⟩ : ∃ y, l[k]? = some y := ⟨_, List.getElem?_eq_getElem (by rw [← HN.out]; omega)⟩
      have HVR := hid (HV.out.below HB.out)
      obtain ⟨b, o, rfl, c0, c1⟩ := HVR.out.ent hy
      have HY := hid hy
      have hs := sbeq y.nm nm
      have hkz : (0 : Int) ≤ (k : Int) := by omega
      have hkn : (k : Int) < (n : Int) := by omega
      have htk : l.take (k + 1) = l.take k ++ [y] := by rw [List.take_add_one, hy]; rfl
      have HB2 := hid (bstep HB.out (bpush (Below.refl _ _) (.cells #[.string y.nm, .int .i64 y.v] 56)))
      by_cases he : y.nm = nm
      · rw [decide_eq_true he] at hs
        have HF : Hid (wantF l nm = some y) := by
          unfold Hid wantF
          have e1 : l = l.take k ++ y :: l.drop (k + 1) := by
            obtain ⟨h1, h2⟩ := List.getElem?_eq_some_iff.1 HY.out
            rw [← h2, ← List.drop_eq_getElem_cons h1, List.take_append_drop]
          rw [e1, List.find?_append, List.find?_eq_none.2 (fun x hx => by simpa using HI.out x hx)]
          simp [he]
        clear he hy htk
        go_wp2_with fail
        go_ret2
        exact ⟨by unfold wantV wantB; rw [HF.out]; rfl, HB2⟩
      · rw [decide_eq_false he] at hs
        have HI2 : Hid (∀ x ∈ l.take (k + 1), x.nm ≠ nm) := fun x hx => by
          rw [htk] at hx
          rcases List.mem_append.1 hx with hx | hx
          · exact HI.out x hx
          · simp at hx; subst hx; exact he
        clear he hy htk
        go_wp2_with fail
        go_roundw
        case rel => exact ⟨k + 1, by first | rfl | (congr 1; omega), by omega, HB2, HI2⟩
        case measure => simp only [intOfT]; omega
    · have HF : Hid (wantF l nm = none) := by
        have := HI.out
        rw [List.take_of_length_le (by rw [← HN.out]; omega)] at this
        exact List.find?_eq_none.2 fun x hx => by simpa using this x hx
      obtain rfl : k = n := by omega
      clear hkl
      go_wp2_with fail
      go_ret2
      exact ⟨by unfold wantV wantB; rw [HF.out]; rfl, HB⟩
set_option maxHeartbeats 1000000 in
theorem pagreed_any (l : List Ch) (a : Option Addr) (n c : Nat) (w : World) (h : ChV w a l) (hn : n = l.length) (hbig : n ≤ 9223372036854775807) :
    Calls Tryd.prog 51 #[.slice a n c] w fun e w' => e = .returned (.tuple #[.int .i64 (agd l nBlk 512), .int .i64 (agd l nWin 1)]) ∧ Hid (Below w.heap.size w w') := by
  have C1 := hid (pwant_any l a n c nBlk w h hn hbig)
  have C2 := hid (fun W (hb : Below w.heap.size w W) => pwant_any l a n c nWin W (h.below hb) hn hbig)
  clear h hn
  unfold agd
  generalize wantB l nBlk = b1 at *
  generalize wantB l nWin = b2 at *
  generalize wantV l nBlk = v1 at *
  generalize wantV l nWin = v2 at *
  simp only [nBlk] at C1
  simp only [nWin] at C2
  go_enter Tryd.func51, Tryd.ntmps51
  cases b1 <;> cases b2
  all_goals
    go_wp2_with (first
      | (go_at_call 21; with_reducible refine C1.out.mono ?_; rintro e w1 ⟨rfl, HB1⟩; clear C1)
      | (go_at_call 21; refine (C2.out _ HB1.out).mono ?_; rintro e w2 ⟨rfl, HB2⟩)
      | fail)
    go_ret2
    exact ⟨rfl, bstep HB1.out HB2.out⟩
set_option maxHeartbeats 1000000 in
theorem pmay_any (x : Ch) (v : Int) (w : World) :
    Calls Tryd.prog 52 #[.agg #[.string x.nm, .int .i64 x.v], .int .i64 v] w fun e w' => e = .returned (.bool (mayA x v)) ∧ Hid (Below w.heap.size w w') := by
  have HB := hid (bpush (Below.refl w.heap.size w) (.cells #[.string x.nm, .int .i64 x.v] 56))
  have e1 := sBlk x.nm
  have e2 := sWin x.nm
  have e3 := sTsz x.nm
  have n12 := nBlk_nWin
  go_enter Tryd.func52, Tryd.ntmps52
  by_cases c1 : x.nm = nBlk
  · rw [decide_eq_true c1] at e1
    by_cases h0 : 8 ≤ x.v
    · by_cases h1 : x.v ≤ v
      · have HR : Hid (mayA x v = true) := by unfold Hid mayA; rw [if_pos c1]; exact decide_eq_true ⟨h0, h1⟩
        clear c1 e2 e3 n12
        go_wp2_with fail
        go_ret
        exact ⟨by rw [HR.out]; rfl, HB⟩
      · have HR : Hid (mayA x v = false) := by unfold Hid mayA; rw [if_pos c1]; exact decide_eq_false (fun h => h1 h.2)
        clear c1 e2 e3 n12
        go_wp2_with fail
        go_ret
        exact ⟨by rw [HR.out]; rfl, HB⟩
    · have HR : Hid (mayA x v = false) := by unfold Hid mayA; rw [if_pos c1]; exact decide_eq_false (fun h => h0 h.1)
      clear c1 e2 e3 n12
      go_wp2_with fail
      go_ret
      exact ⟨by rw [HR.out]; rfl, HB⟩
  · rw [decide_eq_false c1] at e1
    by_cases c2 : x.nm = nWin
    · rw [decide_eq_true c2] at e2
      by_cases h0 : 1 ≤ x.v
      · by_cases h1 : x.v ≤ v
        · have HR : Hid (mayA x v = true) := by unfold Hid mayA; rw [if_neg c1, if_pos c2]; exact decide_eq_true ⟨h0, h1⟩
          clear c1 c2 e3 n12
          go_wp2_with fail
          go_ret
          exact ⟨by rw [HR.out]; rfl, HB⟩
        · have HR : Hid (mayA x v = false) := by unfold Hid mayA; rw [if_neg c1, if_pos c2]; exact decide_eq_false (fun h => h1 h.2)
          clear c1 c2 e3 n12
          go_wp2_with fail
          go_ret
          exact ⟨by rw [HR.out]; rfl, HB⟩
      · have HR : Hid (mayA x v = false) := by unfold Hid mayA; rw [if_neg c1, if_pos c2]; exact decide_eq_false (fun h => h0 h.1)
        clear c1 c2 e3 n12
        go_wp2_with fail
        go_ret
        exact ⟨by rw [HR.out]; rfl, HB⟩
    · rw [decide_eq_false c2] at e2
      by_cases c3 : x.nm = nTsz
      · rw [decide_eq_true c3] at e3
        by_cases h0 : 0 ≤ x.v
        · have HR : Hid (mayA x v = true) := by unfold Hid mayA; rw [if_neg c1, if_neg c2, if_pos c3]; exact decide_eq_true h0
          clear c1 c2 c3 n12
          go_wp2_with fail
          go_ret
          exact ⟨by rw [HR.out]; rfl, HB⟩
        · have HR : Hid (mayA x v = false) := by unfold Hid mayA; rw [if_neg c1, if_neg c2, if_pos c3]; exact decide_eq_false h0
          clear c1 c2 c3 n12
          go_wp2_with fail
          go_ret
          exact ⟨by rw [HR.out]; rfl, HB⟩
      · rw [decide_eq_false c3] at e3
        have HR : Hid (mayA x v = false) := by unfold Hid mayA; rw [if_neg c1, if_neg c2, if_neg c3]
        clear c1 c2 c3 n12
        go_wp2_with fail
        go_ret
        exact ⟨by rw [HR.out]; rfl, HB⟩
end Go.Proofs.YtdcppiknomoigaaDoor
