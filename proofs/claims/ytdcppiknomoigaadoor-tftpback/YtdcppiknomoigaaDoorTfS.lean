/-
  Tftp: the document's hasZero, choices, Want, within, SameChoices.
-/
import Derived.Test.YtdcppiknomoigaaDoorTfM
namespace Go.Proofs.YtdcppiknomoigaaDoor
open Go.RowKit
set_option linter.all false

set_option maxHeartbeats 1000000 in
theorem within_any (n lo hi : Int) (w : World) :
    Calls Tryd.prog 54 #[.int .i64 n, .int .i64 lo, .int .i64 hi] w fun e w' => e = .returned (.int .i64 (max lo (min n hi))) ∧ w' = w := by
  go_enter Tryd.func54, Tryd.ntmps54
  go_wp2
  all_goals go_ret
  all_goals exact ⟨ret_int (by omega), rfl⟩
/-- the first choice of a name. -/
def wantF (l : List Ch) (nm : ByteArray) : Option Ch := l.find? fun x => decide (x.nm = nm)
def wantV (l : List Ch) (nm : ByteArray) : Int := match wantF l nm with | some x => x.v | none => 0
def wantB (l : List Ch) (nm : ByteArray) : Bool := (wantF l nm).isSome
set_option maxRecDepth 20000 in
set_option maxHeartbeats 2000000 in
theorem want_any (l : List Ch) (a : Option Addr) (n c : Nat) (nm : ByteArray) (w : World) (h : ChV w a l) (hn : n = l.length) (hbig : n ≤ 9223372036854775807) :
    Calls Tryd.prog 24 #[.slice a n c, .string nm] w fun e w' => e = .returned (.tuple #[.int .i64 (wantV l nm), .bool (wantB l nm)]) ∧ w' = w := by
  have HV := hid h
  have HN := hid hn
  clear h hn
  go_enter Tryd.func24, Tryd.ntmps24
  go_wp2_with fail
  go_loop [6] (fun vi => ∃ k : Nat, vi = .int .i64 k ∧ k ≤ n ∧ Hid (∀ x ∈ l.take k, x.nm ≠ nm)) (fun vi => n - (intOfT vi).toNat)
  case atStart => exact ⟨0, rfl, Nat.zero_le _, by simp [Hid]⟩
  case round =>
    obtain ⟨k, rfl, hk, HI⟩ := hrel
    by_cases hkl : k < n
    · obtain ⟨y, hy⟩ : ∃ y, l[k]? = some y := ⟨_, List.getElem?_eq_getElem (by rw [← HN.out]; omega)⟩
      obtain ⟨b, o, rfl, c0, c1⟩ := HV.out.ent hy
      have HY := hid hy
      have hs := sbeq y.nm nm
      have hkz : (0 : Int) ≤ (k : Int) := by omega
      have hkn : (k : Int) < (n : Int) := by omega
      have htk : l.take (k + 1) = l.take k ++ [y] := by rw [List.take_add_one, hy]; rfl
      by_cases he : y.nm = nm
      · rw [decide_eq_true he] at hs
        have HF : Hid (wantF l nm = some y) := by
          unfold Hid wantF
          have e1 : l = l.take k ++ y :: l.drop (k + 1) := by
            obtain ⟨h1, h2⟩ := List.getElem?_eq_some_iff.1 HY.out
            rw [← h2, ← List.drop_eq_getElem_cons h1, List.take_append_drop]
          rw [e1, List.find?_append, List.find?_eq_none.2 (fun x hx => by simpa using HI.out x hx)]
          simp [he]
        clear he hy htk
        go_wp2_with fail
        go_ret2
        exact ⟨by unfold wantV wantB; rw [HF.out]; rfl, rfl⟩
      · rw [decide_eq_false he] at hs
        have HI2 : Hid (∀ x ∈ l.take (k + 1), x.nm ≠ nm) := fun x hx => by
          rw [htk] at hx
          rcases List.mem_append.1 hx with hx | hx
          · exact HI.out x hx
          · simp at hx; subst hx; exact he
        clear he hy htk
        go_wp2_with fail
        go_round
        case rel => exact ⟨k + 1, by first | rfl | (congr 1; omega), by omega, HI2⟩
        case measure => simp only [intOfT]; omega
    · have HF : Hid (wantF l nm = none) := by
        have := HI.out
        rw [List.take_of_length_le (by rw [← HN.out]; omega)] at this
        exact List.find?_eq_none.2 fun x hx => by simpa using this x hx
      obtain rfl : k = n := by omega
      clear hkl
      go_wp2_with fail
      go_ret2
      exact ⟨by unfold wantV wantB; rw [HF.out]; rfl, rfl⟩
/-- may these choices be written? -/
def chOk (l : List Ch) (k : Nat) : Bool := (List.range k).all fun i => knownB (l.getD i Ch.nil).nm && !inB (l.getD i Ch.nil).nm (l.take i) && decide (0 ≤ (l.getD i Ch.nil).v) && decide ((l.getD i Ch.nil).v ≤ 2147483647)
theorem chOk_succ (l : List Ch) (k : Nat) : chOk l (k + 1) = (chOk l k && (knownB (l.getD k Ch.nil).nm && !inB (l.getD k Ch.nil).nm (l.take k) && decide (0 ≤ (l.getD k Ch.nil).v) && decide ((l.getD k Ch.nil).v ≤ 2147483647))) := by
  unfold chOk
  rw [List.range_succ, List.all_append]
  simp
theorem chOk_mono (l : List Ch) : ∀ (k d : Nat), chOk l k = false → chOk l (k + d) = false
  | k, 0, h => h
  | k, d + 1, h => by rw [← Nat.add_assoc, chOk_succ, chOk_mono l k d h]; rfl
set_option maxRecDepth 20000 in
set_option maxHeartbeats 4000000 in
theorem choices_any (l : List Ch) (a : Option Addr) (n c : Nat) (w : World) (h : ChV w a l) (hn : n = l.length) (hbig : n ≤ 9223372036854775807) :
    Calls Tryd.prog 64 #[.slice a n c] w fun e w' => e = .returned (.bool (chOk l n)) ∧ ∃ q, w' = w.drewN q := by
  have HV := hid h
  have HN := hid hn
  clear h hn
  go_enter Tryd.func64, Tryd.ntmps64
  go_wp2_with fail
  go_loopw [3] (fun vi wr => ∃ (k q : Nat), vi = .int .i64 k ∧ k ≤ n ∧ Hid (wr = w.drewN q) ∧ Hid (chOk l k = true)) (fun vi _ => n - (intOfT vi).toNat)
  case atStart => exact ⟨0, 0, rfl, Nat.zero_le _, rfl, by simp [chOk, Hid]⟩
  case round =>
    obtain ⟨k, q, rfl, hk, HW, HI⟩ := hrel
    have HVR : Hid (ChV wr a l) := hid (by rw [HW.out]; exact HV.out.below (bdrewT w q))
    by_cases hkl : k < n
    · obtain ⟨y, hy⟩ : ∃ y, l[k]? = some y := ⟨_, List.getElem?_eq_getElem (by rw [← HN.out]; omega)⟩
      obtain ⟨b, o, rfl, c0, c1⟩ := HVR.out.ent hy
      have hkz : (0 : Int) ≤ (k : Int) := by omega
      have hkn : (k : Int) < (n : Int) := by omega
      have HKN := hid (known_any y.nm wr)
      have HTW := hid (twice_any l (some ⟨b, o, none⟩) n c k y wr HVR.out HN.out hy hbig)
      have HSU : Hid (chOk l (k + 1) = (knownB y.nm && !inB y.nm (l.take k) && decide (0 ≤ y.v) && decide (y.v ≤ 2147483647))) := by
        unfold Hid
        rw [chOk_succ, HI.out, show l.getD k Ch.nil = y from by rw [List.getD_eq_getElem?_getD, hy]; rfl]
        rfl
      have HMO : Hid (chOk l (k + 1) = false → chOk l n = false) := fun e => by
        have := chOk_mono l (k + 1) (n - (k + 1)) e
        rwa [show k + 1 + (n - (k + 1)) = n from by omega] at this
      clear hy
      generalize knownB y.nm = b1 at *
      generalize inB y.nm (l.take k) = b2 at *
      go_upto_region 6 with (first
        | (go_at_call 55; refine HKN.out.mono ?_; go_loud (rintro e w1 ⟨rfl, hw1⟩; subst w1))
        | (go_at_call 53; refine HTW.out.mono ?_; go_loud (rintro e w2 ⟨rfl, q2, hw2⟩; have HW2 := hid hw2; clear hw2))
        | fail)
      have hc1 : w2.cell? ⟨b, o + k * 2 + 1, none⟩ = some (.int .i64 y.v) := by rw [HW2.out]; exact c1
      have HQ : Hid (w2 = w.drewN (q + q2)) := hid (by rw [HW2.out, HW.out]; simp [World.drewN, Nat.add_assoc])
      clear HKN HTW c0 c1 HW2
      cases b1
      · go_wp2_with fail
        go_ret
        exact ⟨by rw [HMO.out (by rw [HSU.out]; rfl)]; rfl, q + q2, HQ.out⟩
      · cases b2
        · by_cases hv : y.v < 0
          · have hd : decide (0 ≤ y.v) = false := by simp; omega
            go_wp2_with fail
            go_ret
            exact ⟨by rw [HMO.out (by rw [HSU.out, hd]; rfl)]; rfl, q + q2, HQ.out⟩
          · have hd : decide (0 ≤ y.v) = true := by simp; omega
            by_cases hv2 : 2147483647 < y.v
            · have hd2 : decide (y.v ≤ 2147483647) = false := by simp; omega
              go_wp2_with fail
              go_ret
              exact ⟨by rw [HMO.out (by rw [HSU.out, hd, hd2]; rfl)]; rfl, q + q2, HQ.out⟩
            · have hd2 : decide (y.v ≤ 2147483647) = true := by simp; omega
              have HT : Hid (chOk l (k + 1) = true) := by unfold Hid; rw [HSU.out, hd, hd2]; rfl
              clear hd hd2 HSU HMO
              go_wp2_with fail
              go_roundw
              case rel => exact ⟨k + 1, q + q2, by first | rfl | (congr 1; omega), by omega, HQ, HT⟩
              case measure => simp only [intOfT]; omega
        · go_wp2_with fail
          go_ret
          exact ⟨by rw [HMO.out (by rw [HSU.out]; rfl)]; rfl, q + q2, HQ.out⟩
    · obtain rfl : k = n := by omega
      clear hkl
      go_wp2_with fail
      go_ret
      exact ⟨by rw [HI.out]; rfl, q, HW.out⟩
end Go.Proofs.YtdcppiknomoigaaDoor
