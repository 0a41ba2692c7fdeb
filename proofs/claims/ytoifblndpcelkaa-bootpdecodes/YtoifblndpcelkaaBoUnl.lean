/-
  bootp.unlayable.
-/
import Derived.Test.YtoifblndpcelkaaBoLay
namespace Go.Proofs.Ytoifblndpcelkaa
open Go.RowKit
set_option linter.all false

def badB (m : Bp) : Bool := !(decide (m.op = 1) || decide (m.op = 2)) || !(decide (0 ≤ m.hops) && decide (m.hops ≤ 255)) || !(decide (0 ≤ m.secs) && decide (m.secs ≤ 65535)) || zeroIn m.sname || zeroIn m.file
def longB (m : Bp) : Bool := decide (63 < m.sname.size) || decide (127 < m.file.size)
/-- why a message can't be laid, its options but the overload aside. -/
def unE (m : Bp) (ov : Bool) : Int := if badB m then 160 else if longB m then 2 else if ov then 162 else 0
set_option maxRecDepth 20000 in
set_option maxHeartbeats 4000000 in
theorem unlayable_any (m : Bp) (a : Option Addr) (c : Nat) (os : List OP) (w : World) (h : OV w a os) :
    Calls Try.prog 41 #[m.val (.slice a os.length c)] w fun e w' => e = .returned (.int .i64 (unE m (ovB os))) ∧ Hid (Below w.heap.size w w') := by
  have HC := hid (fun wx (hw : Below w.heap.size w wx) => containsFunc_any a c os wx (h.below hw))
  have H1 := hid (fun w => isOp_any m.op w)
  have H2 := hid (fun w => isUpTo_any m.hops 255 w)
  have H3 := hid (fun w => isUpTo_any m.secs 65535 w)
  have H4 := hid (fun w => hasZero_any m.sname w)
  have H5 := hid (fun w => hasZero_any m.file w)
  unfold unE badB longB
  generalize (decide (m.op = 1) || decide (m.op = 2)) = B1 at *
  generalize (decide (0 ≤ m.hops) && decide (m.hops ≤ 255)) = B2 at *
  generalize (decide (0 ≤ m.secs) && decide (m.secs ≤ 65535)) = B3 at *
  generalize zeroIn m.sname = B4 at *
  generalize zeroIn m.file = B5 at *
  generalize ovB os = B6 at *
  generalize os.length = n at *
  clear h
  obtain ⟨op, hops, xid, secs, all, ci, yi, si, gi, ⟨b0, b1, b2, b3, b4, b5⟩, sname, file⟩ := m
  simp only [Bp.val, Bp.cells] at *
  unfold fOver at *

  cases B1
  case false =>
    go_enter Try.func41, Try.ntmps41
    go_wp2_with (first
      | (go_at_call 61; refine (H1.out _).mono ?_; rintro e w1 ⟨rfl, hw⟩; subst w1)
      | (go_at_call_of 69 (Value.int IntKind.i64 255); refine (H2.out _).mono ?_; rintro e w1 ⟨rfl, hw⟩; subst w1)
      | (go_at_call_of 69 (Value.int IntKind.i64 65535); refine (H3.out _).mono ?_; rintro e w1 ⟨rfl, hw⟩; subst w1)
      | (go_at_call_of 70 (Value.string sname); refine (H4.out _).mono ?_; rintro e w1 ⟨rfl, hw⟩; subst w1)
      | (go_at_call_of 70 (Value.string file); refine (H5.out _).mono ?_; rintro e w1 ⟨rfl, hw⟩; subst w1)
      | (go_at_call 64; refine (HC.out _ (bpush (Below.refl _ _) _)).mono ?_; rintro e w1 ⟨rfl, HB⟩)
      | fail)
    go_ret
    exact ⟨by first | rfl | simp_all, bpush (Below.refl _ _) _⟩
  case true =>
    cases B2
    case false =>
      go_enter Try.func41, Try.ntmps41
      go_wp2_with (first
        | (go_at_call 61; refine (H1.out _).mono ?_; rintro e w1 ⟨rfl, hw⟩; subst w1)
        | (go_at_call_of 69 (Value.int IntKind.i64 255); refine (H2.out _).mono ?_; rintro e w1 ⟨rfl, hw⟩; subst w1)
        | (go_at_call_of 69 (Value.int IntKind.i64 65535); refine (H3.out _).mono ?_; rintro e w1 ⟨rfl, hw⟩; subst w1)
        | (go_at_call_of 70 (Value.string sname); refine (H4.out _).mono ?_; rintro e w1 ⟨rfl, hw⟩; subst w1)
        | (go_at_call_of 70 (Value.string file); refine (H5.out _).mono ?_; rintro e w1 ⟨rfl, hw⟩; subst w1)
        | (go_at_call 64; refine (HC.out _ (bpush (Below.refl _ _) _)).mono ?_; rintro e w1 ⟨rfl, HB⟩)
        | fail)
      go_ret
      exact ⟨by first | rfl | simp_all, bpush (Below.refl _ _) _⟩
    case true =>
      cases B3
      case false =>
        go_enter Try.func41, Try.ntmps41
        go_wp2_with (first
          | (go_at_call 61; refine (H1.out _).mono ?_; rintro e w1 ⟨rfl, hw⟩; subst w1)
          | (go_at_call_of 69 (Value.int IntKind.i64 255); refine (H2.out _).mono ?_; rintro e w1 ⟨rfl, hw⟩; subst w1)
          | (go_at_call_of 69 (Value.int IntKind.i64 65535); refine (H3.out _).mono ?_; rintro e w1 ⟨rfl, hw⟩; subst w1)
          | (go_at_call_of 70 (Value.string sname); refine (H4.out _).mono ?_; rintro e w1 ⟨rfl, hw⟩; subst w1)
          | (go_at_call_of 70 (Value.string file); refine (H5.out _).mono ?_; rintro e w1 ⟨rfl, hw⟩; subst w1)
          | (go_at_call 64; refine (HC.out _ (bpush (Below.refl _ _) _)).mono ?_; rintro e w1 ⟨rfl, HB⟩)
          | fail)
        go_ret
        exact ⟨by first | rfl | simp_all, bpush (Below.refl _ _) _⟩
      case true =>
        cases B4
        case true =>
          go_enter Try.func41, Try.ntmps41
          go_wp2_with (first
            | (go_at_call 61; refine (H1.out _).mono ?_; rintro e w1 ⟨rfl, hw⟩; subst w1)
            | (go_at_call_of 69 (Value.int IntKind.i64 255); refine (H2.out _).mono ?_; rintro e w1 ⟨rfl, hw⟩; subst w1)
            | (go_at_call_of 69 (Value.int IntKind.i64 65535); refine (H3.out _).mono ?_; rintro e w1 ⟨rfl, hw⟩; subst w1)
            | (go_at_call_of 70 (Value.string sname); refine (H4.out _).mono ?_; rintro e w1 ⟨rfl, hw⟩; subst w1)
            | (go_at_call_of 70 (Value.string file); refine (H5.out _).mono ?_; rintro e w1 ⟨rfl, hw⟩; subst w1)
            | (go_at_call 64; refine (HC.out _ (bpush (Below.refl _ _) _)).mono ?_; rintro e w1 ⟨rfl, HB⟩)
            | fail)
          go_ret
          exact ⟨by first | rfl | simp_all, bpush (Below.refl _ _) _⟩
        case false =>
          cases B5
          case true =>
            go_enter Try.func41, Try.ntmps41
            go_wp2_with (first
              | (go_at_call 61; refine (H1.out _).mono ?_; rintro e w1 ⟨rfl, hw⟩; subst w1)
              | (go_at_call_of 69 (Value.int IntKind.i64 255); refine (H2.out _).mono ?_; rintro e w1 ⟨rfl, hw⟩; subst w1)
              | (go_at_call_of 69 (Value.int IntKind.i64 65535); refine (H3.out _).mono ?_; rintro e w1 ⟨rfl, hw⟩; subst w1)
              | (go_at_call_of 70 (Value.string sname); refine (H4.out _).mono ?_; rintro e w1 ⟨rfl, hw⟩; subst w1)
              | (go_at_call_of 70 (Value.string file); refine (H5.out _).mono ?_; rintro e w1 ⟨rfl, hw⟩; subst w1)
              | (go_at_call 64; refine (HC.out _ (bpush (Below.refl _ _) _)).mono ?_; rintro e w1 ⟨rfl, HB⟩)
              | fail)
            go_ret
            exact ⟨by first | rfl | simp_all, bpush (Below.refl _ _) _⟩
          case false =>
            by_cases hs : 63 < sname.size
            · have hs1 : (63 : Int) < (sname.size : Int) := by omega
              go_enter Try.func41, Try.ntmps41
              go_wp2_with (first
                | (go_at_call 61; refine (H1.out _).mono ?_; rintro e w1 ⟨rfl, hw⟩; subst w1)
                | (go_at_call_of 69 (Value.int IntKind.i64 255); refine (H2.out _).mono ?_; rintro e w1 ⟨rfl, hw⟩; subst w1)
                | (go_at_call_of 69 (Value.int IntKind.i64 65535); refine (H3.out _).mono ?_; rintro e w1 ⟨rfl, hw⟩; subst w1)
                | (go_at_call_of 70 (Value.string sname); refine (H4.out _).mono ?_; rintro e w1 ⟨rfl, hw⟩; subst w1)
                | (go_at_call_of 70 (Value.string file); refine (H5.out _).mono ?_; rintro e w1 ⟨rfl, hw⟩; subst w1)
                | (go_at_call 64; refine (HC.out _ (bpush (Below.refl _ _) _)).mono ?_; rintro e w1 ⟨rfl, HB⟩)
                | fail)
              go_ret
              exact ⟨by first | rfl | simp_all, bpush (Below.refl _ _) _⟩
            · have hs1 : ¬ (63 : Int) < (sname.size : Int) := by omega
              by_cases hf : 127 < file.size
              · have hf1 : (127 : Int) < (file.size : Int) := by omega
                go_enter Try.func41, Try.ntmps41
                go_wp2_with (first
                  | (go_at_call 61; refine (H1.out _).mono ?_; rintro e w1 ⟨rfl, hw⟩; subst w1)
                  | (go_at_call_of 69 (Value.int IntKind.i64 255); refine (H2.out _).mono ?_; rintro e w1 ⟨rfl, hw⟩; subst w1)
                  | (go_at_call_of 69 (Value.int IntKind.i64 65535); refine (H3.out _).mono ?_; rintro e w1 ⟨rfl, hw⟩; subst w1)
                  | (go_at_call_of 70 (Value.string sname); refine (H4.out _).mono ?_; rintro e w1 ⟨rfl, hw⟩; subst w1)
                  | (go_at_call_of 70 (Value.string file); refine (H5.out _).mono ?_; rintro e w1 ⟨rfl, hw⟩; subst w1)
                  | (go_at_call 64; refine (HC.out _ (bpush (Below.refl _ _) _)).mono ?_; rintro e w1 ⟨rfl, HB⟩)
                  | fail)
                go_ret
                exact ⟨by first | rfl | simp_all, bpush (Below.refl _ _) _⟩
              · have hf1 : ¬ (127 : Int) < (file.size : Int) := by omega
                have e1 : decide (63 < sname.size) = false := by simpa using hs
                have e2 : decide (127 < file.size) = false := by simpa using hf
                rw [e1, e2]
                cases B6
                all_goals
                  go_enter Try.func41, Try.ntmps41
                  go_wp2_with (first
                    | (go_at_call 61; refine (H1.out _).mono ?_; rintro e w1 ⟨rfl, hw⟩; subst w1)
                    | (go_at_call_of 69 (Value.int IntKind.i64 255); refine (H2.out _).mono ?_; rintro e w1 ⟨rfl, hw⟩; subst w1)
                    | (go_at_call_of 69 (Value.int IntKind.i64 65535); refine (H3.out _).mono ?_; rintro e w1 ⟨rfl, hw⟩; subst w1)
                    | (go_at_call_of 70 (Value.string sname); refine (H4.out _).mono ?_; rintro e w1 ⟨rfl, hw⟩; subst w1)
                    | (go_at_call_of 70 (Value.string file); refine (H5.out _).mono ?_; rintro e w1 ⟨rfl, hw⟩; subst w1)
                    | (go_at_call 64; refine (HC.out _ (bpush (Below.refl _ _) _)).mono ?_; rintro e w1 ⟨rfl, HB⟩)
                    | fail)
                  go_ret
                  exact ⟨by first | rfl | simp_all, bstep (bpush (Below.refl _ _) _) HB.out⟩
end Go.Proofs.Ytoifblndpcelkaa
