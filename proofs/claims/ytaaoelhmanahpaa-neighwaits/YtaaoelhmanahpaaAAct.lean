/-
  The small functions of arp and of the document's arp: Ask, Probe, Tell, isOp, isProbe, kinds, head.
-/
import Derived.Test.YtaaoelhmanahpaaAMac
namespace Go.Proofs.Ytaaoelhmanahpaa
open Go.RowKit
set_option linter.all false

def opB (n : Int) : Bool := n == 1 || n == 2
set_option maxHeartbeats 400000 in
theorem isOp_any (n : Int) (w : World) : Calls Try.prog 75 #[.int .i64 n] w fun e w' => e = .returned (.bool (opB n)) ∧ w' = w := by
  by_cases h1 : n = 1
  · subst h1
    go_enter Try.func75, Try.ntmps75
    go_wp2
    go_ret
    exact ⟨rfl, rfl⟩
  · have h1' : (n == 1) = false := by simpa using h1
    have HO : Hid (opB n = (n == 2)) := by unfold Hid opB; rw [h1']; rfl
    go_enter Try.func75, Try.ntmps75
    go_wp2
    go_ret
    exact ⟨ret_bool HO.out.symm, rfl⟩
def kindsM : Mac := ⟨0, 1, 8, 0, 6, 4⟩
theorem kindsM_ok : kindsM.ok := by simp [Mac.ok, kindsM]
theorem kinds_any (w : World) : Calls Try.prog 76 #[] w fun e w' => e = .returned kindsM.val ∧ Below w.heap.size w w' := by
  go_enter Try.func76, Try.ntmps76
  go_wp2
  exact bodyPost_ret (v := .agg #[.int .u8 0, .int .u8 1, .int .u8 8, .int .u8 0, .int .u8 6, .int .u8 4]) (by simp [results, Try.results76, go_sem]) rfl ⟨rfl, (Below.refl _ _).alloc (Nat.le_refl _) _⟩
def probeB (p : Arp) : Bool := p.op == 1 && p.si == 0
def askP (m : Mac) (src dst : Int) : Arp := ⟨1, m, src, zeroMac, dst⟩
set_option maxHeartbeats 400000 in
theorem ask_any (m : Mac) (src dst : Int) (w : World) : Calls Try.prog 66 #[m.val, .int .u32 src, .int .u32 dst] w fun e w' => e = .returned (askP m src dst).val ∧ Below w.heap.size w w' := by
  obtain ⟨s0, s1, s2, s3, s4, s5⟩ := m
  simp only [Arp.val, Mac.val, askP, zeroMac]
  go_enter Try.func66, Try.ntmps66
  go_wp2
  exact bodyPost_ret (v := .agg #[.int .i64 1, .int .u8 s0, .int .u8 s1, .int .u8 s2, .int .u8 s3, .int .u8 s4, .int .u8 s5, .int .u32 src, .int .u8 0, .int .u8 0, .int .u8 0, .int .u8 0, .int .u8 0, .int .u8 0, .int .u32 dst]) (by simp [results, Try.results66, go_sem]) rfl ⟨rfl, bpush (bpush (Below.refl _ _) _) _⟩
end Go.Proofs.Ytaaoelhmanahpaa
