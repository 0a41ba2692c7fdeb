/-
  Route: the document's Takes and Hop.
-/
import Derived.Test.YtndebeoiibadoaaRRef2
namespace Go.Proofs.Ytndebeoiibadoaa
open Go.RowKit
set_option linter.all false

set_option maxHeartbeats 1600000 in
theorem refTakes_any (g : Nat) (p : Pl) (d : Int) (w : World) (hp : p.ok) (ht : RTabW w g (!noneB p) p) :
    Calls Try.prog 18 #[.pointer (some ⟨g, 0, none⟩), .int .u32 d] w fun e w' => e = .returned (.bool (takesB p d)) ∧ Below w.heap.size w w' := by
  have HB : Hid (∀ w, Calls Try.prog 29 #[.int .u32 p.ip, .int .u32 p.m] w fun e w' => e = .returned (.tuple #[.int .u32 (bcV p.ip p.m), .bool (wideB p.m)]) ∧ w' = w) := fun w => refBroad_any p.ip p.m w hp.2.1
  have HM : Hid (takesB p d = (d == 4294967295 || (!noneB p && (d == p.ip || (wideB p.m && d == bcV p.ip p.m))))) := rfl
  have hc := ht.cell
  clear hp ht
  generalize takesB p d = R at *
  generalize bcV p.ip p.m = B at *
  generalize wideB p.m = b at *
  generalize (!noneB p) = n at *
  obtain ⟨i, m, r⟩ := p
  simp only at *
  generalize h1 : (d == 4294967295) = z at *
  generalize h2 : (d == i) = q1 at *
  generalize h3 : (d == B) = q2 at *
  cases z <;> cases n <;> cases q1 <;> cases b
  all_goals
    go_enter Try.func18, Try.ntmps18
    go_wp2_with fail
    go_quiet (first | (go_at_call 29; refine Calls.quiet_of_same (HB.out _)) | fail)
    go_wp2_with fail
    go_ret
    exact ⟨ret_bool (by rw [HM.out]; simp), bstep (Below.refl _ _) ⟨rfl, rfl, rfl, Nat.le_refl _, fun _ _ => rfl⟩⟩
end Go.Proofs.Ytndebeoiibadoaa
