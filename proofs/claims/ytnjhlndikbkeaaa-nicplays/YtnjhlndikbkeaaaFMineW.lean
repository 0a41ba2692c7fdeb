/-
  frame.Mine and the document's Mine: one answer.
-/
import Derived.Test.YtnjhlndikbkeaaaFMine
namespace Go.Proofs.Ytnjhlndikbkeaaa
open Go.RowKit
set_option linter.unusedVariables false
set_option linter.unusedSimpArgs false
set_option linter.all false

def mineB (own d s : Mac) : Bool := !(s.b0 % 2 == 1) && (decide (d = own) || decide (d = everyMac))

theorem mine_keep {w W W' : World} {A B : Array Value} (h : (∀ o, W.cell? ⟨w.heap.size, o, none⟩ = A[o]?) ∧ (∀ o, W.cell? ⟨w.heap.size + 1, o, none⟩ = B[o]?) ∧ Below w.heap.size w W ∧ w.heap.size + 1 < W.heap.size) (hb : Below W.heap.size W W') :
    (∀ o, W'.cell? ⟨w.heap.size, o, none⟩ = A[o]?) ∧ (∀ o, W'.cell? ⟨w.heap.size + 1, o, none⟩ = B[o]?) ∧ Below w.heap.size w W' ∧ w.heap.size + 1 < W'.heap.size := by
  obtain ⟨h1, h2, h3, h4⟩ := h
  have := hb.size
  exact ⟨fun o => by rw [hb.cell (p := ⟨w.heap.size, o, none⟩) (by simp only; omega), h1], fun o => by rw [hb.cell (p := ⟨w.heap.size + 1, o, none⟩) (by simp only; omega), h2], bstep h3 hb, by omega⟩
theorem mine_start (w : World) (A B : Array Value) (t t' : TypeId) : (∀ o, (((w.alloc (.cells A t)).alloc (.cells B t')).drew).cell? ⟨w.heap.size, o, none⟩ = A[o]?) ∧ (∀ o, (((w.alloc (.cells A t)).alloc (.cells B t')).drew).cell? ⟨w.heap.size + 1, o, none⟩ = B[o]?) ∧ Below w.heap.size w ((w.alloc (.cells A t)).alloc (.cells B t')).drew ∧ w.heap.size + 1 < (((w.alloc (.cells A t)).alloc (.cells B t')).drew).heap.size := by
  have h0 : ((w.alloc (.cells A t)).alloc (.cells B t')).heap[w.heap.size]? = some (.cells A t) := by rw [heap_old _ _ (by simp)]; exact heap_new _ _
  have h1 : ((w.alloc (.cells A t)).alloc (.cells B t')).heap[w.heap.size + 1]? = some (.cells B t') := by have := heap_new (w.alloc (.cells A t)) (.cells B t'); rwa [World.size_alloc] at this
  exact ⟨fun o => cell_of_heap h0 o, fun o => cell_of_heap h1 o, (bpush (bpush (Below.refl _ _) _) _).drew, heap_lt h1⟩

set_option maxRecDepth 20000 in
set_option maxHeartbeats 2000000 in
theorem mine_any (own d s : Mac) (k : Int) (a : Option Addr) (l c : Nat) (w : World) (ho : own.ok) (hd : d.ok) (hs : s.ok) :
    Calls Try.prog 60 #[own.val, frameV d s k (.slice a l c)] w fun e w' => e = .returned (.bool (mineB own d s)) ∧ Below w.heap.size w w' := by
  have HG : Hid (∀ w, Calls Try.prog 66 #[s.val] w fun e w' => e = .returned (.bool (s.b0 % 2 == 1)) ∧ Below w.heap.size w w') := fun w => group_any s w hs
  have HE : Hid (∀ w, Calls Try.prog 67 #[] w fun e w' => e = .returned everyMac.val ∧ Below w.heap.size w w') := everyone_any
  have q1 := mac_eq d own hd ho
  have q2 := mac_eq d everyMac hd every_ok
  have HM : Hid (mineB own d s = (!(s.b0 % 2 == 1) && (decide (d = own) || decide (d = everyMac)))) := rfl
  generalize mineB own d s = R at *
  generalize (s.b0 % 2 == 1) = G at *
  generalize decide (d = own) = E1 at *
  generalize decide (d = everyMac) = E2 at *
  obtain ⟨d0, d1, d2, d3, d4, d5⟩ := d
  obtain ⟨s0, s1, s2, s3, s4, s5⟩ := s
  obtain ⟨o0, o1, o2, o3, o4, o5⟩ := own
  simp only [Mac.val, frameV, everyMac] at *
  clear ho hd hs
  have HM' : Hid (R = (!G && (E1 || E2))) := HM
  clear HM
  cases G
  · cases E1
    · go_enter Try.func60, Try.ntmps60
      go_wp2
      go_region_held3 (fun w' => (∀ o, w'.cell? ⟨w.heap.size, o, none⟩ = (#[.int .u8 o0, .int .u8 o1, .int .u8 o2, .int .u8 o3, .int .u8 o4, .int .u8 o5] : Array Value)[o]?) ∧ (∀ o, w'.cell? ⟨w.heap.size + 1, o, none⟩ = (#[.int .u8 d0, .int .u8 d1, .int .u8 d2, .int .u8 d3, .int .u8 d4, .int .u8 d5, .int .u8 s0, .int .u8 s1, .int .u8 s2, .int .u8 s3, .int .u8 s4, .int .u8 s5, .int .i64 k, .slice a l c] : Array Value)[o]?) ∧ Below w.heap.size w w' ∧ w.heap.size + 1 < w'.heap.size) (first
        | exact mine_start _ _ _ _ _ | assumption | exact mine_keep (by assumption) (by assumption)) (first
        | (go_at_call 66; refine (HG.out _).mono ?_; rintro e w' ⟨rfl, hb⟩)
        | (go_at_call 67; refine (HE.out _).mono ?_; rintro e w' ⟨rfl, hb⟩))
      all_goals go_wp2
      all_goals go_ret
      all_goals exact ⟨ret_bool (by rw [HM'.out]; simp), by first | (have h := ‹_ ∧ _ ∧ Below _ _ _ ∧ _›; exact h.2.2.1) | trace_state⟩
    · go_enter Try.func60, Try.ntmps60
      go_wp2
      first | go_region_with (first
        | (go_at_call 66; refine (HG.out _).mono ?_; rintro e w' ⟨rfl, hb⟩; obtain ⟨hc1, hc2, hb3, hlt⟩ := mine_keep (mine_start _ _ _ _ _) hb; have HB := hid hb3; clear hb hb3)
        | (go_at_call 67; refine (HE.out _).mono ?_; rintro e w' ⟨rfl, hb⟩)) | fail
      all_goals go_wp2
      all_goals go_ret
      all_goals exact ⟨ret_bool (by rw [HM'.out]; simp), by first | exact HB.out | exact HB.out.drew⟩
  · go_enter Try.func60, Try.ntmps60
    go_wp2
    first | go_region_with (first
      | (rw [if_neg (show ¬ _ from by unfold undef; simp)])
      | (go_at_call 66; refine (HG.out _).mono ?_; rintro e w' ⟨rfl, hb⟩; obtain ⟨hc1, hc2, hb3, hlt⟩ := mine_keep (mine_start _ _ _ _ _) hb; have HB := hid hb3; clear hb hb3)
      | (go_at_call 67; refine (HE.out _).mono ?_; rintro e w' ⟨rfl, hb⟩)) | fail
    all_goals go_wp2
    all_goals go_ret
    all_goals exact ⟨ret_bool (by rw [HM'.out]; simp), by first | exact HB.out | exact HB.out.drew⟩
end Go.Proofs.Ytnjhlndikbkeaaa
