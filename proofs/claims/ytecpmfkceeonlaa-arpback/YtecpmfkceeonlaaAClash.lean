/-
  Clash: the program's and the document's.
-/
import Derived.Test.YtecpmfkceeonlaaAAct2
namespace Go.Proofs.Ytecpmfkceeonlaa
open Go.RowKit
set_option linter.all false

theorem two_keep {w W W' : World} {A B : Array Value} (h : (∀ o, W.cell? ⟨w.heap.size, o, none⟩ = A[o]?) ∧ (∀ o, W.cell? ⟨w.heap.size + 1, o, none⟩ = B[o]?) ∧ Below w.heap.size w W ∧ w.heap.size + 1 < W.heap.size) (hb : Below W.heap.size W W') :
    (∀ o, W'.cell? ⟨w.heap.size, o, none⟩ = A[o]?) ∧ (∀ o, W'.cell? ⟨w.heap.size + 1, o, none⟩ = B[o]?) ∧ Below w.heap.size w W' ∧ w.heap.size + 1 < W'.heap.size := by
  obtain ⟨h1, h2, h3, h4⟩ := h
  have := hb.size
  exact ⟨fun o => by rw [hb.cell (p := ⟨w.heap.size, o, none⟩) (by simp only; omega), h1], fun o => by rw [hb.cell (p := ⟨w.heap.size + 1, o, none⟩) (by simp only; omega), h2], bstep h3 hb, by omega⟩
theorem two_start0 (w : World) (A B : Array Value) (t t' : TypeId) : (∀ o, ((w.alloc (.cells A t)).alloc (.cells B t')).cell? ⟨w.heap.size, o, none⟩ = A[o]?) ∧ (∀ o, ((w.alloc (.cells A t)).alloc (.cells B t')).cell? ⟨w.heap.size + 1, o, none⟩ = B[o]?) ∧ Below w.heap.size w ((w.alloc (.cells A t)).alloc (.cells B t')) ∧ w.heap.size + 1 < ((w.alloc (.cells A t)).alloc (.cells B t')).heap.size := by
  have h0 : ((w.alloc (.cells A t)).alloc (.cells B t')).heap[w.heap.size]? = some (.cells A t) := by rw [heap_old _ _ (by simp)]; exact heap_new _ _
  have h1 : ((w.alloc (.cells A t)).alloc (.cells B t')).heap[w.heap.size + 1]? = some (.cells B t') := by have := heap_new (w.alloc (.cells A t)) (.cells B t'); rwa [World.size_alloc] at this
  exact ⟨fun o => cell_of_heap h0 o, fun o => cell_of_heap h1 o, (bpush (bpush (Below.refl _ _) _) _), heap_lt h1⟩
theorem two_start (w : World) (A B : Array Value) (t t' : TypeId) : (∀ o, (((w.alloc (.cells A t)).alloc (.cells B t')).drew).cell? ⟨w.heap.size, o, none⟩ = A[o]?) ∧ (∀ o, (((w.alloc (.cells A t)).alloc (.cells B t')).drew).cell? ⟨w.heap.size + 1, o, none⟩ = B[o]?) ∧ Below w.heap.size w ((w.alloc (.cells A t)).alloc (.cells B t')).drew ∧ w.heap.size + 1 < (((w.alloc (.cells A t)).alloc (.cells B t')).drew).heap.size := by
  obtain ⟨a, b, c, d⟩ := two_start0 w A B t t'
  exact ⟨a, b, c.drew, d⟩

def clashB (own : Mac) (ip : Int) (p : Arp) : Bool := !decide (p.s = own) && (p.si == ip || (probeB p && p.di == ip))

set_option maxRecDepth 20000 in
set_option maxHeartbeats 2000000 in
theorem refClash_any (own : Mac) (ip : Int) (p : Arp) (w : World) (ho : own.ok) (hp : p.ok) :
    Calls Try.prog 24 #[own.val, .int .u32 ip, p.val] w fun e w' => e = .returned (.bool (clashB own ip p)) ∧ Below w.heap.size w w' := by
  have q1 := mac_eq p.s own hp.2.1 ho
  have HM : Hid (clashB own ip p = (!decide (p.s = own) && (p.si == ip || ((p.op == 1 && p.si == 0) && p.di == ip)))) := rfl
  clear hp ho
  generalize clashB own ip p = R at *
  generalize decide (p.s = own) = E at *
  obtain ⟨o, ⟨s0, s1, s2, s3, s4, s5⟩, si, ⟨d0, d1, d2, d3, d4, d5⟩, di⟩ := p
  obtain ⟨o0, o1, o2, o3, o4, o5⟩ := own
  simp only [Mac.val, Arp.val] at *
  cases E
  · generalize h1 : (si == ip) = b1 at *
    generalize h2 : (o == 1) = b2 at *
    generalize h3 : (si == 0) = b3 at *
    generalize h4 : (di == ip) = b4 at *
    cases b1 <;> cases b2 <;> cases b3
    all_goals
      go_enter Try.func24, Try.ntmps24
      go_wp2
      go_ret
      exact ⟨ret_bool (by rw [HM.out]; simp), bpush (bpush (Below.refl _ _) _) _⟩
  · go_enter Try.func24, Try.ntmps24
    go_wp2
    go_ret
    exact ⟨ret_bool (by rw [HM.out]; rfl), bpush (bpush (Below.refl _ _) _) _⟩

set_option maxRecDepth 20000 in
set_option maxHeartbeats 2000000 in
theorem clash_any (own : Mac) (ip : Int) (p : Arp) (w : World) (ho : own.ok) (hp : p.ok) :
    Calls Try.prog 23 #[own.val, .int .u32 ip, p.val] w fun e w' => e = .returned (.bool (clashB own ip p)) ∧ Below w.heap.size w w' := by
  have q1 := mac_eq p.s own hp.2.1 ho
  have HP : Hid (∀ w, Calls Try.prog 36 #[p.val] w fun e w' => e = .returned (.bool (probeB p)) ∧ Below w.heap.size w w') := fun w => isProbe_any p w
  have HM : Hid (clashB own ip p = (!decide (p.s = own) && (p.si == ip || (probeB p && p.di == ip)))) := rfl
  clear hp ho
  generalize clashB own ip p = R at *
  generalize probeB p = B at *
  generalize decide (p.s = own) = E at *
  obtain ⟨o, ⟨s0, s1, s2, s3, s4, s5⟩, si, ⟨d0, d1, d2, d3, d4, d5⟩, di⟩ := p
  obtain ⟨o0, o1, o2, o3, o4, o5⟩ := own
  simp only [Mac.val, Arp.val] at *
  generalize h1 : (si == ip) = b1 at *
  generalize h4 : (di == ip) = b4 at *
  cases E <;> cases b1 <;> cases B
  all_goals
    go_enter Try.func23, Try.ntmps23
    go_wp2_with (first
      | (go_at_call 36; refine (HP.out _).mono ?_; rintro e w' ⟨rfl, hb⟩; obtain ⟨hc1, hc2, hb3, hlt⟩ := two_keep (two_start0 _ _ _ _ _) hb; have HB := hid hb3; clear hb hb3) | fail)
    go_ret
    exact ⟨ret_bool (by rw [HM.out]; simp), by first | exact HB.out | exact HB.out.drew | exact bpush (bpush (Below.refl _ _) _) _ | exact (bpush (bpush (Below.refl _ _) _) _).drew⟩
end Go.Proofs.Ytecpmfkceeonlaa
