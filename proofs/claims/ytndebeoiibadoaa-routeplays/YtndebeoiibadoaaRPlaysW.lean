/-
  RoutePlays, walked.
-/
import Derived.Test.YtndebeoiibadoaaRSetsW
namespace Go.Proofs.Ytndebeoiibadoaa
open Go.RowKit
set_option linter.all false

def tabO (p : Pl) : Obj := .cells #[.int .u32 p.ip, .int .u32 p.m, .int .u32 p.r] 43 (0, 0)
def refO (p : Pl) : Obj := .cells #[.bool (!noneB p), .int .u32 p.ip, .int .u32 p.m, .int .u32 p.r] 45 (0, 0)
/-- two tables, each beside the document's. -/
structure P2 (w0 w : World) (g h g' h' : Nat) : Prop where
  ex : ∃ p p' : Pl, PX w0 w g h p p [(g', tabO p'), (h', refO p')] ∧ p'.ok ∧ w0.heap.size ≤ g' ∧ w0.heap.size ≤ h'
section
variable {w0 w : World} {g h g' h' : Nat}
theorem P2.below (x : P2 w0 w g h g' h') : Below w0.heap.size w0 w := by
  obtain ⟨p, p', h1, _⟩ := x.ex
  exact h1.below
theorem P2.swap (x : P2 w0 w g h g' h') : P2 w0 w g' h' g h := by
  obtain ⟨p, p', h1, ho, hg, hh⟩ := x.ex
  have f1 := h1.far _ (List.mem_cons_self ..)
  have f2 := h1.far _ (List.mem_cons_of_mem _ (List.mem_cons_self ..))
  refine ⟨p', p, ⟨h1.holds _ (List.mem_cons_self ..), h1.holds _ (List.mem_cons_of_mem _ (List.mem_cons_self ..)), ho, ho, ((Holds.nil _).cons h1.ref).cons h1.tab, ?_, h1.below, hg, hh⟩, h1.okp, h1.gg, h1.gh⟩
  intro y hy
  simp only [List.mem_cons, List.not_mem_nil, or_false] at hy
  rcases hy with rfl | rfl
  · exact ⟨fun e => f1.1 e.symm, fun e => f2.1 e.symm⟩
  · exact ⟨fun e => f1.2 e.symm, fun e => f2.2 e.symm⟩
theorem P2.one (x : P2 w0 w g h g' h') (k a m r : Int) (hk : -9223372036854775808 ≤ k ∧ k ≤ 9223372036854775807) (ha : U32 a) (hm : U32 m) (hr : U32 r) :
    Calls Try.prog 10 #[.pointer (some ⟨g, 0, none⟩), .pointer (some ⟨h, 0, none⟩), .agg #[.int .i64 k, .int .u32 a, .int .u32 m, .int .u32 r]] w fun e w' => e = .returned (.bool true) ∧ Hid (P2 w0 w' g h g' h') := by
  obtain ⟨p, p', h1, h2⟩ := x.ex
  refine (step_any h1 ⟨k, a, m, r⟩ ⟨hk, ha, hm, hr⟩).mono ?_
  rintro e w' ⟨rfl, z, H⟩
  exact ⟨rfl, z, p', H.out, h2⟩
theorem P2.other (x : P2 w0 w g h g' h') (k a m r : Int) (hk : -9223372036854775808 ≤ k ∧ k ≤ 9223372036854775807) (ha : U32 a) (hm : U32 m) (hr : U32 r) :
    Calls Try.prog 10 #[.pointer (some ⟨g', 0, none⟩), .pointer (some ⟨h', 0, none⟩), .agg #[.int .i64 k, .int .u32 a, .int .u32 m, .int .u32 r]] w fun e w' => e = .returned (.bool true) ∧ Hid (P2 w0 w' g h g' h') :=
  (x.swap.one k a m r hk ha hm hr).mono fun e w' ⟨he, H⟩ => ⟨he, H.out.swap⟩
end
theorem P2.start {w0 w1 w2 w3 w4 : World} {g g' h h' : Nat} (a1 : TabW w1 g Pl.zero ∧ w0.heap.size ≤ g ∧ Below w0.heap.size w0 w1) (a2 : TabW w2 g' Pl.zero ∧ w1.heap.size ≤ g' ∧ Below w1.heap.size w1 w2)
    (a3 : RTabW w3 h false Pl.zero ∧ w2.heap.size ≤ h ∧ Below w2.heap.size w2 w3) (a4 : RTabW w4 h' false Pl.zero ∧ w3.heap.size ≤ h' ∧ Below w3.heap.size w3 w4) : P2 w0 w4 g h g' h' := by
  obtain ⟨t1, l1, b1⟩ := a1
  obtain ⟨t2, l2, b2⟩ := a2
  obtain ⟨t3, l3, b3⟩ := a3
  obtain ⟨t4, l4, b4⟩ := a4
  have k1 := t1.lt
  have k2 := t2.lt
  have k3 := t3.lt
  have s1 := b1.size
  have s2 := b2.size
  have s3 := b3.size
  refine ⟨Pl.zero, Pl.zero, ⟨((t1.below b2).below b3).below b4, t3.below b4, Pl.zero_ok, Pl.zero_ok, ((Holds.nil _).cons t4).cons ((t2.below b3).below b4), ?_, bstep (bstep (bstep b1 b2) b3) b4, l1, by omega⟩, Pl.zero_ok, by omega, by omega⟩
  intro y hy
  simp only [List.mem_cons, List.not_mem_nil, or_false] at hy
  rcases hy with rfl | rfl
  · exact ⟨by simp only; omega, by simp only; omega⟩
  · exact ⟨by simp only; omega, by simp only; omega⟩

set_option maxRecDepth 20000 in
set_option maxHeartbeats 1600000 in
theorem routePlays_walk (xs : List OpW) (ao : Option Addr) (co : Nat) (w : World) (hx : OpsAt w ao xs) (hsx : xs.length * 24 ≤ 140737488351232) :
    Calls Try.prog 4 #[.slice ao xs.length co] w fun e w' => e = .returned (.bool true) ∧ Below w.heap.size w w' := by
  have HX := hid hx
  obtain ⟨N, hN⟩ : ∃ N, N = xs.length := ⟨_, rfl⟩
  have HN := hid hN
  rw [← hN]
  have hNi : (N : Int) ≤ 140737488351232 := by omega
  clear hx hsx hN
  go_enter Try.func4, Try.ntmps4
  go_wp2_with fail
  refine (live_any _).mono ?_
  rintro e w1 ⟨rfl, hb⟩
  have HB : Hid (Below w.heap.size w w1) := hb
  clear hb
  go_wp2_with fail
  refine (new_any _).mono ?_
  rintro e w2 ⟨g, rfl, hb⟩
  have H2 := hid hb
  clear hb
  go_wp2_with fail
  refine (new_any _).mono ?_
  rintro e w3 ⟨g', rfl, hb⟩
  have H3 := hid hb
  clear hb
  go_wp2_with fail
  refine (refNew_any _).mono ?_
  rintro e w4 ⟨h, rfl, hb⟩
  have H4 := hid hb
  clear hb
  go_wp2_with fail
  refine (refNew_any _).mono ?_
  rintro e w5 ⟨h', rfl, hb⟩
  have HP : Hid (P2 w1 w5 g h g' h') := P2.start H2.out H3.out H4.out hb
  clear hb H2 H3 H4
  go_wp2_with fail
  go_loopw [8, 9] (fun iv _ wr => ∃ i : Nat, iv = .int .i64 i ∧ Hid (i ≤ N) ∧ Hid (P2 w1 wr g h g' h')) (fun iv _ _ => N - (intOf iv).toNat)
  case atStart => exact ⟨0, rfl, Nat.zero_le _, HP⟩
  case round =>
    clear HP
    obtain ⟨i, rfl, HI, HP⟩ := hrel
    by_cases hi : i < N
    · have hi2 : (i : Int) < N := by omega
      have hix : i < xs.length := by rw [← HN.out]; exact hi
      obtain ⟨ob, oo, hoa, k1, k2, k3, k4, kk⟩ := HX.out i hix
      have hbw : Below w.heap.size w wr := bstep HB.out HP.out.below
      have hcell : ∀ p u, w.cell? p = some u → wr.cell? p = some u := fun p u h => by rw [hbw.cell (World.block_lt_of_cell? w p h)]; exact h
      have o1 := hcell _ _ k1
      have o2 := hcell _ _ k2
      have o3 := hcell _ _ k3
      have o4 := hcell _ _ k4
      subst hoa
      obtain ⟨q1, q2, q3, q4⟩ := kk
      have HS1 := hid (HP.out.one _ _ _ _ q1 q2 q3 q4)
      have HS2 := hid (HP.out.other _ _ _ _ q1 q2 q3 q4)
      clear k1 k2 k3 k4 q1 q2 q3 q4 hcell hbw hix HP
      generalize (xs.getD i OpW.nil).k = k at *
      generalize (xs.getD i OpW.nil).a = a at *
      generalize (xs.getD i OpW.nil).m = m at *
      generalize (xs.getD i OpW.nil).r = r at *
      by_cases hm0 : (i : Int) % 4 = 3
      · clear HS1
        have hm : ((i : Int) % 4 == 3) = true := by simp [hm0]
        clear hm0
        go_wp2_with (first
          | (go_at_call 10; refine HS2.out.mono ?_; go_loud (rintro e w6 ⟨rfl, HP⟩; clear HS2))
          | fail)
        clear hm
        go_roundw
        case rel => exact ⟨i + 1, by go_num, by unfold Hid; omega, HP⟩
        case measure => simp [intOf]; omega
      · clear HS2
        have hm : ((i : Int) % 4 == 3) = false := by simp [hm0]
        clear hm0
        go_wp2_with (first
          | (go_at_call 10; refine HS1.out.mono ?_; go_loud (rintro e w6 ⟨rfl, HP⟩; clear HS1))
          | fail)
        clear hm
        go_roundw
        case rel => exact ⟨i + 1, by go_num, by unfold Hid; omega, HP⟩
        case measure => simp [intOf]; omega
    · have hie : i = N := by have := HI.out; omega
      have hi2 : ¬ (i : Int) < N := by omega
      clear hie HI hi
      go_wp2_with fail
      refine (HP.out.one 5 0 0 0 (by omega) (u32_lit _) (u32_lit _) (u32_lit _)).mono ?_
      rintro e v1 ⟨rfl, HP1⟩
      clear HP
      go_wp2_with fail
      refine (HP1.out.other 5 0 0 0 (by omega) (u32_lit _) (u32_lit _) (u32_lit _)).mono ?_
      rintro e v2 ⟨rfl, HP2⟩
      clear HP1
      go_wp2_with fail
      refine (HP2.out.one 4 167772161 0 0 (by omega) (u32_lit _) (u32_lit _) (u32_lit _)).mono ?_
      rintro e v3 ⟨rfl, HP3⟩
      clear HP2
      go_wp2_with fail
      refine (HP3.out.other 4 167772161 0 0 (by omega) (u32_lit _) (u32_lit _) (u32_lit _)).mono ?_
      rintro e v4 ⟨rfl, HP4⟩
      clear HP3
      go_wp2_with fail
      go_ret
      exact ⟨rfl, bstep HB.out HP4.out.below⟩
end Go.Proofs.Ytndebeoiibadoaa
