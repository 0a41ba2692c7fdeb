/-
  card.Arrive.
-/
import Derived.Test.YtnjhlndikbkeaaaCRing
namespace Go.Proofs.Ytnjhlndikbkeaaa
open Go.RowKit
set_option linter.all false

theorem fill_sl (g o : Nat) (C : Array Value) (t : TypeId) (pt : Part) (w : World) (hc : w.heap[g]? = some (.cells C t (0, 0))) (hs : o + 1516 ≤ C.size) (hok : pt.ok w) (hl : pt.zs.length ≤ 1514) (u : Value) (hu : C[o]? = some u) :
    Calls Try.prog 42 #[.pointer (some ⟨g, o, none⟩), .slice pt.a pt.zs.length pt.c] w fun e w' => e = .returned (.tuple #[]) ∧ w'.cell? ⟨g, o, none⟩ = some u ∧ w'.frozen? ⟨g, o, none⟩ = false ∧ Hid (∀ b, (w'.setCell ⟨g, o, none⟩ (.bool b)).heap[g]? = some (.cells (filledC C o pt.zs b) t (0, 0))) ∧ Hid (But g w w') := by
  refine (show Calls Try.prog 42 #[.pointer (some ⟨g, o, none⟩), .slice pt.a pt.zs.length pt.c] w _ from fill_any g o C t pt w hc hs hok hl).mono ?_
  rintro e w' ⟨rfl, hg, hb⟩
  refine ⟨rfl, cellHeap hg o ?_, frozen_of_heap hg o, fun b => heap_setCell hg, hb⟩
  rw [Array.getElem?_setIfInBounds_ne (by omega), List.getElem?_toArray, splice_at _ _ _ _ (by rw [u8s_len]; simp; omega), if_pos (by omega), Array.getElem?_toList, hu]
theorem empty_sl (g o : Nat) (C : Array Value) (t : TypeId) (w : World) (hc : w.heap[g]? = some (.cells C t (0, 0))) (hs : o + 1516 ≤ C.size) (u : Value) (hu : C[o]? = some u) :
    Calls Try.prog 47 #[.pointer (some ⟨g, o, none⟩)] w fun e w' => e = .returned (.tuple #[]) ∧ w'.cell? ⟨g, o, none⟩ = some u ∧ w'.frozen? ⟨g, o, none⟩ = false ∧ Hid (∀ b, (w'.setCell ⟨g, o, none⟩ (.bool b)).heap[g]? = some (.cells (emptyC C o b) t (0, 0))) ∧ Hid (But g w w') := by
  refine (empty_any g o C t _ w hc (Array.getElem?_eq_getElem (by omega))).mono ?_
  rintro e w' ⟨rfl, hg, hb⟩
  refine ⟨rfl, cellHeap hg o ?_, frozen_of_heap hg o, fun b => heap_setCell hg, hb⟩
  rw [Array.getElem?_setIfInBounds_ne (by omega), hu]
/-- turn of a card's ring, k = 0: the Rx ring's, k = 2: the Tx ring's; o: another cell that is laid next. -/
theorem turn_box (c k g m nx : Nat) (B : Array Value) (w : World) (hc : w.heap[c]? = some (.cells B 75 (0, 0))) (c1 : B[k]? = some (.slice (some ⟨g, 0, none⟩) m m)) (c2 : B[k + 1]? = some (.int .i64 nx)) (h3 : nx < m) (h4 : m ≤ 64) (o : Nat) (ho : o ≠ k + 1) (u : Value) (hu : B[o]? = some u) :
    Calls Try.prog 43 #[.pointer (some ⟨c, k, none⟩)] w fun e w' => e = .returned (.tuple #[]) ∧ w'.cell? ⟨c, o, none⟩ = some u ∧ w'.frozen? ⟨c, o, none⟩ = false ∧ Hid (w'.heap[c]? = some (.cells (B.setIfInBounds (k + 1) (.int .i64 ((nx + 1) % m : Nat))) 75 (0, 0))) ∧ Hid (But c w w') := by
  refine (turn_any c k g m nx B _ w hc c1 c2 h3 h4).mono ?_
  rintro e w' ⟨rfl, hg, hb⟩
  exact ⟨rfl, cellHeap hg o (by rw [Array.getElem?_setIfInBounds_ne (by omega), hu]), frozen_of_heap hg o, hg, hb⟩
/-- what a frame that comes does. -/
def CS.came (S : CS) (zs : List Int) : CS := { S with R := S.R.set S.nr ⟨false, zs⟩, nr := (S.nr + 1) % S.R.length, ci := S.ci + 1 }
def CS.drop (S : CS) : CS := { S with cd := S.cd + 1 }
theorem mod_lt' (a m : Nat) (h : 0 < m) : a % m < m := Nat.mod_lt _ h
/-- the box with other numbers in it. -/
theorem box_came (S : CS) (zs : List Int) (g h : Nat) : ((S.box g h).setIfInBounds 1 (.int .i64 ((S.nr + 1) % S.R.length : Nat))).setIfInBounds 4 (.int .i64 (S.ci + 1 : Nat)) = (S.came zs).box g h := by
  simp [CS.box, CS.came]
theorem box_drop (S : CS) (g h : Nat) : (S.box g h).setIfInBounds 5 (.int .i64 (S.cd + 1 : Nat)) = S.drop.box g h := by
  simp [CS.box, CS.drop]
set_option maxHeartbeats 1000000 in
theorem arrive_len (v : Value) (a : Option Addr) (l cc : Nat) (w : World) (h : l = 0 ∨ 1514 < l) (hl : l ≤ 9223372036854775807) :
    Calls Try.prog 14 #[v, .slice a l cc] w fun e w' => e = .returned (.bool false) ∧ w' = w := by
  rcases h with rfl | h
  · go_enter Try.func14, Try.ntmps14
    go_wp2
    go_ret
    exact ⟨rfl, rfl⟩
  · have h1 : ¬ (l : Int) = 0 := by omega
    have h2 : (1514 : Int) < l := by omega
    have h3 : ¬ l = 0 := by omega
    go_enter Try.func14, Try.ntmps14
    go_wp2
    go_ret
    exact ⟨rfl, rfl⟩
set_option maxRecDepth 20000 in
set_option maxHeartbeats 1000000 in
theorem arrive_full (c g h : Nat) (S : CS) (p : Pl) (a : Option Addr) (l cc : Nat) (w : World) (x : CardW w c g h S) (hl1 : 1 ≤ l) (hl2 : l ≤ 1514) (hp : S.R[S.nr]? = some p) (hb : p.b = false) (hn : S.cd < 4611686018427387904) :
    Calls Try.prog 14 #[.pointer (some ⟨c, 0, none⟩), .slice a l cc] w fun e w' => e = .returned (.bool false) ∧ CardW w' c g h S.drop ∧ Only (CardK c g h) w w' := by
  have HX := hid x
  have hcb : w.cell? ⟨g, S.nr * 1516, none⟩ = some (.bool false) := by
    obtain ⟨C, h1, h2, h3⟩ := x.rx
    rw [← hb]; exact cellHeap h1 _ (h3 _ _ hp).1
  have h5 := (boxC x.box).c5
  have hfz := (boxC x.box).fz
  have h1 : ¬ (l : Int) = 0 := by omega
  have h2 : ¬ (1514 : Int) < l := by omega
  have h3 : ¬ l = 0 := by omega
  clear x hp hb
  go_enter Try.func14, Try.ntmps14
  go_wp2_with (first | (go_at_call 41; refine (upcoming_any c 0 g _ _ _ (boxC HX.out.box).c0 (boxC HX.out.box).c1 HX.out.r1).mono ?_; rintro e w' ⟨rfl, n, rfl⟩))
  go_ret
  refine ⟨rfl, ⟨?_, HX.out.rx.keep (Below.heap_setCell _ _ _ _ (by simpa using HX.out.cg.symm)), HX.out.tx.keep (Below.heap_setCell _ _ _ _ (by simpa using HX.out.ch.symm)), HX.out.r1, HX.out.r2, HX.out.t1, HX.out.t2, HX.out.gh, HX.out.cg, HX.out.ch⟩, (Only.of_below (drewN_below w n)).trans (Only.of_but (But.setCell _ _ _ _) (Or.inl rfl))⟩
  have := heap_setCell (w := w.drewN n) (j := 5) (v := .int .i64 (S.cd + 1 : Nat)) HX.out.box
  rw [box_drop] at this
  exact this
set_option maxRecDepth 20000 in
set_option maxHeartbeats 1000000 in
theorem arrive_yes (c g h : Nat) (S : CS) (p : Pl) (pt : Part) (w : World) (x : CardW w c g h S) (hok : pt.ok w) (hl1 : 1 ≤ pt.zs.length) (hl2 : pt.zs.length ≤ 1514) (hp : S.R[S.nr]? = some p) (hb : p.b = true) (hn : S.ci < 4611686018427387904) :
    Calls Try.prog 14 #[.pointer (some ⟨c, 0, none⟩), pt.val] w fun e w' => e = .returned (.bool true) ∧ CardW w' c g h (S.came pt.zs) ∧ Only (CardK c g h) w w' := by
  obtain ⟨C, hC, hsz, hpl⟩ := x.rx
  have hcb : w.cell? ⟨g, S.nr * 1516, none⟩ = some (.bool true) := by
    rw [← hb]; exact cellHeap hC _ (hpl _ _ hp).1
  have HX := hid x
  have HC := hid hC
  have HOK := hid hok
  have HSZ := hid hsz
  have HPL := hid hpl
  have hr1 := x.r1
  have hr2 := x.r2
  have HL := hid hl2
  have hin : S.nr * 1516 + 1516 ≤ C.size := by rw [hsz]; exact (by omega : S.nr * 1516 + 1516 ≤ S.R.length * 1516)
  have HIN := hid hin
  have h4 := (boxC x.box).c4
  have HV : Hid (pt.val = .slice pt.a pt.zs.length pt.c) := rfl
  have h1 : ¬ (pt.zs.length : Int) = 0 := by omega
  have h2 : ¬ (1514 : Int) < pt.zs.length := by omega
  have h3 : ¬ pt.zs.length = 0 := by omega
  have HU := hid (hpl _ _ hp).1
  rw [hb] at HU
  clear x hp hb hC hsz hpl hok hl2 hin h4
  show Calls Try.prog 14 #[.pointer (some ⟨c, 0, none⟩), .slice pt.a pt.zs.length pt.c] w _
  go_enter Try.func14, Try.ntmps14
  go_wp2_with (first
    | (go_at_call 41; refine (upcoming_any c 0 g _ _ _ (boxC HX.out.box).c0 (boxC HX.out.box).c1 HX.out.r1).mono ?_; rintro e w' ⟨rfl, n, rfl⟩)
    | (go_at_call 42; refine (fill_sl g (S.nr * 1516) C 102 pt (w.drewN n) HC.out HIN.out (Part.ok_drewN HOK.out n) HL.out _ HU.out).mono ?_; rintro e w1 ⟨rfl, hc1, hz1, HG1, HB1⟩)
    | (go_at_call 43; refine (turn_box c 0 g _ _ (S.box g h) _ (by rw [Below.heap_setCell _ _ _ _ (by simpa using HX.out.cg)]; exact (HB1.out.block c HX.out.cg (heap_lt HX.out.box)).trans HX.out.box) rfl rfl HX.out.r1 HX.out.r2 4 (by omega) (.int .i64 S.ci) rfl).mono ?_; rintro e w2 ⟨rfl, h42, hz2, HG2, HB2⟩))
  go_ret
  have O1 : Only (CardK c g h) w w1 := (Only.of_below (drewN_below w n)).trans (Only.of_but HB1.out (Or.inr (Or.inl rfl)))
  have O2 : Only (CardK c g h) w w2 := (O1.trans (Only.of_but (But.setCell _ _ _ _) (Or.inr (Or.inl rfl)))).trans (Only.of_but HB2.out (Or.inl rfl))
  have hm := Nat.mod_lt (S.nr + 1) (show 0 < S.R.length by omega)
  have g2 : w2.heap[g]? = some (.cells (filledC C (S.nr * 1516) pt.zs false) 102 (0, 0)) := (HB2.out.block g HX.out.cg.symm (by have := O1.size; have := HX.out.rx.lt; simp [World.setCell]; omega)).trans (HG1.out false)
  have t2 : w2.heap[h]? = w.heap[h]? := by
    rw [HB2.out.block h HX.out.ch.symm (by have := O1.size; have := HX.out.tx.lt; simp [World.setCell]; omega), Below.heap_setCell _ _ _ _ (by simpa using HX.out.gh.symm)]
    exact HB1.out.block h HX.out.gh.symm HX.out.tx.lt
  refine ⟨rfl, ⟨?_, ?_, ?_, by simpa [CS.came] using hm, by simpa [CS.came] using hr2, HX.out.t1, HX.out.t2, HX.out.gh, HX.out.cg, HX.out.ch⟩, O2.trans (Only.of_but (But.setCell _ _ _ _) (Or.inl rfl))⟩
  · rw [← box_came]
    exact heap_setCell HG2.out
  · exact RingAt.fill (w := w) HSZ.out HPL.out hr1 HL.out HOK.out.1 (by rw [Below.heap_setCell _ _ _ _ (by simpa using HX.out.cg.symm)]; exact g2)
  · exact HX.out.tx.keep (by rw [Below.heap_setCell _ _ _ _ (by simpa using HX.out.ch.symm)]; exact t2)
end Go.Proofs.Ytnjhlndikbkeaaa
