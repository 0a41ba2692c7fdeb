/-
  card.Depart, Give, Lay.
-/
import Derived.Test.YtnjhlndikbkeaaaCArr
namespace Go.Proofs.Ytnjhlndikbkeaaa
open Go.RowKit
set_option linter.all false

/-- bytes in new memory, where only blocks of K have turned. -/
def FreshO (K : Nat → Prop) (w w' : World) (v : Value) (zs : List Int) : Prop :=
  ∃ g, v = .slice (some ⟨g, 0, none⟩) zs.length zs.length ∧ w.heap.size ≤ g ∧ w'.heap[g]? = some (.cells (u8s zs).toArray 5 (0, 0)) ∧ Only K w w'
def CS.gone (S : CS) : CS := { S with T := S.T.set S.nt ⟨false, []⟩, nt := (S.nt + 1) % S.T.length, co := S.co + 1 }
def CS.given (S : CS) (j : Nat) : CS := { S with R := S.R.set j ⟨true, []⟩ }
def CS.laid (S : CS) (j : Nat) (zs : List Int) : CS := { S with T := S.T.set j ⟨true, zs⟩ }
theorem box_gone (S : CS) (g h : Nat) : ((S.box g h).setIfInBounds 3 (.int .i64 ((S.nt + 1) % S.T.length : Nat))).setIfInBounds 6 (.int .i64 (S.co + 1 : Nat)) = S.gone.box g h := by
  simp [CS.box, CS.gone]
theorem box_given (S : CS) (j g h : Nat) : S.box g h = (S.given j).box g h := by simp [CS.box, CS.given]
theorem box_laid (S : CS) (j : Nat) (zs : List Int) (g h : Nat) : S.box g h = (S.laid j zs).box g h := by simp [CS.box, CS.laid]
theorem ring_b {w : World} {g : Nat} {ps : List Pl} {j : Nat} {p : Pl} (h : RingAt w g ps) (hp : ps[j]? = some p) : w.cell? ⟨g, j * 1516, none⟩ = some (.bool p.b) := by
  obtain ⟨C, h1, h2, h3⟩ := h
  exact cellHeap h1 _ (h3 _ _ hp).1

set_option maxRecDepth 20000 in
set_option maxHeartbeats 1000000 in
theorem depart_no (c g h : Nat) (S : CS) (p : Pl) (w : World) (x : CardW w c g h S) (hp : S.T[S.nt]? = some p) (hb : p.b = false) :
    Calls Try.prog 17 #[.pointer (some ⟨c, 0, none⟩)] w fun e w' => e = .returned (.tuple #[.slice none 0 0, .bool false]) ∧ Below w.heap.size w w' := by
  have hcb := ring_b x.tx hp
  rw [hb] at hcb
  have HX := hid x
  clear x hp hb
  go_enter Try.func17, Try.ntmps17
  go_wp2_with (first | (go_at_call 41; refine (upcoming_any c 2 h _ _ w (boxC HX.out.box).c2 (boxC HX.out.box).c3 HX.out.t1).mono ?_; rintro e w' ⟨rfl, n, rfl⟩))
  go_ret2
  exact ⟨rfl, drewN_below w n⟩
set_option maxRecDepth 20000 in
set_option maxHeartbeats 1000000 in
theorem depart_yes (c g h : Nat) (S : CS) (p : Pl) (w : World) (x : CardW w c g h S) (hp : S.T[S.nt]? = some p) (hb : p.b = true) (hn : S.co < 4611686018427387904) :
    Calls Try.prog 17 #[.pointer (some ⟨c, 0, none⟩)] w fun e w' => ∃ v, e = .returned (.tuple #[v, .bool true]) ∧ CardW w' c g h S.gone ∧ FreshO (CardK c g h) w w' v p.zs := by
  obtain ⟨C, hC, hsz, hpl⟩ := x.tx
  have hcb : w.cell? ⟨h, S.nt * 1516, none⟩ = some (.bool true) := by
    rw [← hb]; exact cellHeap hC _ (hpl _ _ hp).1
  have HX := hid x
  have HC := hid hC
  have HSZ := hid hsz
  have HPL := hid hpl
  have hr1 := x.t1
  have hr2 := x.t2
  have hin : S.nt * 1516 + 1516 ≤ C.size := by rw [hsz]; exact (by omega : S.nt * 1516 + 1516 ≤ S.T.length * 1516)
  have HIN := hid hin
  have HP := hid (hpl _ _ hp)
  have HU := hid (hpl _ _ hp).1
  rw [hb] at HU
  clear x hp hb hC hsz hpl hin
  go_enter Try.func17, Try.ntmps17
  go_wp2_with (first
    | (go_at_call 41; refine (upcoming_any c 2 h _ _ w (boxC HX.out.box).c2 (boxC HX.out.box).c3 HX.out.t1).mono ?_; rintro e w' ⟨rfl, n, rfl⟩)
    | (go_at_call 46; refine (bytes_any h (S.nt * 1516) C _ p (w.drewN n) HC.out HP.out).mono ?_; rintro e w0 ⟨v, rfl, g', rfl, hg', hv, hb0⟩; have HGH : Hid (w0.heap[h]? = some (.cells C 102 (0, 0))) := (hb0.block h HX.out.tx.lt).trans HC.out; have HG' := hid hg'; have HV := hid hv; have HB0 := hid hb0; clear hg' hv hb0)
    | (go_at_call 47; refine (empty_sl h (S.nt * 1516) C 102 w0 HGH.out HIN.out _ HU.out).mono ?_; rintro e w1 ⟨rfl, hc1, hz1, HG1, HB1⟩)
    | (go_at_call 43; refine (turn_box c 2 h _ _ (S.box g h) _ (by rw [Below.heap_setCell _ _ _ _ (by simpa using HX.out.ch)]; exact (HB1.out.block c HX.out.ch (by have := HB0.out.size; have := heap_lt HX.out.box; simp at *; omega)).trans ((HB0.out.block c (heap_lt HX.out.box)).trans HX.out.box)) rfl rfl HX.out.t1 HX.out.t2 6 (by omega) (.int .i64 S.co) rfl).mono ?_; rintro e w2 ⟨rfl, h42, hz2, HG2, HB2⟩))
  go_ret2
  have O0 : Only (CardK c g h) w w0 := (Only.of_below (drewN_below w n)).trans (Only.of_below HB0.out)
  have O1 : Only (CardK c g h) w w1 := O0.trans (Only.of_but HB1.out (Or.inr (Or.inr rfl)))
  have O2 : Only (CardK c g h) w w2 := (O1.trans (Only.of_but (But.setCell _ _ _ _) (Or.inr (Or.inr rfl)))).trans (Only.of_but HB2.out (Or.inl rfl))
  have hm := Nat.mod_lt (S.nt + 1) (show 0 < S.T.length by omega)
  have s0 := O0.size
  have s1 := O1.size
  have hgl := HX.out.rx.lt
  have hhl := HX.out.tx.lt
  have hcl := heap_lt HX.out.box
  have hg0 : w.heap.size ≤ g' := HG'.out
  have hg1 : g' < w0.heap.size := heap_lt HV.out
  have s2 := HB1.out.size
  have h2 : w2.heap[h]? = some (.cells (emptyC C (S.nt * 1516) false) 102 (0, 0)) := (HB2.out.block h HX.out.ch.symm (by simp [World.setCell]; omega)).trans (HG1.out false)
  have t2 : w2.heap[g]? = w.heap[g]? := by
    rw [HB2.out.block g HX.out.cg.symm (by simp [World.setCell]; omega), Below.heap_setCell _ _ _ _ (by simpa using HX.out.gh), HB1.out.block g HX.out.gh (by omega)]
    exact HB0.out.block g hgl
  have v2 : w2.heap[g']? = some (.cells (u8s p.zs).toArray 5 (0, 0)) := by
    rw [HB2.out.block g' (by omega) (by simp [World.setCell]; omega), Below.heap_setCell _ _ _ _ (by simp; omega), HB1.out.block g' (by omega) (by omega)]
    exact HV.out
  refine ⟨_, rfl, ⟨?_, ?_, ?_, HX.out.r1, HX.out.r2, by simpa [CS.gone] using hm, by simpa [CS.gone] using hr2, HX.out.gh, HX.out.cg, HX.out.ch⟩, g', rfl, hg0, by rw [Below.heap_setCell _ _ _ _ (by simp; omega)]; exact v2, O2.trans (Only.of_but (But.setCell _ _ _ _) (Or.inl rfl))⟩
  · rw [← box_gone]
    exact heap_setCell HG2.out
  · exact HX.out.rx.keep (by rw [Below.heap_setCell _ _ _ _ (by simpa using HX.out.cg.symm)]; exact t2)
  · exact RingAt.emptied (w := w) HSZ.out HPL.out hr1 (by rw [Below.heap_setCell _ _ _ _ (by simpa using HX.out.ch.symm)]; exact h2)
end Go.Proofs.Ytnjhlndikbkeaaa
