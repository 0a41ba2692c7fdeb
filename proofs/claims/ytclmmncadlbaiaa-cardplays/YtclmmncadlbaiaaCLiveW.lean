/-
  live: it answers true.
-/
import Derived.Test.YtclmmncadlbaiaaCLive
namespace Go.Proofs.Ytclmmncadlbaiaa
open Go.RowKit
set_option linter.all false

def F60 : Obj := .cells (u8s (List.replicate 60 1)).toArray 5 (0, 0)
def D9 (g : Nat) : Obj := .cells #[.bool false, .slice (some ⟨g, 0, none⟩) 1 1] 49 (0, 0)
def N9 : Obj := .cells #[.int .u8 9] 5 (0, 0)
/-- live under way: the card's state; what else is held. -/
structure LiveI (w w' : World) (n c g h : Nat) (S : CS) (l : List (Nat × Obj)) : Prop where
  card : CardW w' c g h S
  kin : ∀ k, CardK c g h k → w.heap.size ≤ k ∧ k < n
  top : n ≤ w'.heap.size
  ho : Holds w' l
  off : ∀ p, p ∈ l → n ≤ p.1
  bel : Below w.heap.size w w'
theorem LiveI.below {w w1 w2 : World} {n c g h : Nat} {S : CS} {l : List (Nat × Obj)} (x : LiveI w w1 n c g h S l) (hb : Below w1.heap.size w1 w2) : LiveI w w2 n c g h S l :=
  ⟨x.card.below hb, x.kin, Nat.le_trans x.top hb.size, x.ho.below hb, x.off, bstep x.bel hb⟩
theorem off_cons {n b : Nat} {o : Obj} {l : List (Nat × Obj)} (h : ∀ p, p ∈ l → n ≤ p.1) (hb : n ≤ b) : ∀ p, p ∈ (b, o) :: l → n ≤ p.1 := fun p hp => by
  rcases List.mem_cons.1 hp with rfl | hp
  · exact hb
  · exact h p hp
theorem LiveI.push {w w1 : World} {n c g h : Nat} {S : CS} {l : List (Nat × Obj)} (x : LiveI w w1 n c g h S l) (o : Obj) : LiveI w (w1.alloc o) n c g h S ((w1.heap.size, o) :: l) :=
  ⟨(x.below (balloc w1 o)).card, x.kin, (x.below (balloc w1 o)).top, x.ho.push o, off_cons x.off x.top, (x.below (balloc w1 o)).bel⟩
theorem LiveI.add {w w1 : World} {n c g h : Nat} {S : CS} {l : List (Nat × Obj)} (x : LiveI w w1 n c g h S l) (b : Nat) (o : Obj) (hb : w1.heap[b]? = some o) (hn : n ≤ b) : LiveI w w1 n c g h S ((b, o) :: l) :=
  ⟨x.card, x.kin, x.top, x.ho.cons hb, off_cons x.off hn, x.bel⟩
theorem LiveI.step {w w1 w2 : World} {n c g h : Nat} {S S' : CS} {l : List (Nat × Obj)} (x : LiveI w w1 n c g h S l) (hx : CardW w2 c g h S') (ho : Only (CardK c g h) w1 w2) : LiveI w w2 n c g h S' l :=
  ⟨hx, x.kin, Nat.le_trans x.top ho.size, x.ho.only ho (fun p hp hk => by have := (x.kin _ hk).2; have := x.off p hp; omega), x.off, x.bel.trans (ho.below (fun k hk => (x.kin k hk).1) x.bel.size)⟩
set_option maxRecDepth 20000 in
set_option maxHeartbeats 4000000 in
theorem live_any (w : World) : Calls Try.prog 7 #[] w fun e w' => e = .returned (.bool true) ∧ Below w.heap.size w w' := by
  go_enter Try.func7, Try.ntmps7
  go_wp2_with (first
    | (go_at_call 8; refine (new21 w).mono ?_; go_loud (rintro e w1 ⟨c, g, h, rfl, HX, HK, HB1⟩; have I1 : Hid (LiveI w w1 w1.heap.size c g h (CS.new 2 1) []) := ⟨HX.out, fun k hk => ⟨HK.out k hk, HX.out.lt k hk⟩, Nat.le_refl _, (by intro p hp; simp at hp), (by simp), HB1.out⟩; clear HX HK HB1))
    | (go_at_call 20; refine (filled160 w1).mono ?_; rintro e w2 ⟨gf, rfl, HF1, HF2, HB2⟩; have I2 : Hid (LiveI w (w2.alloc N9) w1.heap.size c g h (CS.new 2 1) [(w2.heap.size, N9), (gf, F60)]) := ((I1.out.below HB2.out).add gf F60 HF2.out HF1.out).push N9; clear HF1 HF2 HB2 I1)
    | (go_at_call 15; refine (arrive9 c g h w2.heap.size (w2.alloc N9) I2.out.card (I2.out.ho.at 0 _ _ rfl)).mono ?_; rintro e w3 ⟨rfl, HX3, HO3⟩; have I3 : Hid (LiveI w w3 w1.heap.size c g h Go.Proofs.Ytclmmncadlbaiaa.L1 [(w2.heap.size, N9), (gf, F60)]) := I2.out.step HX3.out HO3.out; clear HX3 HO3 I2)
    | (go_at_call 16; refine (rx0 c g h w3 I3.out.card).mono ?_; rintro e w4 ⟨gd, rfl, HD1, HD2, HB4⟩; have I4 : Hid (LiveI w (w4.alloc (D9 gd)) w1.heap.size c g h Go.Proofs.Ytclmmncadlbaiaa.L1 [(w4.heap.size, D9 gd), (gd, N9), (w2.heap.size, N9), (gf, F60)]) := ((I3.out.below HB4.out).add gd N9 HD2.out (Nat.le_trans I3.out.top HD1.out)).push _; clear HD1 HD2 HB4 I3)
    | (go_at_call 17; refine (give1 c g h (w4.alloc (D9 gd)) I4.out.card).mono ?_; rintro e w' ⟨rfl, hw⟩; rw [hw]; clear hw)
    | (go_at_call 18; refine (lay0 c g h gf (w4.alloc (D9 gd)) I4.out.card (I4.out.ho.at 3 _ _ rfl)).mono ?_; rintro e w5 ⟨rfl, HX5, HO5⟩; have I5 : Hid (LiveI w w5 w1.heap.size c g h L2s [(w4.heap.size, D9 gd), (gd, N9), (w2.heap.size, N9), (gf, F60)]) := I4.out.step HX5.out HO5.out; clear HX5 HO5 I4)
    | (go_at_call 19; refine (departA c g h w5 I5.out.card).mono ?_; rintro e w6 ⟨gb, rfl, HX6, HG6, HV6, HO6⟩; have I6 : Hid (LiveI w w6 w1.heap.size c g h L3 [(gb, F60), (w4.heap.size, D9 gd), (gd, N9), (w2.heap.size, N9), (gf, F60)]) := (I5.out.step HX6.out HO6.out).add gb F60 HV6.out (Nat.le_trans I5.out.top HG6.out); clear HX6 HG6 HV6 HO6 I5)
    | (go_at_call 19; refine (departB c g h w6 I6.out.card).mono ?_; rintro e w7 ⟨rfl, HB7⟩; have I7 : Hid (LiveI w w7 w1.heap.size c g h L3 [(gb, F60), (w4.heap.size, D9 gd), (gd, N9), (w2.heap.size, N9), (gf, F60)]) := I6.out.below HB7.out; clear HB7 I6)
    | (go_at_call 10; refine (rings21 c g h w7 I7.out.card).mono ?_; rintro e w8 ⟨rfl, HB8⟩; have I8 : Hid (LiveI w w8 w1.heap.size c g h L3 [(gb, F60), (w4.heap.size, D9 gd), (gd, N9), (w2.heap.size, N9), (gf, F60)]) := I7.out.below HB8.out; clear HB8 I7)
    | (go_at_call 11; refine (counts21 c g h w8 I8.out.card).mono ?_; rintro e w9 ⟨rfl, HB9⟩; have I9 : Hid (LiveI w w9 w1.heap.size c g h L3 [(gb, F60), (w4.heap.size, D9 gd), (gd, N9), (w2.heap.size, N9), (gf, F60)]) := I8.out.below HB9.out; clear HB9 I8; have z0 : w9.cell? ⟨w4.heap.size, 0, none⟩ = some (.bool false) := cellHeap (I9.out.ho.at 1 _ _ rfl) 0 rfl; have z1 : w9.cell? ⟨w4.heap.size, 1, none⟩ = some (.slice (some ⟨gd, 0, none⟩) 1 1) := cellHeap (I9.out.ho.at 1 _ _ rfl) 1 rfl; have z2 : w9.cell? ⟨gd, 0, none⟩ = some (.int .u8 9) := cellHeap (I9.out.ho.at 2 _ _ rfl) 0 rfl; have l1 : w4.heap.size < w9.heap.size := heap_lt (I9.out.ho.at 1 _ _ rfl); have l2 : gd < w9.heap.size := heap_lt (I9.out.ho.at 2 _ _ rfl); have k1 : ∀ ob, (convert 43 9 (.slice (some ⟨gb, 0, none⟩) 60 60)).run Try.prog (w9.alloc ob) = .ok (.string (strOfNums (List.replicate 60 1))) (w9.alloc ob) := (fun ob => conv_part ⟨some ⟨gb, 0, none⟩, 60, List.replicate 60 1⟩ _ (Part.of_row ((I9.out.below (balloc w9 ob)).ho.at 0 _ _ rfl) (by simp) (fun z hz => by simp at hz; omega))); have k2 : ∀ ob, (convert 43 9 (.slice (some ⟨gf, 0, none⟩) 60 60)).run Try.prog (w9.alloc ob) = .ok (.string (strOfNums (List.replicate 60 1))) (w9.alloc ob) := (fun ob => conv_part ⟨some ⟨gf, 0, none⟩, 60, List.replicate 60 1⟩ _ (Part.of_row ((I9.out.below (balloc w9 ob)).ho.at 4 _ _ rfl) (by simp) (fun z hz => by simp at hz; omega))); generalize strOfNums (List.replicate 60 1) = sx at k1 k2))
  go_ret
  exact ⟨rfl, bpush I9.out.bel _⟩
end Go.Proofs.Ytclmmncadlbaiaa
