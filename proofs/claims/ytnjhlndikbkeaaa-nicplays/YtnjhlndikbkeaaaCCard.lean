/-
  A card in memory; Rings, Counts, Rx, Tx.
-/
import Derived.Test.YtnjhlndikbkeaaaCPl
namespace Go.Proofs.Ytnjhlndikbkeaaa
open Go.RowKit
set_option linter.all false

/-- a card: both rings, the next ones, the counts. -/
structure CS where
  R : List Pl
  T : List Pl
  nr : Nat
  nt : Nat
  ci : Nat
  cd : Nat
  co : Nat
def RingAt (w : World) (g : Nat) (ps : List Pl) : Prop :=
  ∃ C, w.heap[g]? = some (.cells C 102 (0, 0)) ∧ C.size = ps.length * 1516 ∧ ∀ i p, ps[i]? = some p → PlAt C (i * 1516) p
def CS.box (S : CS) (g h : Nat) : Array Value := #[.slice (some ⟨g, 0, none⟩) S.R.length S.R.length, .int .i64 S.nr, .slice (some ⟨h, 0, none⟩) S.T.length S.T.length, .int .i64 S.nt, .int .i64 S.ci, .int .i64 S.cd, .int .i64 S.co]
structure CardW (w : World) (c g h : Nat) (S : CS) : Prop where
  box : w.heap[c]? = some (.cells (S.box g h) 75 (0, 0))
  rx : RingAt w g S.R
  tx : RingAt w h S.T
  r1 : S.nr < S.R.length
  r2 : S.R.length ≤ 64
  t1 : S.nt < S.T.length
  t2 : S.T.length ≤ 64
  gh : g ≠ h
  cg : c ≠ g
  ch : c ≠ h
/-- the blocks of a card. -/
def CardK (c g h k : Nat) : Prop := k = c ∨ k = g ∨ k = h
/-- only blocks of K may have turned, and new ones come. -/
structure Only (K : Nat → Prop) (w w' : World) : Prop where
  os : w'.os = w.os
  tape : w'.tape = w.tape
  output : w'.output = w.output
  size : w.heap.size ≤ w'.heap.size
  block : ∀ k, ¬ K k → k < w.heap.size → w'.heap[k]? = w.heap[k]?
theorem Only.refl (K : Nat → Prop) (w : World) : Only K w w := ⟨rfl, rfl, rfl, Nat.le_refl _, fun _ _ _ => rfl⟩
theorem Only.trans {K : Nat → Prop} {a b c : World} (h : Only K a b) (k : Only K b c) : Only K a c :=
  ⟨k.os.trans h.os, k.tape.trans h.tape, k.output.trans h.output, Nat.le_trans h.size k.size, fun i hi hl => (k.block i hi (Nat.lt_of_lt_of_le hl h.size)).trans (h.block i hi hl)⟩
theorem Only.of_but {K : Nat → Prop} {g : Nat} {w w' : World} (h : But g w w') (hg : K g) : Only K w w' := ⟨h.os, h.tape, h.output, h.size, fun k hk hl => h.block k (fun e => hk (e ▸ hg)) hl⟩
theorem Only.of_below {K : Nat → Prop} {w w' : World} (h : Below w.heap.size w w') : Only K w w' := ⟨h.os, h.tape, h.output, h.size, fun k _ hl => h.block k hl⟩
theorem Only.mono {K L : Nat → Prop} {w w' : World} (h : Only K w w') (hk : ∀ k, K k → L k) : Only L w w' := ⟨h.os, h.tape, h.output, h.size, fun k hn hl => h.block k (fun e => hn (hk k e)) hl⟩
theorem Only.below {K : Nat → Prop} {B : Nat} {w w' : World} (h : Only K w w') (hk : ∀ k, K k → B ≤ k) (hB : B ≤ w.heap.size) : Below B w w' := ⟨h.os, h.tape, h.output, h.size, fun k hl => h.block k (fun e => by have := hk k e; omega) (by omega)⟩
theorem RingAt.keep {w w' : World} {g : Nat} {ps : List Pl} (h : RingAt w g ps) (hk : w'.heap[g]? = w.heap[g]?) : RingAt w' g ps := by
  obtain ⟨C, h1, h2⟩ := h
  exact ⟨C, hk.trans h1, h2⟩
theorem RingAt.lt {w : World} {g : Nat} {ps : List Pl} (h : RingAt w g ps) : g < w.heap.size := by
  obtain ⟨C, h1, h2⟩ := h
  exact heap_lt h1
theorem CardW.keep {w w' : World} {c g h : Nat} {S : CS} (x : CardW w c g h S) (hk : ∀ k, CardK c g h k → w'.heap[k]? = w.heap[k]?) : CardW w' c g h S :=
  ⟨(hk c (Or.inl rfl)).trans x.box, x.rx.keep (hk g (Or.inr (Or.inl rfl))), x.tx.keep (hk h (Or.inr (Or.inr rfl))), x.r1, x.r2, x.t1, x.t2, x.gh, x.cg, x.ch⟩
theorem CardW.lt {w : World} {c g h : Nat} {S : CS} (x : CardW w c g h S) : ∀ k, CardK c g h k → k < w.heap.size := fun k hk => by
  rcases hk with rfl | rfl | rfl
  · exact heap_lt x.box
  · exact x.rx.lt
  · exact x.tx.lt
theorem CardW.below {w w' : World} {c g h : Nat} {S : CS} (x : CardW w c g h S) (hb : Below w.heap.size w w') : CardW w' c g h S := x.keep fun k hk => hb.block k (x.lt k hk)

structure BoxC (w : World) (c g h : Nat) (S : CS) : Prop where
  c0 : w.cell? ⟨c, 0, none⟩ = some (.slice (some ⟨g, 0, none⟩) S.R.length S.R.length)
  c1 : w.cell? ⟨c, 1, none⟩ = some (.int .i64 S.nr)
  c2 : w.cell? ⟨c, 2, none⟩ = some (.slice (some ⟨h, 0, none⟩) S.T.length S.T.length)
  c3 : w.cell? ⟨c, 3, none⟩ = some (.int .i64 S.nt)
  c4 : w.cell? ⟨c, 4, none⟩ = some (.int .i64 S.ci)
  c5 : w.cell? ⟨c, 5, none⟩ = some (.int .i64 S.cd)
  c6 : w.cell? ⟨c, 6, none⟩ = some (.int .i64 S.co)
  fz : ∀ q, w.frozen? ⟨c, q, none⟩ = false
theorem boxC {w : World} {c g h : Nat} {S : CS} (x : w.heap[c]? = some (.cells (S.box g h) 75 (0, 0))) : BoxC w c g h S :=
  ⟨cellHeap x 0 rfl, cellHeap x 1 rfl, cellHeap x 2 rfl, cellHeap x 3 rfl, cellHeap x 4 rfl, cellHeap x 5 rfl, cellHeap x 6 rfl, fun q => frozen_of_heap x q⟩
set_option maxHeartbeats 1000000 in
theorem rings_any (c g h : Nat) (S : CS) (w : World) (x : CardW w c g h S) :
    Calls Try.prog 25 #[.pointer (some ⟨c, 0, none⟩)] w fun e w' => e = .returned (.tuple #[.int .i64 S.R.length, .int .i64 S.T.length]) ∧ Below w.heap.size w w' := by
  have h0 := (boxC x.box).c0
  have h2 := (boxC x.box).c2
  clear x
  go_enter Try.func25, Try.ntmps25
  go_wp2
  go_quiet (fail)
  go_wp2
  go_ret2
  exact ⟨rfl, drewN_below _ _⟩
set_option maxHeartbeats 1000000 in
theorem counts_any (c g h : Nat) (S : CS) (w : World) (x : CardW w c g h S) :
    Calls Try.prog 38 #[.pointer (some ⟨c, 0, none⟩)] w fun e w' => e = .returned (.agg #[.int .i64 S.ci, .int .i64 S.cd, .int .i64 S.co]) ∧ Below w.heap.size w w' := by
  have h4 := (boxC x.box).c4
  have h5 := (boxC x.box).c5
  have h6 := (boxC x.box).c6
  have hl := heap_lt x.box
  clear x
  go_enter Try.func38, Try.ntmps38
  go_wp2
  exact bodyPost_ret (v := .agg #[.int .i64 S.ci, .int .i64 S.cd, .int .i64 S.co]) (by simp [results, Try.results38, go_sem]) rfl ⟨rfl, balloc w _⟩
/-- what Rx and Tx tell. -/
def ShowR (ps : List Pl) (i : Int) (w w' : World) (b : Bool) (v : Value) (n : Int) : Prop :=
  (∃ (j : Nat) (p : Pl), i = j ∧ ps[j]? = some p ∧ b = p.b ∧ n = 0 ∧ Fresh w w' v p.zs) ∨ (hasB ps.length i = false ∧ b = false ∧ v = .slice none 0 0 ∧ n = 40 ∧ Below w.heap.size w w')
theorem ShowR.below {ps : List Pl} {i : Int} {w w' : World} {b : Bool} {v : Value} {n : Int} (h : ShowR ps i w w' b v n) : Below w.heap.size w w' := by
  rcases h with ⟨j, p, _, _, _, _, g, _, _, _, hb⟩ | ⟨_, _, _, _, hb⟩
  · exact hb
  · exact hb
def shownE (ps : List Pl) (i : Int) (w : World) (e : Ending) (w' : World) : Prop :=
  ∃ (b : Bool) (a : Option Addr) (l c : Nat) (n : Int), e = .returned (.tuple #[.agg #[.bool b, .slice a l c], .int .i64 n]) ∧ ShowR ps i w w' b (.slice a l c) n
theorem show_any (c k g : Nat) (ps : List Pl) (i : Int) (w : World) (h1 : w.cell? ⟨c, k, none⟩ = some (.slice (some ⟨g, 0, none⟩) ps.length ps.length)) (hr : RingAt w g ps) :
    Calls Try.prog 58 #[.pointer (some ⟨c, k, none⟩), .int .i64 i] w (shownE ps i w) := by
  by_cases hi : hasB ps.length i = true
  · have h2 : 0 ≤ i ∧ i < ps.length := by simpa [hasB] using hi
    obtain ⟨j, rfl⟩ : ∃ j : Nat, i = j := ⟨i.toNat, by omega⟩
    obtain ⟨C, hc, hs, hp⟩ := hr
    have hj : j < ps.length := by omega
    refine (show_yes c k g ps.length j C _ ps[j] w h1 hj hc (hp j _ (List.getElem?_eq_getElem hj))).mono ?_
    rintro e w' ⟨v, rfl, g', rfl, hf⟩
    exact ⟨_, _, _, _, _, rfl, Or.inl ⟨j, ps[j], rfl, List.getElem?_eq_getElem hj, rfl, rfl, g', rfl, hf⟩⟩
  · have h2 : hasB ps.length i = false := by simpa using hi
    refine (show_no c k g ps.length i w h1 h2).mono ?_
    rintro e w' ⟨rfl, hb⟩
    exact ⟨_, _, _, _, _, rfl, Or.inr ⟨h2, rfl, rfl, rfl, hb⟩⟩
/-- the answer passed on from a box of the caller's own. -/
theorem ShowR.pass {ps : List Pl} {i : Int} {w w' : World} {b : Bool} {v : Value} {n : Int} {o : Obj} (h : ShowR ps i (w.alloc o) w' b v n) (x y : Value) : ShowR ps i w ((w'.setCell ⟨w.heap.size, 0, none⟩ x).setCell ⟨w.heap.size, 1, none⟩ y) b v n := by
  have hB : ∀ w1, Below (w.alloc o).heap.size (w.alloc o) w1 → Below w.heap.size w ((w1.setCell ⟨w.heap.size, 0, none⟩ x).setCell ⟨w.heap.size, 1, none⟩ y) := fun w1 hb => bset (bset (bstep (balloc w o) hb) (Nat.le_refl _) _ _) (Nat.le_refl _) _ _
  rcases h with ⟨j, p, h1, h2, h3, h4, g, h5, h6, h7, hb⟩ | ⟨h1, h2, h3, h4, hb⟩
  · simp at h6
    exact Or.inl ⟨j, p, h1, h2, h3, h4, g, h5, by omega, by rw [Below.heap_setCell _ _ _ _ (by simp; omega), Below.heap_setCell _ _ _ _ (by simp; omega)]; exact h7, hB _ hb⟩
  · exact Or.inr ⟨h1, h2, h3, h4, hB _ hb⟩
set_option maxRecDepth 20000 in
set_option maxHeartbeats 1000000 in
theorem rx_any (c g h : Nat) (S : CS) (i : Int) (w : World) (x : CardW w c g h S) :
    Calls Try.prog 33 #[.pointer (some ⟨c, 0, none⟩), .int .i64 i] w (shownE S.R i w) := by
  have HX := hid x
  clear x
  go_enter Try.func33, Try.ntmps33
  go_wp2_with (first | (go_at_call 58; refine (show_any c 0 g S.R i _ (boxC (HX.out.below (balloc w _)).box).c0 (HX.out.below (balloc w _)).rx).mono ?_; rintro e w' ⟨b, a, l, cc, n, rfl, hs⟩; have HR : Hid (w'.heap[w.heap.size]? = some (.cells #[.bool false, .slice none 0 0] 80 (0, 0))) := (hs.below.block _ (by simp)).trans (heap_new w _); have h20 : w'.cell? ⟨w.heap.size, 0, none⟩ = some (.bool false) := cell_of_heap HR.out 0; have h21 : w'.cell? ⟨w.heap.size, 1, none⟩ = some (.slice none 0 0) := cell_of_heap HR.out 1; have h22 : ∀ q, w'.frozen? ⟨w.heap.size, q, none⟩ = false := fun q => frozen_of_heap HR.out q; have hlt : w.heap.size < w'.heap.size := (by have := hs.below.size; simp at this; omega); have HS := hid hs; clear hs))
  exact bodyPost_ret (results_row2 (P := Try.prog) rfl _ _ w.heap.size 80 #[.bool b, .slice a l cc] (0, 0) _ (.int .i64 n) rfl rfl (heap_setCell (heap_setCell HR.out)) Try.underlying80 rfl (by kernel_rfl)) rfl ⟨_, _, _, _, _, rfl, HS.out.pass _ _⟩
set_option maxRecDepth 20000 in
set_option maxHeartbeats 1000000 in
theorem tx_any (c g h : Nat) (S : CS) (i : Int) (w : World) (x : CardW w c g h S) :
    Calls Try.prog 35 #[.pointer (some ⟨c, 0, none⟩), .int .i64 i] w (shownE S.T i w) := by
  have HX := hid x
  clear x
  go_enter Try.func35, Try.ntmps35
  go_wp2_with (first | (go_at_call 58; refine (show_any c 2 h S.T i _ (boxC (HX.out.below (balloc w _)).box).c2 (HX.out.below (balloc w _)).tx).mono ?_; rintro e w' ⟨b, a, l, cc, n, rfl, hs⟩; have HR : Hid (w'.heap[w.heap.size]? = some (.cells #[.bool false, .slice none 0 0] 80 (0, 0))) := (hs.below.block _ (by simp)).trans (heap_new w _); have h20 : w'.cell? ⟨w.heap.size, 0, none⟩ = some (.bool false) := cell_of_heap HR.out 0; have h21 : w'.cell? ⟨w.heap.size, 1, none⟩ = some (.slice none 0 0) := cell_of_heap HR.out 1; have h22 : ∀ q, w'.frozen? ⟨w.heap.size, q, none⟩ = false := fun q => frozen_of_heap HR.out q; have hlt : w.heap.size < w'.heap.size := (by have := hs.below.size; simp at this; omega); have HS := hid hs; clear hs))
  exact bodyPost_ret (results_row2 (P := Try.prog) rfl _ _ w.heap.size 80 #[.bool b, .slice a l cc] (0, 0) _ (.int .i64 n) rfl rfl (heap_setCell (heap_setCell HR.out)) Try.underlying80 rfl (by kernel_rfl)) rfl ⟨_, _, _, _, _, rfl, HS.out.pass _ _⟩
end Go.Proofs.Ytnjhlndikbkeaaa
