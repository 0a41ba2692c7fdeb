/-
  The document's card in memory; Rings, Counts, Rx, Tx.
-/
import Derived.Test.YtnjhlndikbkeaaaCRefC
namespace Go.Proofs.Ytnjhlndikbkeaaa
open Go.RowKit
set_option linter.all false

theorem Part.ok_block {pt : Part} {w w' : World} (h : pt.ok w) (hk : pt.zs = [] ∨ ∃ q r, pt.a = some ⟨q, r, none⟩ ∧ w'.heap[q]? = w.heap[q]?) : pt.ok w' := by
  refine ⟨h.1, h.2.1, ?_⟩
  rcases h.2.2 with he | ⟨b, o, ha, hc⟩
  · exact Or.inl he
  · rcases hk with he | ⟨q, r, hq, hb⟩
    · exact Or.inl he
    · rw [ha] at hq
      simp only [Option.some.injEq, Addr.mk.injEq, and_true] at hq
      obtain ⟨rfl, rfl⟩ := hq
      exact Or.inr ⟨b, o, ha, fun j hj => by rw [World.cell?_of_block (a := ⟨b, o + j, none⟩) hb]; exact hc j hj⟩
/-- a descriptor of the document's; D: the blocks of bytes. -/
structure DeAt (w : World) (D : Nat → Prop) (C : Array Value) (o : Nat) (p : Pl) : Prop where
  b : C[o]? = some (.bool p.b)
  d : ∃ pt : Part, C[o + 1]? = some pt.val ∧ pt.zs = p.zs ∧ pt.ok w ∧ (pt.zs = [] ∨ ∃ q r, pt.a = some ⟨q, r, none⟩ ∧ D q)
  ok : p.ok
def DescAt (w : World) (D : Nat → Prop) (g : Nat) (ps : List Pl) : Prop :=
  ∃ C, w.heap[g]? = some (.cells C 80 (0, 0)) ∧ ps.length * 2 ≤ C.size ∧ ∀ i p, ps[i]? = some p → DeAt w D C (i * 2) p
theorem DeAt.keep {w w' : World} {D D' : Nat → Prop} {C : Array Value} {o : Nat} {p : Pl} (h : DeAt w D C o p) (hk : ∀ k, D k → w'.heap[k]? = w.heap[k]? ∧ D' k) : DeAt w' D' C o p := by
  obtain ⟨pt, h1, h2, h3, h4⟩ := h.d
  refine ⟨h.b, ⟨pt, h1, h2, Part.ok_block h3 ?_, ?_⟩, h.ok⟩
  · rcases h4 with h4 | ⟨q, r, hq, hd⟩
    · exact Or.inl h4
    · exact Or.inr ⟨q, r, hq, (hk q hd).1⟩
  · rcases h4 with h4 | ⟨q, r, hq, hd⟩
    · exact Or.inl h4
    · exact Or.inr ⟨q, r, hq, (hk q hd).2⟩
theorem DescAt.keep {w w' : World} {D D' : Nat → Prop} {g : Nat} {ps : List Pl} (h : DescAt w D g ps) (hg : w'.heap[g]? = w.heap[g]?) (hk : ∀ k, D k → w'.heap[k]? = w.heap[k]? ∧ D' k) : DescAt w' D' g ps := by
  obtain ⟨C, h1, h2, h3⟩ := h
  exact ⟨C, hg.trans h1, h2, fun i p hp => (h3 i p hp).keep hk⟩
theorem DescAt.lt {w : World} {D : Nat → Prop} {g : Nat} {ps : List Pl} (h : DescAt w D g ps) : g < w.heap.size := by
  obtain ⟨C, h1, _⟩ := h
  exact heap_lt h1
def CS.rbox (S : CS) (g cr h ct : Nat) : Array Value := #[.slice (some ⟨g, 0, none⟩) S.R.length cr, .slice (some ⟨h, 0, none⟩) S.T.length ct, .int .i64 S.nr, .int .i64 S.nt, .int .i64 S.ci, .int .i64 S.cd, .int .i64 S.co]
structure RefB (w : World) (D : Nat → Prop) (x g cr h ct : Nat) (S : CS) : Prop where
  box : w.heap[x]? = some (.cells (S.rbox g cr h ct) 78 (0, 0))
  rx : DescAt w D g S.R
  tx : DescAt w D h S.T
  r1 : S.nr < S.R.length
  r2 : S.R.length ≤ 64
  t1 : S.nt < S.T.length
  t2 : S.T.length ≤ 64
  gh : g ≠ h
  xg : x ≠ g
  xh : x ≠ h
  dd : ∀ k, D k → k ≠ x ∧ k ≠ g ∧ k ≠ h ∧ k < w.heap.size
/-- the blocks of the document's card. -/
def RefK (D : Nat → Prop) (x g h k : Nat) : Prop := k = x ∨ k = g ∨ k = h ∨ D k
theorem RefB.lt {w : World} {D : Nat → Prop} {x g cr h ct : Nat} {S : CS} (y : RefB w D x g cr h ct S) : ∀ k, RefK D x g h k → k < w.heap.size := fun k hk => by
  rcases hk with rfl | rfl | rfl | hk
  · exact heap_lt y.box
  · exact y.rx.lt
  · exact y.tx.lt
  · exact (y.dd k hk).2.2.2
theorem RefB.keep {w w' : World} {D : Nat → Prop} {x g cr h ct : Nat} {S : CS} (y : RefB w D x g cr h ct S) (hs : w.heap.size ≤ w'.heap.size) (hk : ∀ k, RefK D x g h k → w'.heap[k]? = w.heap[k]?) : RefB w' D x g cr h ct S :=
  ⟨(hk x (Or.inl rfl)).trans y.box, y.rx.keep (hk g (Or.inr (Or.inl rfl))) (fun k hd => ⟨hk k (Or.inr (Or.inr (Or.inr hd))), hd⟩), y.tx.keep (hk h (Or.inr (Or.inr (Or.inl rfl)))) (fun k hd => ⟨hk k (Or.inr (Or.inr (Or.inr hd))), hd⟩), y.r1, y.r2, y.t1, y.t2, y.gh, y.xg, y.xh, fun k hd => ⟨(y.dd k hd).1, (y.dd k hd).2.1, (y.dd k hd).2.2.1, by have := (y.dd k hd).2.2.2; omega⟩⟩
theorem RefB.below {w w' : World} {D : Nat → Prop} {x g cr h ct : Nat} {S : CS} (y : RefB w D x g cr h ct S) (hb : Below w.heap.size w w') : RefB w' D x g cr h ct S := y.keep hb.size fun k hk => hb.block k (y.lt k hk)
structure RboxC (w : World) (x g cr h ct : Nat) (S : CS) : Prop where
  c0 : w.cell? ⟨x, 0, none⟩ = some (.slice (some ⟨g, 0, none⟩) S.R.length cr)
  c1 : w.cell? ⟨x, 1, none⟩ = some (.slice (some ⟨h, 0, none⟩) S.T.length ct)
  c2 : w.cell? ⟨x, 2, none⟩ = some (.int .i64 S.nr)
  c3 : w.cell? ⟨x, 3, none⟩ = some (.int .i64 S.nt)
  c4 : w.cell? ⟨x, 4, none⟩ = some (.int .i64 S.ci)
  c5 : w.cell? ⟨x, 5, none⟩ = some (.int .i64 S.cd)
  c6 : w.cell? ⟨x, 6, none⟩ = some (.int .i64 S.co)
  fz : ∀ q, w.frozen? ⟨x, q, none⟩ = false
theorem rboxC {w : World} {x g cr h ct : Nat} {S : CS} (y : w.heap[x]? = some (.cells (S.rbox g cr h ct) 78 (0, 0))) : RboxC w x g cr h ct S :=
  ⟨cellHeap y 0 rfl, cellHeap y 1 rfl, cellHeap y 2 rfl, cellHeap y 3 rfl, cellHeap y 4 rfl, cellHeap y 5 rfl, cellHeap y 6 rfl, fun q => frozen_of_heap y q⟩
/-- what New of the document makes. -/
theorem RNewE.ref {w w' : World} {n m : Nat} (e : RNewE w w' n m) (hn1 : 1 ≤ n) (hn : n ≤ 64) (hm1 : 1 ≤ m) (hm : m ≤ 64) : ∃ g cr h ct, RefB w' (fun _ => False) w.heap.size g cr h ct (CS.new n m) ∧ ∀ k, RefK (fun _ => False) w.heap.size g h k → w.heap.size ≤ k := by
  obtain ⟨B2, a, cp, a2, cp2, h, hap⟩ := e
  have open1 : ∀ (b : Bool) (base q : Nat) (v : Value), 1 ≤ q → w'.ownsRow base 80 2 v q (descs b q) → ∃ g cap, v = .slice (some ⟨g, 0, none⟩) q cap ∧ base ≤ g ∧ DescAt w' (fun _ => False) g (List.replicate q ⟨b, []⟩) := fun b base q v hq ho => by
    rcases ho.2 with ⟨_, h0⟩ | ⟨g, cap, cur, rfl, h1, h2, h3, h4, h5, h6⟩
    · omega
    · refine ⟨g, cap, rfl, h1, cur, h2, by simp; omega, fun i p hp => ?_⟩
      have hi : i < q := by have := (List.getElem?_eq_some_iff.1 hp).1; simpa using this
      have hpe : p = ⟨b, []⟩ := by rw [List.getElem?_replicate, if_pos hi] at hp; simpa using hp.symm
      subst hpe
      have at' : ∀ j, j < q * 2 → cur[j]? = (descs b q)[j]? := fun j hj => by
        rw [← h6, List.getElem?_take, if_pos hj, Array.getElem?_toList]
      exact ⟨(at' _ (by omega)).trans (descs_at b q i hi).1, ⟨Part.nil, (at' _ (by omega)).trans (descs_at b q i hi).2, rfl, Part.nil_ok _, Or.inl rfl⟩, by simp [Pl.ok]⟩
  obtain ⟨g, cr, e1, hg, hx⟩ := open1 true _ n _ hn1 h.rx
  obtain ⟨t, ct, e2, ht, hy⟩ := open1 false _ m _ hm1 h.tx
  simp only [Value.slice.injEq] at e1 e2
  obtain ⟨rfl, _, rfl⟩ := e1
  obtain ⟨rfl, _, rfl⟩ := e2
  have hgt : g < B2 := hap g rfl
  refine ⟨g, cp, t, cp2, ⟨?_, hx, hy, by simp [CS.new]; omega, by simp [CS.new]; omega, by simp [CS.new]; omega, by simp [CS.new]; omega, by omega, by omega, by have := h.two.1; omega, fun k hk => hk.elim⟩, fun k hk => ?_⟩
  · have := h.box
    simpa [CS.rbox, CS.new] using this
  · rcases hk with rfl | rfl | rfl | hk
    · exact Nat.le_refl _
    · omega
    · have := h.two.1; omega
    · exact hk.elim

set_option maxHeartbeats 1000000 in
theorem refRings_any (D : Nat → Prop) (x g cr h ct : Nat) (S : CS) (w : World) (y : RefB w D x g cr h ct S) :
    Calls Try.prog 32 #[.pointer (some ⟨x, 0, none⟩)] w fun e w' => e = .returned (.tuple #[.int .i64 S.R.length, .int .i64 S.T.length]) ∧ Below w.heap.size w w' := by
  have h0 := (rboxC y.box).c0
  have h2 := (rboxC y.box).c1
  clear y
  go_enter Try.func32, Try.ntmps32
  go_wp2
  go_quiet (fail)
  go_wp2
  go_ret2
  exact ⟨rfl, drewN_below _ _⟩
set_option maxHeartbeats 1000000 in
theorem refCounts_any (D : Nat → Prop) (x g cr h ct : Nat) (S : CS) (w : World) (y : RefB w D x g cr h ct S) :
    Calls Try.prog 39 #[.pointer (some ⟨x, 0, none⟩)] w fun e w' => e = .returned (.agg #[.int .i64 S.ci, .int .i64 S.cd, .int .i64 S.co]) ∧ Below w.heap.size w w' := by
  have h4 := (rboxC y.box).c4
  have h5 := (rboxC y.box).c5
  have h6 := (rboxC y.box).c6
  have hl := heap_lt y.box
  clear y
  go_enter Try.func39, Try.ntmps39
  go_wp2
  exact bodyPost_ret (v := .agg #[.int .i64 S.ci, .int .i64 S.cd, .int .i64 S.co]) (by simp [results, Try.results39, go_sem]) rfl ⟨rfl, balloc w _⟩
end Go.Proofs.Ytnjhlndikbkeaaa
