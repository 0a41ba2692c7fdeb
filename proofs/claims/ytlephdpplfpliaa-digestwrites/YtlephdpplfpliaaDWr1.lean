/-
  Two hashes of the program's beside two of the document's.
-/
import Derived.Test.YtlephdpplfpliaaDBeyO
import Derived.Test.YtlephdpplfpliaaDKept
import Derived.Test.YtlephdpplfpliaaDEq
namespace Go.Proofs.Ytlephdpplfpliaa
open Go.RowKit
set_option linter.all false

theorem apart {w : World} {a b : Nat} {c1 c2 : Array Value} {t1 t2 : TypeId} {f1 f2 : Nat × Nat} (h1 : w.heap[a]? = some (.cells c1 t1 f1)) (h2 : w.heap[b]? = some (.cells c2 t2 f2)) (hne : t1 ≠ t2) : a ≠ b := fun e => by
  subst e
  rw [h1] at h2
  simp only [Option.some.injEq, Obj.cells.injEq] at h2
  exact hne h2.2.1
theorem heap_lt' {w : World} {a : Nat} {o : Obj} (h : w.heap[a]? = some o) : a < w.heap.size := (Array.getElem?_eq_some_iff.1 h).1
theorem RH.keep {p : Nat} {x : HS} {m : Nat} {w w' : World} {g c : Nat} {rv : Value} (h : RH p x m w g c rv) (hp : w'.heap[p]? = w.heap[p]?) (hg : w'.heap[g]? = w.heap[g]?) (hr : ∀ b, rv.ownBlock = some b → w'.heap[b]? = w.heap[b]?) : RH p x m w' g c rv :=
  ⟨hp.trans h.at_, h.h.keep fun b hb => by
    have e : b = g := by simpa [Value.ownBlock] using hb.symm
    rw [e]; exact hg, h.r.keep hr, h.ok⟩
structure Sl where
  p : Nat
  q : Nat
  g : Nat
  c : Nat
  rv : Value
  X : HS
  Y : HS
structure DW (w wr : World) (gh gx : Nat) (s : Nat → Sl) : Prop where
  ah : wr.heap[gh]? = some (.cells #[.pointer (some ⟨(s 0).p, 0, none⟩), .pointer (some ⟨(s 1).p, 0, none⟩)] 31 (0, 0))
  ax : wr.heap[gx]? = some (.cells #[.pointer (some ⟨(s 0).q, 0, none⟩), .pointer (some ⟨(s 1).q, 0, none⟩)] 34 (0, 0))
  hp : ∀ k, k < 2 → wr.heap[(s k).p]? = some (.cells (s k).X.cells.toArray 51 (0, 0))
  hq : ∀ k, k < 2 → RH (s k).q (s k).Y (s k).Y.n wr (s k).g (s k).c (s k).rv
  okX : ∀ k, k < 2 → (s k).X.ok
  ne : ∀ i j, i < 2 → j < 2 → i ≠ j → (s i).p ≠ (s j).p ∧ (s i).q ≠ (s j).q ∧ ∀ b, (s i).rv.ownBlock = some b → (s j).rv.ownBlock ≠ some b
  lo : w.heap.size ≤ gh ∧ w.heap.size ≤ gx ∧ ∀ k, k < 2 → w.heap.size ≤ (s k).p ∧ w.heap.size ≤ (s k).q ∧ ∀ b, (s k).rv.ownBlock = some b → w.heap.size ≤ b
  bel : Below w.heap.size w wr
theorem DW.below {w wr w' : World} {gh gx : Nat} {s : Nat → Sl} (h : DW w wr gh gx s) (hb : Below wr.heap.size wr w') : DW w w' gh gx s :=
  ⟨(hb.block _ (heap_lt' h.ah)).trans h.ah, (hb.block _ (heap_lt' h.ax)).trans h.ax, fun k hk => (hb.block _ (heap_lt' (h.hp k hk))).trans (h.hp k hk), fun k hk => (h.hq k hk).below hb, h.okX, h.ne, h.lo, h.bel.trans (hb.mono h.bel.size)⟩
theorem DW.ptrH {w wr : World} {gh gx : Nat} {s : Nat → Sl} (h : DW w wr gh gx s) (k : Nat) (hk : k < 2) : wr.cell? ⟨gh, k, none⟩ = some (.pointer (some ⟨(s k).p, 0, none⟩)) := by
  rw [Bk.cell_of_heap h.ah]
  match k, hk with
  | 0, _ => rfl
  | 1, _ => rfl
theorem DW.ptrX {w wr : World} {gh gx : Nat} {s : Nat → Sl} (h : DW w wr gh gx s) (k : Nat) (hk : k < 2) : wr.cell? ⟨gx, k, none⟩ = some (.pointer (some ⟨(s k).q, 0, none⟩)) := by
  rw [Bk.cell_of_heap h.ax]
  match k, hk with
  | 0, _ => rfl
  | 1, _ => rfl
def setX (s : Nat → Sl) (k : Nat) (Z : HS) : Nat → Sl := fun i => { s i with X := if i = k then Z else (s i).X }
theorem DW.putX {w wr w' : World} {gh gx : Nat} {s : Nat → Sl} (h : DW w wr gh gx s) {k : Nat} (hk : k < 2) {Z : HS} (hb : But (s k).p wr w') (hg : w'.heap[(s k).p]? = some (.cells Z.cells.toArray 51 (0, 0))) (hZ : Z.ok) : DW w w' gh gx (setX s k Z) := by
  have hpk := h.hp k hk
  refine ⟨(hb.block _ (apart h.ah hpk (by decide)) (heap_lt' h.ah)).trans h.ah, (hb.block _ (apart h.ax hpk (by decide)) (heap_lt' h.ax)).trans h.ax, fun i hi => ?_, fun i hi => ?_, fun i hi => ?_, h.ne, h.lo, h.bel.trans (hb.below (h.lo.2.2 k hk).1 h.bel.size)⟩
  · by_cases e : i = k
    · subst e
      simpa [setX] using hg
    · simp only [setX, if_neg e]
      exact (hb.block _ (h.ne i k hi hk e).1 (heap_lt' (h.hp i hi))).trans (h.hp i hi)
  · have hR := h.hq i hi
    obtain ⟨cur, f, hgg⟩ := row_at hR.h
    exact hR.keep (hb.block _ (apart hR.at_ hpk (by decide)) (heap_lt' hR.at_)) (hb.block _ (apart hgg hpk (by decide)) (heap_lt' hgg)) (fun b hb' => hb.block _ (fun e => row_not_at hR.r hpk (by decide) (e ▸ hb')) (hR.r.lt hb'))
  · by_cases e : i = k
    · subst e
      simpa [setX] using hZ
    · simp only [setX, if_neg e]
      exact h.okX i hi
def setY (s : Nat → Sl) (k : Nat) (Z : HS) (g c : Nat) (rv : Value) : Nat → Sl := fun i => { p := (s i).p, q := (s i).q, X := (s i).X, g := if i = k then g else (s i).g, c := if i = k then c else (s i).c, rv := if i = k then rv else (s i).rv, Y := if i = k then Z else (s i).Y }
theorem DW.putY {w wr w' : World} {gh gx : Nat} {s : Nat → Sl} (h : DW w wr gh gx s) {k : Nat} (hk : k < 2) {Z : HS} {g c : Nat} {rv : Value} (hR' : RH (s k).q Z Z.n w' g c rv) (hF : Far (s k).q (s k).rv.ownBlock wr w') (hO : ∀ b, rv.ownBlock = some b → (s k).rv.ownBlock = some b ∨ wr.heap.size ≤ b) : DW w w' gh gx (setY s k Z g c rv) := by
  have hRk := h.hq k hk
  have hs := h.bel.size
  have keep : ∀ (b : Nat) (cs : Array Value) (t : TypeId) (f : Nat × Nat), wr.heap[b]? = some (Obj.cells cs t f) → t ≠ 45 → t ≠ 5 → w'.heap[b]? = wr.heap[b]? := fun b cs t f hb h1 h2 => hF.block b (apart hb hRk.at_ h1) (fun e => row_not_at hRk.r hb (fun e => h2 e.symm) e) (heap_lt' hb)
  refine ⟨(keep _ _ _ _ h.ah (by decide) (by decide)).trans h.ah, (keep _ _ _ _ h.ax (by decide) (by decide)).trans h.ax, fun i hi => (keep _ _ _ _ (h.hp i hi) (by decide) (by decide)).trans (h.hp i hi), fun i hi => ?_, h.okX, fun i j hi hj hij => ⟨(h.ne i j hi hj hij).1, (h.ne i j hi hj hij).2.1, fun b => ?_⟩, ⟨h.lo.1, h.lo.2.1, fun i hi => ⟨(h.lo.2.2 i hi).1, (h.lo.2.2 i hi).2.1, fun b => ?_⟩⟩, ?_⟩
  · by_cases e : i = k
    · subst e
      simpa [setY] using hR'
    · simp only [setY, if_neg e]
      have hR := h.hq i hi
      obtain ⟨cur, f, hgg⟩ := row_at hR.h
      exact hR.keep (hF.block _ (h.ne i k hi hk e).2.1 (fun e' => row_not_at hRk.r hR.at_ (by decide) e') (heap_lt' hR.at_)) (keep _ _ _ _ hgg (by decide) (by decide)) (fun b hb' => hF.block _ (fun e' => row_not_at hR.r hRk.at_ (by decide) (e' ▸ hb')) ((h.ne i k hi hk e).2.2 b hb') (hR.r.lt hb'))
  · simp only [setY]
    by_cases ei : i = k
    · subst ei
      rw [if_pos rfl, if_neg (fun e => hij e.symm)]
      intro hb e
      rcases hO b hb with h1 | h1
      · exact (h.ne i j hi hj hij).2.2 b h1 e
      · have := (h.hq j hj).r.lt e; omega
    · rw [if_neg ei]
      intro hb
      by_cases ej : j = k
      · subst ej
        rw [if_pos rfl]
        intro e
        rcases hO b e with h1 | h1
        · exact (h.ne i j hi hj hij).2.2 b hb h1
        · have := (h.hq i hi).r.lt hb; omega
      · rw [if_neg ej]
        exact (h.ne i j hi hj hij).2.2 b hb
  · simp only [setY]
    by_cases ei : i = k
    · subst ei
      rw [if_pos rfl]
      intro hb
      rcases hO b hb with h1 | h1
      · exact (h.lo.2.2 i hi).2.2 b h1
      · omega
    · rw [if_neg ei]
      exact (h.lo.2.2 i hi).2.2 b
  · exact h.bel.trans ⟨hF.os, hF.tape, hF.output, hF.size, fun b hb => hF.block b (by have := (h.lo.2.2 k hk).2.1; omega) (fun e => by have := (h.lo.2.2 k hk).2.2 b e; omega) (by omega)⟩
/-- h[k] = digest.New(). -/
def setP (s : Nat → Sl) (k p : Nat) : Nat → Sl := fun i => { s i with p := if i = k then p else (s i).p, X := if i = k then hsI else (s i).X }
theorem DW.newX {w wr : World} {gh gx : Nat} {s : Nat → Sl} (h : DW w wr gh gx s) {k : Nat} (hk : k < 2) : DW w ((wr.alloc (.cells hsI.cells.toArray 51)).setCell ⟨gh, k, none⟩ (.pointer (some ⟨wr.heap.size, 0, none⟩))) gh gx (setP s k wr.heap.size) := by
  have h1 := h.below ((Below.refl _ _).alloc (Nat.le_refl _) (.cells hsI.cells.toArray 51))
  have hs := h.bel.size
  have hgh := heap_lt' h.ah
  have hb : But gh (wr.alloc (.cells hsI.cells.toArray 51)) ((wr.alloc (.cells hsI.cells.toArray 51)).setCell ⟨gh, k, none⟩ (.pointer (some ⟨wr.heap.size, 0, none⟩))) := But.setCell _ _ _ _
  have hnew := (hb.block _ (show wr.heap.size ≠ gh by omega) (by simp)).trans (Bk.heap_new wr (.cells hsI.cells.toArray 51))
  have hset := Bk.heap_setCell (j := k) (v := .pointer (some ⟨wr.heap.size, 0, none⟩)) h1.ah
  refine ⟨hset.trans ?_, (hb.block _ (apart h1.ax h1.ah (by decide)) (heap_lt' h1.ax)).trans h1.ax, fun i hi => ?_, fun i hi => ?_, fun i hi => ?_, fun i j hi hj hij => ⟨?_, (h.ne i j hi hj hij).2⟩, ⟨h.lo.1, h.lo.2.1, fun i hi => ⟨?_, (h.lo.2.2 i hi).2⟩⟩, h1.bel.trans (hb.below h.lo.1 h1.bel.size)⟩
  · match k, hk with
    | 0, _ => rfl
    | 1, _ => rfl
  · by_cases e : i = k
    · subst e
      simpa [setP] using hnew
    · simp only [setP, if_neg e]
      exact (hb.block _ (apart (h1.hp i hi) h1.ah (by decide)) (heap_lt' (h1.hp i hi))).trans (h1.hp i hi)
  · have hR := h1.hq i hi
    obtain ⟨cur, f, hgg⟩ := row_at hR.h
    exact hR.keep (hb.block _ (apart hR.at_ h1.ah (by decide)) (heap_lt' hR.at_)) (hb.block _ (apart hgg h1.ah (by decide)) (heap_lt' hgg)) (fun b hb' => hb.block _ (fun e => row_not_at hR.r h1.ah (by decide) (e ▸ hb')) (hR.r.lt hb'))
  · by_cases e : i = k
    · simp only [setP, if_pos e]; exact hsI_ok
    · simp only [setP, if_neg e]; exact h.okX i hi
  · have l1 := heap_lt' (h.hp i hi)
    have l2 := heap_lt' (h.hp j hj)
    have l3 := (h.ne i j hi hj hij).1
    simp only [setP]
    split <;> split <;> omega
  · have l1 := (h.lo.2.2 i hi).1
    simp only [setP]
    split <;> omega
/-- x[k] = New() of the document's. -/
def setQ (s : Nat → Sl) (k p : Nat) : Nat → Sl := fun i => { p := (s i).p, X := (s i).X, q := if i = k then p + 1 else (s i).q, g := if i = k then p else (s i).g, c := if i = k then 8 else (s i).c, rv := if i = k then .slice none 0 0 else (s i).rv, Y := if i = k then hsI else (s i).Y }
theorem DW.newY {w wr : World} {gh gx : Nat} {s : Nat → Sl} (h : DW w wr gh gx s) {k : Nat} (hk : k < 2) : DW w (((wr.alloc (.cells (u32s iv.l).toArray 47)).alloc (.cells #[.slice (some ⟨wr.heap.size, 0, none⟩) 8 8, .slice none 0 0, .int .i64 0] 45)).setCell ⟨gx, k, none⟩ (.pointer (some ⟨wr.heap.size + 1, 0, none⟩))) gh gx (setQ s k wr.heap.size) := by
  have hnew0 := refNew_rh wr
  have hs := h.bel.size
  have hgh := heap_lt' h.ax
  obtain ⟨w1, hw1⟩ : ∃ w1, w1 = ((wr.alloc (.cells (u32s iv.l).toArray 47)).alloc (.cells #[.slice (some ⟨wr.heap.size, 0, none⟩) 8 8, .slice none 0 0, .int .i64 0] 45)) := ⟨_, rfl⟩
  have b1 : Below wr.heap.size wr w1 := by rw [hw1]; exact (((Below.refl _ _).alloc (Nat.le_refl _) _).alloc (by simp) _)
  rw [← hw1] at hnew0 ⊢
  have h1 := h.below b1
  have hb : But gx w1 (w1.setCell ⟨gx, k, none⟩ (.pointer (some ⟨wr.heap.size + 1, 0, none⟩))) := But.setCell _ _ _ _
  have hset := Bk.heap_setCell (j := k) (v := .pointer (some ⟨wr.heap.size + 1, 0, none⟩)) h1.ax
  have keepR : ∀ {p x m g c rv}, RH p x m w1 g c rv → RH p x m (w1.setCell ⟨gx, k, none⟩ (.pointer (some ⟨wr.heap.size + 1, 0, none⟩))) g c rv := fun {p x m g c rv} hR => by
    obtain ⟨cur, f, hgg⟩ := row_at hR.h
    exact hR.keep (hb.block _ (apart hR.at_ h1.ax (by decide)) (heap_lt' hR.at_)) (hb.block _ (apart hgg h1.ax (by decide)) (heap_lt' hgg)) (fun b hb' => hb.block _ (fun e => row_not_at hR.r h1.ax (by decide) (e ▸ hb')) (hR.r.lt hb'))
  refine ⟨(hb.block _ (apart h1.ah h1.ax (by decide)) (heap_lt' h1.ah)).trans h1.ah, hset.trans ?_, fun i hi => (hb.block _ (apart (h1.hp i hi) h1.ax (by decide)) (heap_lt' (h1.hp i hi))).trans (h1.hp i hi), fun i hi => ?_, h.okX, fun i j hi hj hij => ⟨(h.ne i j hi hj hij).1, ?_, fun b => ?_⟩, ⟨h.lo.1, h.lo.2.1, fun i hi => ⟨(h.lo.2.2 i hi).1, ?_, fun b => ?_⟩⟩, h1.bel.trans (hb.below h.lo.2.1 h1.bel.size)⟩
  · match k, hk with
    | 0, _ => rfl
    | 1, _ => rfl
  · by_cases e : i = k
    · simp only [setQ, if_pos e]
      exact keepR hnew0
    · simp only [setQ, if_neg e]
      exact keepR (h1.hq i hi)
  · have l1 := heap_lt' (h.hq i hi).at_
    have l2 := heap_lt' (h.hq j hj).at_
    have l3 := (h.ne i j hi hj hij).2.1
    simp only [setQ]
    split <;> split <;> omega
  · have l3 := (h.ne i j hi hj hij).2.2 b
    simp only [setQ]
    split
    · simp [Value.ownBlock]
    · split
      · simp [Value.ownBlock]
      · exact l3
  · have l1 := (h.lo.2.2 i hi).2.1
    simp only [setQ]
    split <;> omega
  · have l1 := (h.lo.2.2 i hi).2.2 b
    simp only [setQ]
    split
    · simp [Value.ownBlock]
    · exact l1
end Go.Proofs.Ytlephdpplfpliaa
