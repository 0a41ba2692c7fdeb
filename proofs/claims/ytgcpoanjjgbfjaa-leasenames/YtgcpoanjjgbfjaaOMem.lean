/-
  Options in memory: such that are read; such that a call itself has made.
-/
import Derived.Test.YtgcpoanjjgbfjaaBRowT
import Derived.Test.YtgcpoanjjgbfjaaBAns
import Derived.Test.YtgcpoanjjgbfjaaBApp
import Derived.Test.YtgcpoanjjgbfjaaOMath
namespace Go.Proofs.Ytgcpoanjjgbfjaa
open Go.RowKit
set_option linter.all false

theorem infoOpt : (Try.prog.info? 38).map (fun i => (i.zero, i.size, i.bytes)) = some (some (.agg #[.int .i64 0, .slice none 0 0]), 2, 32) := by kernel_rfl
abbrev OP := Int × Part
def absO (os : List OP) : List Opt := os.map fun o => (o.1, o.2.zs)
theorem absO_len (os : List OP) : (absO os).length = os.length := by simp [absO]
theorem absO_at {os : List OP} {i : Nat} {o : OP} (h : os[i]? = some o) : (absO os)[i]? = some (o.1, o.2.zs) := by simp [absO, h]
theorem absO_take {os : List OP} {i : Nat} {o : OP} (h : os[i]? = some o) : absO (os.take (i + 1)) = absO (os.take i) ++ [(o.1, o.2.zs)] := by
  have hi : i < os.length := (List.getElem?_eq_some_iff.1 h).1
  rw [List.take_succ_eq_append_getElem hi]
  rw [List.getElem?_eq_getElem hi] at h
  simp only [Option.some.injEq] at h
  simp [absO, h]
/-- options that are only read. -/
structure OV (w : World) (a : Option Addr) (os : List OP) : Prop where
  cell : ∀ (i : Nat) o, os[i]? = some o → ∃ b off, a = some ⟨b, off, none⟩ ∧ w.cell? ⟨b, off + i * 2, none⟩ = some (.int .i64 o.1) ∧ w.cell? ⟨b, off + i * 2 + 1, none⟩ = some o.2.val
  oks : ∀ o ∈ os, o.2.ok w ∧ o.2.zs.length ≤ 140737488353280
  few : os.length ≤ 4398046511104
  nums : ∀ o ∈ os, -9223372036854775808 ≤ o.1 ∧ o.1 ≤ 9223372036854775807
theorem OV.nil (w : World) (a : Option Addr) : OV w a [] := ⟨by simp, by simp, by simp, by simp⟩
theorem OV.below {w w' : World} {a : Option Addr} {os : List OP} (h : OV w a os) (hb : Below w.heap.size w w') : OV w' a os := by
  refine ⟨fun i o ho => ?_, fun o ho => ⟨Part.ok_below (h.oks o ho).1 hb, (h.oks o ho).2⟩, h.few, h.nums⟩
  obtain ⟨b, off, e, c0, c1⟩ := h.cell i o ho
  have hl := World.block_lt_of_cell? w _ c0
  exact ⟨b, off, e, (hb.cell (p := ⟨b, off + i * 2, none⟩) hl).trans c0, (hb.cell (p := ⟨b, off + i * 2 + 1, none⟩) hl).trans c1⟩
/-- what was there below B: it lies below B. -/
structure Low (B : Nat) (w : World) (a : Option Addr) (os : List OP) : Prop where
  v : OV w a os
  row : ∀ b off, a = some ⟨b, off, none⟩ → os ≠ [] → b < B
  data : ∀ o ∈ os, ∀ b off, o.2.a = some ⟨b, off, none⟩ → o.2.zs ≠ [] → b < B
theorem Part.ok_lo {p : Part} {B : Nat} {w w' : World} (h : p.ok w) (hl : ∀ b off, p.a = some ⟨b, off, none⟩ → p.zs ≠ [] → b < B) (hb : Below B w w') : p.ok w' := by
  refine ⟨h.1, h.2.1, ?_⟩
  rcases h.2.2 with he | ⟨b, o, ha, hc⟩
  · exact Or.inl he
  · refine Or.inr ⟨b, o, ha, fun j hj => ?_⟩
    have hz : p.zs ≠ [] := fun e => by rw [e] at hj; simp at hj
    rw [hb.cell (p := ⟨b, o + j, none⟩) (hl b o ha hz), hc j hj]
theorem Part.low {p : Part} {w : World} (h : p.ok w) : ∀ b off, p.a = some ⟨b, off, none⟩ → p.zs ≠ [] → b < w.heap.size := fun b off ha hz => by
  rcases h.2.2 with he | ⟨b', o, ha', hc⟩
  · exact absurd he hz
  · rw [ha] at ha'
    simp only [Option.some.injEq, Addr.mk.injEq] at ha'
    obtain ⟨rfl, rfl, _⟩ := ha'
    exact World.block_lt_of_cell? w _ (hc 0 (List.length_pos_iff.2 hz))
theorem Low.of {w : World} {a : Option Addr} {os : List OP} (h : OV w a os) : Low w.heap.size w a os := by
  refine ⟨h, fun b off e hn => ?_, fun o ho => Part.low (h.oks o ho).1⟩
  obtain ⟨o, r, rfl⟩ := List.exists_cons_of_ne_nil hn
  obtain ⟨b', off', e', c0, _⟩ := h.cell 0 o rfl
  rw [e] at e'
  simp only [Option.some.injEq, Addr.mk.injEq] at e'
  obtain ⟨rfl, rfl, _⟩ := e'
  exact World.block_lt_of_cell? w _ c0
theorem Low.below {B : Nat} {w w' : World} {a : Option Addr} {os : List OP} (h : Low B w a os) (hb : Below B w w') : Low B w' a os := by
  refine ⟨⟨fun i o ho => ?_, fun o ho => ⟨Part.ok_lo (h.v.oks o ho).1 (h.data o ho) hb, (h.v.oks o ho).2⟩, h.v.few, h.v.nums⟩, h.row, h.data⟩
  obtain ⟨b, off, e, c0, c1⟩ := h.v.cell i o ho
  have hl := h.row b off e (fun e => by rw [e] at ho; simp at ho)
  exact ⟨b, off, e, (hb.cell (p := ⟨b, off + i * 2, none⟩) hl).trans c0, (hb.cell (p := ⟨b, off + i * 2 + 1, none⟩) hl).trans c1⟩

/-! ### Options that a call has made -/
def flatE (E : List (Opt × Value)) : List Value := E.flatMap fun p => [.int .i64 p.1.1, p.2]
theorem flatE_len : ∀ E : List (Opt × Value), (flatE E).length = E.length * 2
  | [] => rfl
  | p :: E => by have := flatE_len E; simp only [flatE, List.flatMap_cons, List.length_append, List.length_cons, List.length_nil] at this ⊢; omega
theorem flatE_snoc (E : List (Opt × Value)) (p : Opt × Value) : flatE (E ++ [p]) = flatE E ++ [.int .i64 p.1.1, p.2] := by simp [flatE]
theorem flatE_at : ∀ (E : List (Opt × Value)) (i : Nat) (p : Opt × Value), E[i]? = some p → (flatE E)[i * 2]? = some (.int .i64 p.1.1) ∧ (flatE E)[i * 2 + 1]? = some p.2
  | [], i, p, h => by simp at h
  | q :: E, 0, p, h => by simp at h; subst h; exact ⟨rfl, rfl⟩
  | q :: E, i + 1, p, h => by
    have := flatE_at E i p (by simpa using h)
    rw [show (i + 1) * 2 = i * 2 + 2 by omega]
    simpa [flatE] using this
theorem flatE_set : ∀ (E : List (Opt × Value)) (i : Nat) (p : Opt × Value) (zs : List Int) (d : Value), E[i]? = some p → flatE (E.set i ((p.1.1, zs), d)) = (flatE E).set (i * 2 + 1) d
  | [], i, p, zs, d, h => by simp at h
  | q :: E, 0, p, zs, d, h => by simp at h; subst h; simp [flatE]
  | q :: E, i + 1, p, zs, d, h => by
    have := flatE_set E i p zs d (by simpa using h)
    rw [show (i + 1) * 2 + 1 = i * 2 + 1 + 2 by omega]
    simpa [flatE] using this
theorem RowS.set {w : World} {e : TypeId} {sz g n cap : Nat} {xs : List Value} (h : RowS w e sz (.slice (some ⟨g, 0, none⟩) n cap) n xs) (j : Nat) (hj : j < xs.length) (x : Value) :
    (∃ u, w.cell? ⟨g, j, none⟩ = some u) ∧ w.frozen? ⟨g, j, none⟩ = false ∧ RowS (w.setCell ⟨g, j, none⟩ x) e sz (.slice (some ⟨g, 0, none⟩) n cap) n (xs.set j x) := by
  have h0 := h.1
  rcases h.2 with ⟨hv, _⟩ | ⟨g', cap', cur, hv, h1, hg, hl, hm, hs, ht⟩
  · simp at hv
  · simp only [Value.slice.injEq, Option.some.injEq, Addr.mk.injEq] at hv
    obtain ⟨⟨rfl, _⟩, _, rfl⟩ := hv
    refine ⟨⟨xs[j], RowS.cell h (List.getElem?_eq_getElem hj)⟩, frozen_of_heap hg j, by simpa using h0, Or.inr ⟨g, cap, cur.setIfInBounds j x, rfl, h1, heap_setCell hg, hl, hm, by simpa using hs, ?_⟩⟩
    rw [Array.toList_setIfInBounds, List.take_set, ht]
theorem Row.obj {w : World} {e : TypeId} {v : Value} {vs : List Value} (h : Row w e v vs) {b : Nat} (hb : v.ownBlock = some b) : ∃ cur f, w.heap[b]? = some (.cells cur e f) := by
  rcases h with ⟨rfl, _⟩ | ⟨g, cap, cur, lo, hi, rfl, hg, _⟩
  · simp [Value.ownBlock] at hb
  · simp [Value.ownBlock] at hb; subst hb; exact ⟨_, _, hg⟩

/-- options that a call itself has made, from block B on: each with the slice of its bytes. -/
structure OwnO (B : Nat) (w : World) (v : Value) (E : List (Opt × Value)) : Prop where
  row : RowS w 38 2 v E.length (flatE E)
  low : ∀ b, v.ownBlock = some b → B ≤ b
  data : ∀ p ∈ E, Row w 5 p.2 (u8s p.1.2)
  dlow : ∀ p ∈ E, ∀ b, p.2.ownBlock = some b → B ≤ b
  apart : ∀ (i j : Nat) p q b, i ≠ j → E[i]? = some p → E[j]? = some q → p.2.ownBlock = some b → q.2.ownBlock ≠ some b
  oks : ∀ p ∈ E, ∀ z ∈ p.1.2, 0 ≤ z ∧ z ≤ 255
/-- its blocks. -/
def InO (v : Value) (E : List (Opt × Value)) (b : Nat) : Prop := v.ownBlock = some b ∨ ∃ p ∈ E, p.2.ownBlock = some b
theorem OwnO.nil (B : Nat) (w : World) : OwnO B w (.slice none 0 0) [] := ⟨RowS.nil _ _ _, by simp [Value.ownBlock], by simp, by simp, by simp, by simp⟩
theorem OwnO.keep {B : Nat} {w w' : World} {v : Value} {E : List (Opt × Value)} (h : OwnO B w v E) (hk : ∀ b, InO v E b → w'.heap[b]? = w.heap[b]?) : OwnO B w' v E :=
  ⟨h.row.keep fun b hb => hk b (Or.inl hb), h.low, fun p hp => (h.data p hp).keep fun b hb => hk b (Or.inr ⟨p, hp, hb⟩), h.dlow, h.apart, h.oks⟩
theorem OwnO.lt {B : Nat} {w : World} {v : Value} {E : List (Opt × Value)} (h : OwnO B w v E) {b : Nat} (hb : InO v E b) : B ≤ b ∧ b < w.heap.size := by
  rcases hb with hb | ⟨p, hp, hb⟩
  · exact ⟨h.low b hb, h.row.lt hb⟩
  · exact ⟨h.dlow p hp b hb, (h.data p hp).lt hb⟩
theorem OwnO.below {B : Nat} {w w' : World} {v : Value} {E : List (Opt × Value)} (h : OwnO B w v E) (hb : Below w.heap.size w w') : OwnO B w' v E := h.keep fun b hi => hb.block b (h.lt hi).2
theorem OwnO.form {B : Nat} {w : World} {v : Value} {E : List (Opt × Value)} (h : OwnO B w v E) : ∃ a c, v = .slice a E.length c ∧ E.length ≤ maxLen := by
  obtain ⟨a, c, e, hm⟩ := h.row.form
  exact ⟨a, c, e, hm⟩
theorem OwnO.le {B B' : Nat} {w : World} {v : Value} {E : List (Opt × Value)} (h : OwnO B w v E) (hB : B' ≤ B) : OwnO B' w v E := ⟨h.row, fun b hb => Nat.le_trans hB (h.low b hb), h.data, fun p hp b hb => Nat.le_trans hB (h.dlow p hp b hb), h.apart, h.oks⟩
/-- the row is none of the bytes' blocks. -/
theorem OwnO.off {B : Nat} {w : World} {v : Value} {E : List (Opt × Value)} (h : OwnO B w v E) {b : Nat} (hb : v.ownBlock = some b) {p : Opt × Value} (hp : p ∈ E) : p.2.ownBlock ≠ some b := fun e => by
  obtain ⟨c1, h1⟩ := h.row.obj hb
  obtain ⟨c2, f2, h2⟩ := (h.data p hp).obj e
  rw [h1] at h2
  simp at h2
/-- one more behind them. -/
theorem OwnO.push {B : Nat} {w w' : World} {v v' : Value} {E : List (Opt × Value)} {c : Int} {zs : List Int} {d : Value} (h : OwnO B w v E) (hB : B ≤ w.heap.size) (hd : Row w 5 d (u8s zs)) (hz : ∀ z ∈ zs, 0 ≤ z ∧ z ≤ 255) (hl : ∀ b, d.ownBlock = some b → B ≤ b ∧ ∀ p ∈ E, p.2.ownBlock ≠ some b)
    (hr : RowS w' 38 2 v' (E.length + 1) (flatE E ++ [.int .i64 c, d])) (hg : w.grownBy w' v.ownBlock) (hv : ∀ k, v'.ownBlock = some k → v.ownBlock = some k ∨ w.heap.size ≤ k) : OwnO B w' v' (E ++ [((c, zs), d)]) ∧ Below B w w' := by
  have keep : ∀ (x : Value) (ys : List Int), Row w 5 x (u8s ys) → Row w' 5 x (u8s ys) := fun x ys hx => hx.grown hg fun b hb e => by
    obtain ⟨c1, h1⟩ := h.row.obj e
    obtain ⟨c2, f2, h2⟩ := hx.obj hb
    rw [h1] at h2
    simp at h2
  refine ⟨⟨?_, fun b hb => ?_, fun p hp => ?_, fun p hp b hb => ?_, fun i j p q b hne hi hj hb => ?_, fun p hp => ?_⟩, grown_from hg h.low hB⟩
  · rw [flatE_snoc, List.length_append]
    exact hr
  · rcases hv b hb with h1 | h1
    · exact h.low b h1
    · omega
  · rcases List.mem_append.1 hp with hp | hp
    · exact keep _ _ (h.data p hp)
    · simp at hp; subst hp; exact keep _ _ hd
  · rcases List.mem_append.1 hp with hp | hp
    · exact h.dlow p hp b hb
    · simp at hp; subst hp; exact (hl b hb).1
  · have last : ∀ (i : Nat) (p : Opt × Value), (E ++ [((c, zs), d)])[i]? = some p → E[i]? = some p ∨ (i = E.length ∧ p = ((c, zs), d)) := fun i p hi => by
      rcases Nat.lt_or_ge i E.length with h1 | h1
      · rw [List.getElem?_append_left h1] at hi; exact Or.inl hi
      · have h2 : i = E.length := by have := (List.getElem?_eq_some_iff.1 hi).1; simp at this; omega
        subst h2
        simp at hi
        exact Or.inr ⟨rfl, hi.symm⟩
    rcases last i p hi with h1 | ⟨h1, rfl⟩ <;> rcases last j q hj with h2 | ⟨h2, rfl⟩
    · exact h.apart i j p q b hne h1 h2 hb
    · exact fun e => (hl b e).2 p (List.mem_of_getElem? h1) hb
    · exact fun e => (hl b hb).2 q (List.mem_of_getElem? h2) e
    · omega
  · rcases List.mem_append.1 hp with hp | hp
    · exact h.oks p hp
    · simp at hp; subst hp; exact hz
/-- the bytes of one of them are others now. -/
theorem OwnO.turn {B : Nat} {w w1 : World} {g cap n k : Nat} {E : List (Opt × Value)} {p : Opt × Value} {zs : List Int} {d : Value} (h : OwnO B w (.slice (some ⟨g, 0, none⟩) n cap) E) (hB : B ≤ w.heap.size) (hp : E[k]? = some p) (hz : ∀ z ∈ zs, 0 ≤ z ∧ z ≤ 255)
    (hd : Row w1 5 d (u8s zs)) (hg : w.grownBy w1 p.2.ownBlock) (hv : d.ownBlock = p.2.ownBlock ∨ ∀ b, d.ownBlock = some b → w.heap.size ≤ b) :
    (∃ u, w1.cell? ⟨g, k * 2 + 1, none⟩ = some u) ∧ w1.frozen? ⟨g, k * 2 + 1, none⟩ = false ∧ OwnO B (w1.setCell ⟨g, k * 2 + 1, none⟩ d) (.slice (some ⟨g, 0, none⟩) n cap) (E.set k ((p.1.1, zs), d)) ∧ Below B w (w1.setCell ⟨g, k * 2 + 1, none⟩ d) := by
  have hk : k < E.length := (List.getElem?_eq_some_iff.1 hp).1
  have hpm := List.mem_of_getElem? hp
  obtain ⟨a0, c0, e0, _⟩ := h.form
  have hn : n = E.length := by simp at e0; exact e0.2.1
  subst hn
  have hr1 : RowS w1 38 2 (.slice (some ⟨g, 0, none⟩) E.length cap) E.length (flatE E) := h.row.keep fun b hb => hg.block b (h.row.lt hb) (fun e => h.off hb hpm e.symm)
  obtain ⟨s1, s2, s3⟩ := hr1.set (k * 2 + 1) (by rw [flatE_len]; omega) d
  obtain ⟨cr, hcr⟩ := hr1.obj (g := g) rfl
  have hgs : w1.grownBy (w1.setCell ⟨g, k * 2 + 1, none⟩ d) (some g) := grown_setCell w1 g _ d
  have keep1 : ∀ (x : Value) (ys : List Int), Row w1 5 x (u8s ys) → Row (w1.setCell ⟨g, k * 2 + 1, none⟩ d) 5 x (u8s ys) := fun x ys hx => hx.grown hgs fun b hb e => by
    simp only [Option.some.injEq] at e
    subst e
    obtain ⟨c2, f2, h2⟩ := hx.obj hb
    rw [hcr] at h2
    simp at h2
  have dB : ∀ b, d.ownBlock = some b → B ≤ b := fun b hb => by
    rcases hv with h1 | h1
    · exact h.dlow p hpm b (by rw [← h1]; exact hb)
    · have := h1 b hb; omega
  have other : ∀ (i : Nat) (q : Opt × Value), i ≠ k → E[i]? = some q → Row (w1.setCell ⟨g, k * 2 + 1, none⟩ d) 5 q.2 (u8s q.1.2) ∧ ∀ b, q.2.ownBlock = some b → d.ownBlock ≠ some b := fun i q hne hi => by
    refine ⟨keep1 _ _ ((h.data q (List.mem_of_getElem? hi)).grown hg fun b hb e => h.apart i k q p b hne hi hp hb e), fun b hb e => ?_⟩
    rcases hv with h1 | h1
    · exact h.apart i k q p b hne hi hp hb (by rw [← h1]; exact e)
    · have := h1 b e
      have := (h.data q (List.mem_of_getElem? hi)).lt hb
      omega
  have cases_ : ∀ (i : Nat) (q : Opt × Value), (E.set k ((p.1.1, zs), d))[i]? = some q → (i ≠ k ∧ E[i]? = some q) ∨ (i = k ∧ q = ((p.1.1, zs), d)) := fun i q hi => by
    by_cases hik : i = k
    · subst hik
      rw [List.getElem?_set_self hk] at hi
      simp at hi
      exact Or.inr ⟨rfl, hi.symm⟩
    · rw [List.getElem?_set_ne (fun e => hik e.symm)] at hi
      exact Or.inl ⟨hik, hi⟩
  have mem_ : ∀ q, q ∈ E.set k ((p.1.1, zs), d) → (∃ i, i ≠ k ∧ E[i]? = some q) ∨ q = ((p.1.1, zs), d) := fun q hq => by
    obtain ⟨i, hi⟩ := List.getElem?_of_mem hq
    rcases cases_ i q hi with ⟨h1, h2⟩ | ⟨_, h2⟩
    · exact Or.inl ⟨i, h1, h2⟩
    · exact Or.inr h2
  refine ⟨s1, s2, ⟨?_, h.low, fun q hq => ?_, fun q hq b hb => ?_, fun i j q q' b hne hi hj hb => ?_, fun q hq => ?_⟩, ?_⟩
  · rw [flatE_set E k p zs d hp, List.length_set]
    exact s3
  · rcases mem_ q hq with ⟨i, h1, h2⟩ | rfl
    · exact (other i q h1 h2).1
    · exact keep1 _ _ hd
  · rcases mem_ q hq with ⟨i, h1, h2⟩ | rfl
    · exact h.dlow q (List.mem_of_getElem? h2) b hb
    · exact dB b hb
  · rcases cases_ i q hi with ⟨h1, h2⟩ | ⟨h1, rfl⟩ <;> rcases cases_ j q' hj with ⟨h3, h4⟩ | ⟨h3, rfl⟩
    · exact h.apart i j q q' b hne h2 h4 hb
    · exact (other i q h1 h2).2 b hb
    · exact fun e => (other j q' h3 h4).2 b e hb
    · omega
  · rcases mem_ q hq with ⟨i, h1, h2⟩ | rfl
    · exact h.oks q (List.mem_of_getElem? h2)
    · exact hz
  · refine (grown_from hg (fun b hb => h.dlow p hpm b hb) hB).trans ?_
    exact grown_from hgs (fun b hb => by simp only [Option.some.injEq] at hb; subst hb; exact h.low g rfl) (Nat.le_trans hB hg.size)
/-- as options that are read. -/
def ptOf (p : Opt × Value) : OP := (p.1.1, match p.2 with | .slice a _ c => ⟨a, c, p.1.2⟩ | _ => ⟨none, 0, p.1.2⟩)
theorem ptOf_abs (E : List (Opt × Value)) : absO (E.map ptOf) = E.map Prod.fst := by
  simp only [absO, List.map_map]
  apply List.map_congr_left
  rintro ⟨⟨c, zs⟩, d⟩ _
  simp only [Function.comp, ptOf]
  cases d <;> rfl
theorem Row.ptOf {w : World} {p : Opt × Value} (h : Row w 5 p.2 (u8s p.1.2)) (hz : ∀ z ∈ p.1.2, 0 ≤ z ∧ z ≤ 255) : (ptOf p).2.val = p.2 ∧ (ptOf p).2.ok w ∧ (Go.Proofs.Ytgcpoanjjgbfjaa.ptOf p).2.zs = p.1.2 := by
  obtain ⟨⟨c, zs⟩, d⟩ := p
  obtain ⟨pt, e1, e2, ok⟩ := h.part hz
  simp only at e1 e2
  subst e2
  obtain ⟨a, c', zs⟩ := pt
  simp only [Part.val] at e1
  subst e1
  exact ⟨rfl, ok, rfl⟩
theorem OwnO.view {B : Nat} {w : World} {a : Option Addr} {n c : Nat} {E : List (Opt × Value)} (h : OwnO B w (.slice a n c) E) (hl : ∀ p ∈ E, p.1.2.length ≤ 140737488353280) (hf : E.length ≤ 4398046511104) (hc : ∀ p ∈ E, -9223372036854775808 ≤ p.1.1 ∧ p.1.1 ≤ 9223372036854775807) : OV w a (E.map ptOf) ∧ n = E.length := by
  obtain ⟨a0, c0, e0, _⟩ := h.form
  simp only [Value.slice.injEq] at e0
  obtain ⟨rfl, rfl, rfl⟩ := e0
  refine ⟨⟨fun i o ho => ?_, fun o ho => ?_, by simpa using hf, fun o ho => ?_⟩, rfl⟩
  · rw [List.getElem?_map] at ho
    cases hp : E[i]? with
    | none => rw [hp] at ho; simp at ho
    | some p =>
      rw [hp] at ho
      simp only [Option.map_some, Option.some.injEq] at ho
      subst ho
      have hpm := List.mem_of_getElem? hp
      obtain ⟨g, cap, e, _, _⟩ := h.row.some_of (by have := (List.getElem?_eq_some_iff.1 hp).1; omega)
      simp only [Value.slice.injEq] at e
      obtain ⟨rfl, _, rfl⟩ := e
      obtain ⟨f0, f1⟩ := flatE_at E i p hp
      refine ⟨g, 0, rfl, by rw [Nat.zero_add]; exact h.row.cell f0, by rw [Nat.zero_add, (Row.ptOf (h.data p hpm) (h.oks p hpm)).1]; exact h.row.cell f1⟩
  · obtain ⟨p, hp, rfl⟩ := List.mem_map.1 ho
    have := Row.ptOf (h.data p hp) (h.oks p hp)
    exact ⟨this.2.1, by rw [this.2.2]; exact hl p hp⟩
  · obtain ⟨p, hp, rfl⟩ := List.mem_map.1 ho
    exact hc p hp
end Go.Proofs.Ytgcpoanjjgbfjaa
