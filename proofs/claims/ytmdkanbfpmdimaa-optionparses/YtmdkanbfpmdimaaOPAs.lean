/-
  The contract of the statements' own function asLentParts.
-/
import Derived.Test.YtmdkanbfpmdimaaOPLen
namespace Go.Proofs.Ytmdkanbfpmdimaa
open Go.RowKit
set_option linter.all false

/-- blocks from lo to below hi may have turned, and new ones come. -/
structure Btw (lo hi : Nat) (w w' : World) : Prop where
  os : w'.os = w.os
  tape : w'.tape = w.tape
  output : w'.output = w.output
  size : w.heap.size ≤ w'.heap.size
  block : ∀ k, k < w.heap.size → (k < lo ∨ hi ≤ k) → w'.heap[k]? = w.heap[k]?
theorem Btw.refl (lo hi : Nat) (w : World) : Btw lo hi w w := ⟨rfl, rfl, rfl, Nat.le_refl _, fun _ _ _ => rfl⟩
theorem Btw.trans {lo hi : Nat} {x y z : World} (h : Btw lo hi x y) (k : Btw lo hi y z) : Btw lo hi x z :=
  ⟨k.os.trans h.os, k.tape.trans h.tape, k.output.trans h.output, Nat.le_trans h.size k.size, fun i hi hn => (k.block i (Nat.lt_of_lt_of_le hi h.size) hn).trans (h.block i hi hn)⟩
theorem Btw.of_but {lo hi g : Nat} {w w' : World} (h : But g w w') (h1 : lo ≤ g) (h2 : g < hi) : Btw lo hi w w' := ⟨h.os, h.tape, h.output, h.size, fun k hk hn => h.block k (by omega) hk⟩
theorem Btw.below {lo hi B : Nat} {w w' : World} (h : Btw lo hi w w') (hB : B ≤ lo) (hs : B ≤ w.heap.size) : Below B w w' := ⟨h.os, h.tape, h.output, h.size, fun k hk => h.block k (by omega) (Or.inl (by omega))⟩
/-- parts as their owner handed them in, still as they were. -/
structure LpK (wz : World) (ga : Nat) (ps : List Part) (X : Array Value) : Prop where
  box : wz.heap[ga]? = some (.cells X 41 (0, 0))
  size : X.size = ps.length + 1
  row : ∀ (i : Nat) p, ps[i]? = some p → X[i]? = some (.slice (some ⟨ga + 1 + i, 0, none⟩) p.zs.length (p.zs.length + 2)) ∧ wz.heap[ga + 1 + i]? = some (.cells (L2 p.zs) 5 (0, 0))
  mark : X[ps.length]? = some (.slice (some ⟨ga + 1 + ps.length, 0, none⟩) 6 6)
  text : wz.heap[ga + 1 + ps.length]? = some (.cells behindC 5 (6, 7))
theorem LpF.k {w wr : World} {ga : Nat} {ps : List Part} {X : Array Value} (h : LpF w wr ga ps X) : LpK wr ga ps X := ⟨h.box, h.size, h.row, h.mark, h.text⟩
theorem LpK.lt {w : World} {ga : Nat} {ps : List Part} {X : Array Value} (h : LpK w ga ps X) : ∀ k, ga ≤ k → k < ga + 2 + ps.length → k < w.heap.size := fun k h1 h2 => by
  have := heap_lt h.text
  omega
theorem LpK.keep {w w' : World} {ga : Nat} {ps : List Part} {X : Array Value} (h : LpK w ga ps X) (hk : ∀ k, ga ≤ k → k < ga + 2 + ps.length → w'.heap[k]? = w.heap[k]?) : LpK w' ga ps X :=
  ⟨(hk ga (Nat.le_refl _) (by omega)).trans h.box, h.size, fun i p hp => by
    obtain ⟨r1, r3⟩ := h.row i p hp
    have hi := (List.getElem?_eq_some_iff.1 hp).1
    exact ⟨r1, (hk (ga + 1 + i) (by omega) (by omega)).trans r3⟩, h.mark, (hk _ (by omega) (by omega)).trans h.text⟩
theorem LpK.below {w w' : World} {ga : Nat} {ps : List Part} {X : Array Value} (h : LpK w ga ps X) (hb : Below w.heap.size w w') : LpK w' ga ps X := h.keep fun k h1 h2 => hb.block k (h.lt k h1 h2)
/-- what the program is handed. -/
def lentPs (ga : Nat) (ps : List Part) : List Part := ps.mapIdx fun i p => ⟨some ⟨ga + 1 + i, 0, none⟩, p.zs.length + 2, p.zs⟩
theorem lentPs_len (ga : Nat) (ps : List Part) : (lentPs ga ps).length = ps.length := by simp [lentPs]
theorem lentPs_zs (ga : Nat) (ps : List Part) : partsZ (lentPs ga ps) = partsZ ps := by
  apply List.ext_getElem?
  intro i
  simp only [partsZ, lentPs, List.getElem?_map, List.getElem?_mapIdx]
  cases ps[i]? <;> rfl
theorem LpK.view {w w0 : World} {a : Option Addr} {ga : Nat} {ps : List Part} {X : Array Value} (h : LpK w ga ps X) (hv : PV w0 a ps) : PV w (some ⟨ga, 0, none⟩) (lentPs ga ps) := by
  have each : ∀ (i : Nat) q, (lentPs ga ps)[i]? = some q → ∃ p, ps[i]? = some p ∧ q = ⟨some ⟨ga + 1 + i, 0, none⟩, p.zs.length + 2, p.zs⟩ := fun i q hq => by
    simp only [lentPs, List.getElem?_mapIdx] at hq
    cases hp : ps[i]? with
    | none => rw [hp] at hq; simp at hq
    | some p => rw [hp] at hq; simp only [Option.map_some, Option.some.injEq] at hq; exact ⟨p, rfl, hq.symm⟩
  refine ⟨fun i q hq => ?_, fun q hq => ?_⟩
  · obtain ⟨p, hp, rfl⟩ := each i q hq
    obtain ⟨r1, r3⟩ := h.row i p hp
    exact ⟨ga, 0, rfl, by rw [Nat.zero_add, cell_of_heap h.box]; exact r1⟩
  · obtain ⟨i, hi⟩ := List.getElem?_of_mem hq
    obtain ⟨p, hp, rfl⟩ := each i q hi
    obtain ⟨r1, r3⟩ := h.row i p hp
    exact Part.of_heap r3 0 (by omega) (fun j hj => by rw [Nat.zero_add]; exact L2_lo _ _ hj) (hv.oks p (List.mem_of_getElem? hp)).1
/-- behind k rounds. -/
def AspI (wz wr : World) (ga : Nat) (ps : List Part) (k : Nat) (X : Array Value) : Prop := ∃ Y : Array Value, wr.heap[ga]? = some (.cells Y 41 (0, 0)) ∧ Y.size = ps.length + 1 ∧ (∀ i, k ≤ i → Y[i]? = X[i]?) ∧ (∀ (i : Nat) p, k ≤ i → ps[i]? = some p → wr.heap[ga + 1 + i]? = some (.cells (L2 p.zs) 5 (0, 0))) ∧ Btw ga (ga + 2 + ps.length) wz wr
theorem AspI.step {w wr w2 : World} {ga k : Nat} {ps : List Part} {X : Array Value} (h : AspI w wr ga ps k X) (hk : k < ps.length) (hb : But (ga + 1 + k) wr w2) (v : Value) : AspI w (w2.setCell ⟨ga, k, none⟩ v) ga ps (k + 1) X := by
  obtain ⟨Y, h1, h2, h3, h4, h5⟩ := h
  have hb2 : w2.heap[ga]? = some (.cells Y 41 (0, 0)) := (hb.block ga (by omega) (heap_lt h1)).trans h1
  refine ⟨Y.setIfInBounds k v, heap_setCell hb2, by simpa using h2, fun i hi => ?_, fun i p hi hp => ?_, (h5.trans (Btw.of_but hb (by omega) (by omega))).trans (Btw.of_but (But.setCell ga w2 k v) (Nat.le_refl _) (by omega))⟩
  · rw [Array.getElem?_setIfInBounds_ne (by omega)]
    exact h3 i (by omega)
  · have h6 := h4 i p (by omega) hp
    have hg : ga + 1 + i ≠ ga := by omega
    rw [Below.heap_setCell _ _ _ _ (by simpa using hg)]
    exact (hb.block (ga + 1 + i) (by omega) (heap_lt h6)).trans h6
set_option maxRecDepth 20000 in
set_option maxHeartbeats 4000000 in
theorem asLentP_any (ga B : Nat) (X : Array Value) (a : Option Addr) (c : Nat) (ps : List Part) (w : World) (hk : LpK w ga ps X) (hl : PLow B w a ps) (hB : B ≤ ga) (hf : ps.length ≤ 5864062014804) (hz : ∀ p ∈ ps, p.zs.length ≤ 140737488353280) :
    Calls Try.prog 10 #[.slice (some ⟨ga, 0, none⟩) ps.length (ps.length + 1), .slice a ps.length c] w fun e w' => e = .returned (.bool true) ∧ Hid (Btw ga (ga + 2 + ps.length) w w') := by
  have HI0 : Hid (AspI w w ga ps 0 X) := ⟨X, hk.box, hk.size, fun _ _ => rfl, fun i p _ hp => (hk.row i p hp).2, Btw.refl _ _ _⟩
  have HK := hid hk
  have HL := hid hl
  have HZ := hid hz
  have HSB : Hid (B ≤ w.heap.size) := hid (by have := heap_lt hk.box; omega)
  have k0 : w.cell? ⟨ga, ps.length, none⟩ = some (.slice (some ⟨ga + 1 + ps.length, 0, none⟩) 6 6) := by rw [cell_of_heap hk.box]; exact hk.mark
  have hcv : (convert 41 9 (.slice (some ⟨ga + 1 + ps.length, 0, none⟩) 6 6)).run Try.prog w = .ok (.string ⟨#[98, 101, 104, 105, 110, 100]⟩) w := by
    have := conv_part ⟨some ⟨ga + 1 + ps.length, 0, none⟩, 6, [98, 101, 104, 105, 110, 100]⟩ w (Part.of_heap hk.text 0 (by simp) (fun j hj => by
      simp only [List.length_cons, List.length_nil] at hj
      have : j = 0 ∨ j = 1 ∨ j = 2 ∨ j = 3 ∨ j = 4 ∨ j = 5 := by omega
      rcases this with rfl | rfl | rfl | rfl | rfl | rfl <;> rfl) (by simp))
    exact this
  obtain ⟨n, hn⟩ : ∃ n, n = ps.length := ⟨_, rfl⟩
  have HN := hid hn
  rw [← hn] at hf k0 hcv ⊢
  clear hk hl hn hz
  have hn1 : (n : Int) < (n : Int) + 1 := by omega
  have hn4 : (n : Int) + 1 ≤ ((n + 1 : Nat) : Int) := by omega
  go_enter Try.func10, Try.ntmps10
  go_wp2
  clear k0 hcv
  go_loopw [6, 7, 8] (fun g i _ wr => ∃ k : Nat, k ≤ n ∧ g = .bool true ∧ i = .int .i64 k ∧ Hid (AspI w wr ga ps k X)) (fun _ i _ _ => n - (intOf i).toNat)
  case atStart => exact ⟨0, Nat.zero_le _, rfl, rfl, HI0⟩
  case round =>
    obtain ⟨k, hk, rfl, rfl, HI⟩ := hrel
    clear HI0
    by_cases hlt : k < n
    · have hlt' : (k : Int) < n := by omega
      obtain ⟨⟨ad, cp, zs⟩, hp⟩ : ∃ p, ps[k]? = some p := ⟨ps[k]'(by rw [← HN.out]; exact hlt), List.getElem?_eq_getElem _⟩
      have hB' : Below B w wr := by obtain ⟨_, _, _, _, _, hb⟩ := HI.out; exact hb.below hB HSB.out
      obtain ⟨b, off, ea, c0⟩ := (HL.out.below hB').v.cell k _ hp
      have hok := (HL.out.below hB').v.oks _ (List.mem_of_getElem? hp)
      have hzl := HZ.out _ (List.mem_of_getElem? hp)
      obtain ⟨r1, r2⟩ := HK.out.row k _ hp
      obtain ⟨Y, y1, y2, y3, y4, y5⟩ := HI.out
      have hg := y4 k _ (Nat.le_refl _) hp
      simp only [Part.val] at c0 r1 hg hzl
      have hlb : b < B := HL.out.row b off ea (fun e => by rw [e] at hp; simp at hp)
      subst ea
      have d1 : wr.cell? ⟨ga, k, none⟩ = some (.slice (some ⟨ga + 1 + k, 0, none⟩) zs.length (zs.length + 2)) := by rw [cell_of_heap y1, y3 k (Nat.le_refl _)]; exact r1
      have CD : Calls Try.prog 24 #[.slice (some ⟨ga + 1 + k, 0, none⟩) zs.length (zs.length + 2), .slice ad zs.length cp] wr.drew fun e w' => e = .returned (.bool true) ∧ w'.cell? ⟨ga, k, none⟩ = some (.slice (some ⟨ga + 1 + k, 0, none⟩) zs.length (zs.length + 2)) ∧ w'.frozen? ⟨ga, k, none⟩ = false ∧ Hid (But (ga + 1 + k) wr w') := by
        have hb0 : Below wr.heap.size wr wr.drew := (Below.refl _ _).drew
        refine (asLent_any (ga + 1 + k) ⟨ad, cp, zs⟩ wr.drew (Part.ok_below hok hb0) hzl hg).mono ?_
        rintro e w' ⟨h1, h2⟩
        have hbb : But (ga + 1 + k) wr w' := (But.of_below hb0).trans h2
        have hbx := keptBut y1 hbb (by omega)
        exact ⟨h1, by rw [hbb.cell (p := ⟨ga, k, none⟩) (by simp only; omega) (heap_lt y1)]; exact d1, frozen_of_heap hbx k, hbb⟩
      have HST : Hid (∀ w2, But (ga + 1 + k) wr w2 → ∀ v, AspI w (w2.setCell ⟨ga, k, none⟩ v) ga ps (k + 1) X) := fun w2 hb v => HI.out.step (by rw [← HN.out]; exact hlt) hb v
      have hk1 : k < n + 1 := by omega
      have hk1' : (k : Int) < (n : Int) + 1 := by omega
      clear hp hok hzl r1 r2 y1 y2 y3 y4 y5 hg HI
      go_wp2
      go_region_with (first
        | (go_at_call 24; refine CD.mono ?_; rintro e w2 ⟨rfl, e0, f0, HW⟩))
      all_goals (try go_wp2)
      all_goals
        refine ⟨⟨k + 1, by omega, rfl, by go_num, HST.out _ HW.out _⟩, ?_⟩
        simp [intOf]
        omega
    · have hge : ¬ (k : Int) < n := by omega
      have HB : Hid (Btw ga (ga + 2 + n) w wr) := hid (by
        obtain ⟨_, _, _, _, _, hb⟩ := HI.out
        rw [HN.out]
        exact hb)
      clear HI HK HL HN
      go_wp2
      go_ret
      exact ⟨rfl, HB.out⟩
end Go.Proofs.Ytmdkanbfpmdimaa
