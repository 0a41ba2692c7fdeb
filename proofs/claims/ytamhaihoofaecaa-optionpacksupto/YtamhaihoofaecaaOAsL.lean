/-
  The contract of slipwayref15.AsLent.
-/
import Derived.Test.YtamhaihoofaecaaOLent
namespace Go.Proofs.Ytamhaihoofaecaa
open Go.RowKit
set_option linter.all false

/-- blocks from lo to below hi may have turned, and new ones come. -/
structure Btw (lo hi : Nat) (w w' : World) : Prop where
  os : w'.os = w.os
  tape : w'.tape = w.tape
  output : w'.output = w.output
  size : w.heap.size ≤ w'.heap.size
  block : ∀ k, k < w.heap.size → (k < lo ∨ hi ≤ k) → w'.heap[k]? = w.heap[k]?
theorem Btw.refl (lo hi : Nat) (w : World) : Btw lo hi w w := ⟨rfl, rfl, rfl, Nat.le_refl _, fun _ _ _ => rfl⟩
theorem Btw.trans {lo hi : Nat} {x y z : World} (h : Btw lo hi x y) (k : Btw lo hi y z) : Btw lo hi x z :=
  ⟨k.os.trans h.os, k.tape.trans h.tape, k.output.trans h.output, Nat.le_trans h.size k.size, fun i hi hn => (k.block i (Nat.lt_of_lt_of_le hi h.size) hn).trans (h.block i hi hn)⟩
theorem Btw.of_but {lo hi g : Nat} {w w' : World} (h : But g w w') (h1 : lo ≤ g) (h2 : g < hi) : Btw lo hi w w' := ⟨h.os, h.tape, h.output, h.size, fun k hk hn => h.block k (by omega) hk⟩
theorem Btw.of_below {lo hi : Nat} {w w' : World} (h : Below w.heap.size w w') : Btw lo hi w w' := ⟨h.os, h.tape, h.output, h.size, fun k hk _ => h.block k hk⟩
theorem Btw.below {lo hi B : Nat} {w w' : World} (h : Btw lo hi w w') (hB : B ≤ lo) (hs : B ≤ w.heap.size) : Below B w w' := ⟨h.os, h.tape, h.output, h.size, fun k hk => h.block k (by omega) (Or.inl (by omega))⟩
/-- options as their owner handed them in, still as they were. -/
structure LentK (wz : World) (ga : Nat) (os : List OP) (X : Array Value) : Prop where
  box : wz.heap[ga]? = some (.cells X 58 (0, 0))
  size : X.size = (os.length + 2) * 2
  row : ∀ (i : Nat) o, os[i]? = some o → X[i * 2]? = some (.int .i64 o.1) ∧ X[i * 2 + 1]? = some (.slice (some ⟨ga + 1 + i, 0, none⟩) o.2.zs.length (o.2.zs.length + 2)) ∧ wz.heap[ga + 1 + i]? = some (.cells (L2 o.2.zs) 5 (0, 0))
  m0 : X[os.length * 2]? = some (.int .i64 71)
  m1 : X[os.length * 2 + 1]? = some (.slice none 0 0)
  m2 : X[(os.length + 1) * 2]? = some (.int .i64 72)
  m3 : X[(os.length + 1) * 2 + 1]? = some (.slice none 0 0)
theorem LentF.k {w wr : World} {ga : Nat} {os : List OP} {X : Array Value} (h : LentF w wr ga os X) : LentK wr ga os X :=
  ⟨h.i.box, h.i.size, fun i o ho => h.i.row i o (List.getElem?_eq_some_iff.1 ho).1 ho, h.m0, h.m1, h.m2, h.m3⟩
theorem LentK.keep {w w' : World} {ga : Nat} {os : List OP} {X : Array Value} (h : LentK w ga os X) (hk : ∀ k, ga ≤ k → k < ga + 1 + os.length → w'.heap[k]? = w.heap[k]?) : LentK w' ga os X :=
  ⟨(hk ga (Nat.le_refl _) (by omega)).trans h.box, h.size, fun i o ho => by
    obtain ⟨r1, r2, r3⟩ := h.row i o ho
    have hi := (List.getElem?_eq_some_iff.1 ho).1
    exact ⟨r1, r2, (hk (ga + 1 + i) (by omega) (by omega)).trans r3⟩, h.m0, h.m1, h.m2, h.m3⟩
theorem LentK.lt {w : World} {ga : Nat} {os : List OP} {X : Array Value} (h : LentK w ga os X) : ∀ k, ga ≤ k → k < ga + 1 + os.length → k < w.heap.size := fun k h1 h2 => by
  rcases Nat.lt_or_ge ga k with h3 | h3
  · obtain ⟨i, rfl⟩ : ∃ i, k = ga + 1 + i := ⟨k - (ga + 1), by omega⟩
    have hi : i < os.length := by omega
    exact heap_lt (h.row i _ (List.getElem?_eq_getElem hi)).2.2
  · have : k = ga := by omega
    subst this
    exact heap_lt h.box
theorem LentK.below {w w' : World} {ga : Nat} {os : List OP} {X : Array Value} (h : LentK w ga os X) (hb : Below w.heap.size w w') : LentK w' ga os X := h.keep fun k h1 h2 => hb.block k (h.lt k h1 h2)
/-- what the program is handed. -/
def lentOs (ga : Nat) (os : List OP) : List OP := os.mapIdx fun i o => (o.1, ⟨some ⟨ga + 1 + i, 0, none⟩, o.2.zs.length + 2, o.2.zs⟩)
theorem lentOs_len (ga : Nat) (os : List OP) : (lentOs ga os).length = os.length := by simp [lentOs]
theorem lentOs_abs (ga : Nat) (os : List OP) : absO (lentOs ga os) = absO os := by
  apply List.ext_getElem?
  intro i
  simp only [absO, lentOs, List.getElem?_map, List.getElem?_mapIdx]
  cases os[i]? <;> rfl
theorem LentK.view {w w0 : World} {a : Option Addr} {ga : Nat} {os : List OP} {X : Array Value} (h : LentK w ga os X) (hv : OV w0 a os) : OV w (some ⟨ga, 0, none⟩) (lentOs ga os) := by
  have each : ∀ (i : Nat) q, (lentOs ga os)[i]? = some q → ∃ o, os[i]? = some o ∧ q = (o.1, ⟨some ⟨ga + 1 + i, 0, none⟩, o.2.zs.length + 2, o.2.zs⟩) := fun i q hq => by
    simp only [lentOs, List.getElem?_mapIdx] at hq
    cases ho : os[i]? with
    | none => rw [ho] at hq; simp at hq
    | some o => rw [ho] at hq; simp only [Option.map_some, Option.some.injEq] at hq; exact ⟨o, rfl, hq.symm⟩
  refine ⟨fun i q hq => ?_, fun q hq => ?_, by rw [lentOs_len]; exact hv.few, fun q hq => ?_⟩
  · obtain ⟨o, ho, rfl⟩ := each i q hq
    obtain ⟨r1, r2, r3⟩ := h.row i o ho
    exact ⟨ga, 0, rfl, by rw [Nat.zero_add, cell_of_heap h.box]; exact r1, by rw [Nat.zero_add, cell_of_heap h.box]; exact r2⟩
  · obtain ⟨i, hi⟩ := List.getElem?_of_mem hq
    obtain ⟨o, ho, rfl⟩ := each i q hi
    obtain ⟨r1, r2, r3⟩ := h.row i o ho
    have hok := hv.oks o (List.mem_of_getElem? ho)
    exact ⟨Part.of_heap r3 0 (by omega) (fun j hj => by rw [Nat.zero_add]; exact L2_lo _ _ hj) hok.1.1, hok.2⟩
  · obtain ⟨i, hi⟩ := List.getElem?_of_mem hq
    obtain ⟨o, ho, rfl⟩ := each i q hi
    exact hv.nums o (List.mem_of_getElem? ho)
/-- behind k rounds of the first loop. -/
structure AsI (wz wr : World) (ga : Nat) (os : List OP) (k : Nat) (X : Array Value) : Prop where
  box : wr.heap[ga]? = some (.cells X 58 (0, 0))
  rest : ∀ (i : Nat) o, k ≤ i → os[i]? = some o → wr.heap[ga + 1 + i]? = some (.cells (L2 o.2.zs) 5 (0, 0))
  btw : Btw ga (ga + 1 + os.length) wz wr
theorem AsI.step {w wr w2 : World} {ga k : Nat} {os : List OP} {X : Array Value} (h : AsI w wr ga os k X) (hk : k < os.length) (hb : But (ga + 1 + k) wr w2) (nq : Nat) : AsI w (w2.drewN nq) ga os (k + 1) X := by
  refine ⟨(hb.block ga (by omega) (heap_lt h.box)).trans h.box, fun i o hi ho => ?_, (h.btw.trans (Btw.of_but hb (by omega) (by omega))).trans (Btw.of_but (But.drewN ga w2 nq) (Nat.le_refl _) (by omega))⟩
  have h1 := h.rest i o (by omega) ho
  exact (hb.block (ga + 1 + i) (by omega) (heap_lt h1)).trans h1
set_option maxRecDepth 20000 in
set_option maxHeartbeats 4000000 in
theorem asLentO_any (ga B : Nat) (X : Array Value) (a : Option Addr) (c : Nat) (os : List OP) (w : World) (hk : LentK w ga os X) (hl : Low B w a os) (hB : B ≤ ga) :
    Calls Try.prog 13 #[.slice (some ⟨ga, 0, none⟩) os.length (os.length + 2), .slice a os.length c] w fun e w' => e = .returned (.bool true) ∧ Hid (Btw ga (ga + 1 + os.length) w w') := by
  have HI0 : Hid (AsI w w ga os 0 X) := ⟨hk.box, fun i o _ ho => (hk.row i o ho).2.2, Btw.refl _ _ _⟩
  have HK := hid hk
  have HL := hid hl
  have HSB : Hid (B ≤ w.heap.size) := hid (by have := heap_lt hk.box; omega)
  have k0 : w.cell? ⟨ga, os.length * 2, none⟩ = some (.int .i64 71) := by rw [cell_of_heap hk.box]; exact hk.m0
  have k1 : w.cell? ⟨ga, os.length * 2 + 1, none⟩ = some (.slice none 0 0) := by rw [cell_of_heap hk.box]; exact hk.m1
  have k2 : w.cell? ⟨ga, (os.length + 1) * 2, none⟩ = some (.int .i64 72) := by rw [cell_of_heap hk.box]; exact hk.m2
  have k3 : w.cell? ⟨ga, (os.length + 1) * 2 + 1, none⟩ = some (.slice none 0 0) := by rw [cell_of_heap hk.box]; exact hk.m3
  obtain ⟨n, hn⟩ : ∃ n, n = os.length := ⟨_, rfl⟩
  have HN := hid hn
  have hf := hl.v.few
  rw [← hn] at hf k0 k1 k2 k3 ⊢
  clear hk hl hn
  have hn1 : (n : Int) < (n : Int) + 2 := by omega
  have hn2 : (n : Int) + 1 < (n : Int) + 2 := by omega
  have hn4 : (n : Int) + 2 ≤ ((n + 2 : Nat) : Int) := by omega
  go_enter Try.func13, Try.ntmps13
  go_wp2
  clear k0 k1 k2 k3
  go_loopw [6, 7] (fun g i wr => ∃ k : Nat, k ≤ n ∧ g = .bool true ∧ i = .int .i64 k ∧ Hid (AsI w wr ga os k X)) (fun _ i _ => n - (intOf i).toNat)
  case atStart => exact ⟨0, Nat.zero_le _, rfl, rfl, HI0⟩
  case round =>
    obtain ⟨k, hk, rfl, rfl, HI⟩ := hrel
    clear HI0
    by_cases hlt : k < n
    · have hlt' : (k : Int) < n := by omega
      obtain ⟨⟨cd, ad, cp, zs⟩, ho⟩ : ∃ o, os[k]? = some o := ⟨os[k]'(by rw [← HN.out]; exact hlt), List.getElem?_eq_getElem _⟩
      have hB' : Below B w wr := HI.out.btw.below hB HSB.out
      obtain ⟨b, off, ea, c0, c1⟩ := (HL.out.below hB').v.cell k _ ho
      have hok := (HL.out.below hB').v.oks _ (List.mem_of_getElem? ho)
      obtain ⟨r1, r2, r3⟩ := HK.out.row k _ ho
      have hg := HI.out.rest k _ (Nat.le_refl _) ho
      simp only [Part.val] at c0 c1 r1 r2 hg
      have hlb : b < B := HL.out.row b off ea (fun e => by rw [e] at ho; simp at ho)
      subst ea
      have d0 : wr.cell? ⟨ga, k * 2, none⟩ = some (.int .i64 cd) := by rw [cell_of_heap HI.out.box]; exact r1
      have d1 : wr.cell? ⟨ga, k * 2 + 1, none⟩ = some (.slice (some ⟨ga + 1 + k, 0, none⟩) zs.length (zs.length + 2)) := by rw [cell_of_heap HI.out.box]; exact r2
      have CL : ∀ wx : World, wx.heap = wr.heap → Below wr.heap.size wr wx → Calls Try.prog 38 #[.slice (some ⟨ga + 1 + k, 0, none⟩) zs.length (zs.length + 2), .slice ad zs.length cp] wx fun e w' => e = .returned (.bool true) ∧ w'.cell? ⟨ga, k * 2, none⟩ = some (.int .i64 cd) ∧ w'.cell? ⟨b, off + k * 2, none⟩ = some (.int .i64 cd) ∧ Hid (But (ga + 1 + k) wr w') := fun wx he hb => by
        refine (asLent_any (ga + 1 + k) ⟨ad, cp, zs⟩ wx (Part.ok_below hok.1 hb) hok.2 (by rw [he]; exact hg)).mono ?_
        rintro e w' ⟨h1, h2⟩
        have hbb : But (ga + 1 + k) wr w' := (But.of_below hb).trans h2
        exact ⟨h1, by rw [hbb.cell (p := ⟨ga, k * 2, none⟩) (by simp only; omega) (heap_lt HI.out.box)]; exact d0, by rw [hbb.cell (p := ⟨b, off + k * 2, none⟩) (by simp only; omega) (World.block_lt_of_cell? wr _ c0)]; exact c0, hbb⟩
      have CD := CL wr.drew rfl (Below.refl _ _).drew
      have HO := hid ho
      clear CL ho hok r1 r2 r3 hg
      have hcc : (cd == cd) = true := by simp
      go_wp2
      go_region_with (first
        | (go_at_call 38; refine CD.mono ?_; rintro e w2 ⟨rfl, e0, e1, HW⟩))
      all_goals (try go_wp2)
      all_goals (go_quiet (fail))
      all_goals (try go_wp2)
      all_goals
        refine ⟨⟨k + 1, by omega, rfl, by go_num, HI.out.step (by rw [← HN.out]; exact hlt) HW.out _⟩, ?_⟩
        simp [intOf]
        omega
    · have hge : ¬ (k : Int) < n := by omega
      have HI2 : Hid (Btw ga (ga + 1 + n) w wr ∧ ∃ Y : Array Value, wr.heap[ga]? = some (.cells Y 58 (0, 0)) ∧ Y.size = (n + 2) * 2) := by
        have h1 := HI.out.btw
        have h2 := HK.out.size
        rw [← HN.out] at h1 h2
        exact ⟨h1, X, HI.out.box, h2⟩
      clear HI HK HL HN
      go_wp2
      go_loopw [9] (fun i wr => ∃ k : Nat, k ≤ n + 2 ∧ i = .int .i64 k ∧ Hid (Btw ga (ga + 1 + n) w wr ∧ ∃ Y : Array Value, wr.heap[ga]? = some (.cells Y 58 (0, 0)) ∧ Y.size = (n + 2) * 2)) (fun i _ => n + 2 - (intOf i).toNat)
      case atStart => exact ⟨0, Nat.zero_le _, rfl, HI2⟩
      case round =>
        clear HI2
        obtain ⟨q, hq, rfl, HQ⟩ := hrel
        obtain ⟨hb, Y, hY, hYs⟩ := HQ.out
        by_cases hqn : q < n + 2
        · have hqn' : (q : Int) < (n : Int) + 2 := by omega
          have x0 : wr.cell? ⟨ga, q * 2, none⟩ = some (Y[q * 2]'(by omega)) := by rw [cell_of_heap hY, Array.getElem?_eq_getElem]
          have x1 : wr.cell? ⟨ga, q * 2 + 1, none⟩ = some (Y[q * 2 + 1]'(by omega)) := by rw [cell_of_heap hY, Array.getElem?_eq_getElem]
          have f0 : wr.frozen? ⟨ga, q * 2, none⟩ = false := frozen_of_heap hY _
          have f1 : wr.frozen? ⟨ga, q * 2 + 1, none⟩ = false := frozen_of_heap hY _
          have HN2 : Hid (Btw ga (ga + 1 + n) w ((wr.setCell ⟨ga, q * 2, none⟩ (.int .i64 83)).setCell ⟨ga, q * 2 + 1, none⟩ (.slice none 0 0)) ∧ ∃ Y : Array Value, ((wr.setCell ⟨ga, q * 2, none⟩ (.int .i64 83)).setCell ⟨ga, q * 2 + 1, none⟩ (.slice none 0 0)).heap[ga]? = some (.cells Y 58 (0, 0)) ∧ Y.size = (n + 2) * 2) :=
            ⟨(hb.trans (Btw.of_but (But.setCell ga _ _ _) (Nat.le_refl _) (by omega))).trans (Btw.of_but (But.setCell ga _ _ _) (Nat.le_refl _) (by omega)), _, heap_setCell (heap_setCell hY), by simpa using hYs⟩
          clear hb hY
          generalize Y[q * 2]'(by omega) = y0 at *
          generalize Y[q * 2 + 1]'(by omega) = y1 at *
          clear hYs
          go_wp2
          go_roundw
          case rel => exact ⟨q + 1, by omega, by go_num, HN2.out⟩
          case measure => simp [intOf]; omega
        · have hqn' : ¬ (q : Int) < (n : Int) + 2 := by omega
          have HB := hid hb
          clear hb hY hYs
          go_wp2
          go_ret
          exact ⟨rfl, HB.out⟩
end Go.Proofs.Ytamhaihoofaecaa
