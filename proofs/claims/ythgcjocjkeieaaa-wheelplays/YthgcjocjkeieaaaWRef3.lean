/-
  The document's wheel: Advance, Next, Now, Len, New.
-/
import Derived.Test.YthgcjocjkeieaaaWRef2
namespace Go.Proofs.Ythgcjocjkeieaaa
open Go.RowKit
set_option linter.all false

theorem firstOk.min {T : List Tm} {n : Nat} (h : FirstI T T.length n) (hr : Rising T) : ∃ y, T[n]? = some y ∧ (∀ z ∈ T, z.id ≠ y.id → tlt y z) ∧ IsMin T y.t := by
  have hn := h.lt
  have hy : T[n]? = some T[n] := List.getElem?_eq_getElem hn
  generalize T[n] = y at hy
  have hrp := List.pairwise_iff_getElem.1 hr
  refine ⟨y, hy, fun z hz hne => ?_, ⟨y, List.mem_of_getElem? hy, rfl⟩, fun z hz => ?_⟩
  · obtain ⟨j, hj⟩ := List.getElem?_of_mem hz
    obtain ⟨hjl, hjz⟩ := List.getElem?_eq_some_iff.1 hj
    obtain ⟨hnl, hny⟩ := List.getElem?_eq_some_iff.1 hy
    obtain ⟨h1, h2⟩ := h.min j z y hjl hj hy
    rcases Nat.lt_trichotomy j n with e | e | e
    · exact Or.inl (h2 e)
    · subst e; rw [hj] at hy; cases hy; exact absurd rfl hne
    · have := hrp n j hnl hjl e
      rw [hny, hjz] at this
      unfold tlt; omega
  · obtain ⟨j, hj⟩ := List.getElem?_of_mem hz
    exact (h.min j z y (List.getElem?_eq_some_iff.1 hj).1 hj hy).1
/-- how Advance stands. -/
structure AdI (w : World) (p : Nat) (tv0 : Value) (last : Int) (T0 : List Tm) (e : Int) (ov : Value) (F T : List Tm) (tv : Value) (wr : World) : Prop where
  rw_ : RW wr p e last T tv
  turned : Turned (RK p tv0) w (RK p tv) wr
  going : Going T0 e F T
  row : RowF wr ov F
  new : ∀ k, blkOf ov k → w.heap.size ≤ k ∧ ¬ RK p tv k
  rise : Rising T
  len : F.length + T.length = T0.length
theorem AdI.drewN {w : World} {p : Nat} {tv0 : Value} {last : Int} {T0 : List Tm} {e : Int} {ov : Value} {F T : List Tm} {tv : Value} {wr : World} (h : AdI w p tv0 last T0 e ov F T tv wr) (q : Nat) : AdI w p tv0 last T0 e ov F T tv (wr.drewN q) :=
  ⟨h.rw_.drewN q, ⟨⟨h.turned.only.os, h.turned.only.tape, h.turned.only.output, h.turned.only.size, h.turned.only.block⟩, h.turned.new⟩, h.going, RowS.keep h.row fun _ _ => rfl, h.new, h.rise, h.len⟩
/-- one is told, and taken away. -/
theorem AdI.next {w : World} {p : Nat} {tv0 : Value} {last : Int} {T0 : List Tm} {e : Int} {ov : Value} {F T : List Tm} {tv : Value} {wr : World} (h : AdI w p tv0 last T0 e ov F T tv wr) (hl : T0.length ≤ 1024) {y : Tm} (hy : y ∈ T) (hd : y.t ≤ e) (hb : ∀ z ∈ T, z.id ≠ y.id → tlt y z) :
    ∃ ad cap w1, (Builtin.append_ #[41, 41] 41 #[ov, .slice (some ⟨wr.heap.size, 0, none⟩) 1 1]).run Try.prog (wr.alloc (.cells #[.int .i64 y.t, .int .i64 y.id, .int .i64 y.tag] 44)) = .ok (.slice ad (F.length + 1) cap) w1 ∧ RW w1 p e last T tv ∧
      Calls Try.prog 22 #[.pointer (some ⟨p, 0, none⟩), .int .i64 y.id] w1 fun en w2 => en = .returned (.bool true) ∧ ∃ (ad2 : Option Addr) (cap2 : Nat), Hid (AdI w p tv0 last T0 e (.slice ad (F.length + 1) cap) (F ++ [y]) (del T y.id) (.slice ad2 (del T y.id).length cap2) w2) := by
  have hlen := h.len
  obtain ⟨ad, cap, w1, hrun, hrow, ht⟩ := row_push h.row y (by omega)
  have hs := h.turned.only.size
  have x1 : RW w1 p e last T tv := h.rw_.keep fun k hk => ht.only.block k (fun e' => (h.new k e').2 hk) (h.rw_.lt hk)
  refine ⟨ad, cap, w1, hrun, x1, (refCancel_any p e last T tv y.id h.rise (by omega) w1 x1).mono ?_⟩
  rintro en w2 ⟨rfl, ad2, cap2, HR⟩
  have hhas : hasT T y.id = true := hasT_iff.2 ⟨y, hy, rfl⟩
  have hdl := del_len h.rise hhas
  have hnew1 : ∀ k, blkOf (.slice ad (F.length + 1) cap) k → w.heap.size ≤ k ∧ ¬ RK p tv k := fun k hk => by
    rcases ht.new k hk with h1 | h1
    · exact h.new k h1
    · exact ⟨by omega, fun e' => by have := h.rw_.lt e'; omega⟩
  have ht1 : Turned (RK p tv0) w (RK p tv) w1 := ⟨⟨ht.only.os.trans h.turned.only.os, ht.only.tape.trans h.turned.only.tape, ht.only.output.trans h.turned.only.output, Nat.le_trans hs ht.only.size, fun k hk hkl => by
    rw [ht.only.block k (fun e' => by have := (h.new k e').1; omega) (by omega)]
    exact h.turned.only.block k hk hkl⟩, h.turned.new⟩
  have hs1 := ht1.only.size
  have ht2 : Turned (RK p tv0) w (RK p (.slice ad2 (del T y.id).length cap2)) w2 := ⟨⟨HR.out.turned.only.os.trans ht1.only.os, HR.out.turned.only.tape.trans ht1.only.tape, HR.out.turned.only.output.trans ht1.only.output, Nat.le_trans hs1 HR.out.turned.only.size, fun k hk hkl => by
    rw [HR.out.turned.only.block k (fun e' => by
      rcases ht1.new k e' with h1 | h1
      · exact hk h1
      · omega) (by omega)]
    exact ht1.only.block k hk hkl⟩, fun k hk => by
      rcases HR.out.turned.new k hk with h1 | h1
      · exact ht1.new k h1
      · exact Or.inr (by omega)⟩
  refine ⟨by rw [hhas], ad2, cap2, HR.out.rw_, ht2, h.going.next hy hd hb, ?_, fun k hk => ⟨(hnew1 k hk).1, fun e' => ?_⟩, h.rise.del _, ?_⟩
  · exact RowS.keep hrow fun k hk => HR.out.turned.only.block k (hnew1 k hk).2 (RowS.lt hrow hk)
  · rcases HR.out.turned.new k e' with h1 | h1
    · exact (hnew1 k hk).2 h1
    · have := RowS.lt hrow hk; omega
  · rw [List.length_append, List.length_singleton]; omega
def lenAt (w : World) (p : Nat) : Nat := match w.cell? ⟨p, 1, none⟩ with | some v => sliceLen v | none => 0
theorem RW.lenAt {w : World} {p : Nat} {time last : Int} {T : List Tm} {tv : Value} (x : RW w p time last T tv) : Go.Proofs.Ythgcjocjkeieaaa.lenAt w p = T.length := by
  obtain ⟨ad, cap, rfl, _⟩ := RowS.form x.row
  unfold Go.Proofs.Ythgcjocjkeieaaa.lenAt
  rw [cellHeap x.box 1 rfl]
  rfl
/-- what Advance leaves. -/
structure RAdv (w : World) (p : Nat) (tv0 : Value) (last : Int) (T0 : List Tm) (e : Int) (ov : Value) (F T : List Tm) (tv : Value) (w' : World) : Prop where
  rw_ : RW w' p e last T tv
  turned : Turned (RK p tv0) w (RK p tv) w'
  fired : Fired T0 e F T
  row : RowF w' ov F
  new : ∀ k, blkOf ov k → w.heap.size ≤ k ∧ ¬ RK p tv k
theorem AdI.stop {w : World} {p : Nat} {tv0 : Value} {last : Int} {T0 : List Tm} {e : Int} {ov : Value} {F T : List Tm} {tv : Value} {wr : World} (h : AdI w p tv0 last T0 e ov F T tv wr) (hr : Rising T0) (hn : ∀ y ∈ T, e < y.t) : RAdv w p tv0 last T0 e ov F T tv wr := ⟨h.rw_, h.turned, h.going.done hr hn, h.row, h.new⟩
set_option maxRecDepth 20000 in
set_option maxHeartbeats 4000000 in
theorem refAdvance_any (p : Nat) (time last : Int) (T0 : List Tm) (tv0 : Value) (t : Int) (h0 : time ≤ 1125899906842624) (hr : Rising T0) (hl : T0.length ≤ 1024) (w : World) (x : RW w p time last T0 tv0) :
    Calls Try.prog 23 #[.pointer (some ⟨p, 0, none⟩), .int .i64 t] w fun en w' => ∃ ad cap F, en = .returned (.slice ad F.length cap) ∧ ∃ T tv, Hid (RAdv w p tv0 last T0 (cnt time t) (.slice ad F.length cap) F T tv w') := by
  have HC := hid (refCounts_any p time last T0 tv0 t h0 w x)
  have c0 := cellHeap x.box 0 rfl
  have f0 := frozen_of_heap x.box 0
  have hb1 := heap_setCell (j := 0) (v := .int .i64 (cnt time t)) x.box
  have HX : Hid (AdI w p tv0 last T0 (cnt time t) (.slice none 0 0) [] T0 tv0 (w.setCell ⟨p, 0, none⟩ (.int .i64 (cnt time t)))) := by
    refine ⟨⟨by simpa using hb1, RowS.keep x.row fun g hg => Below.heap_setCell _ _ _ _ (x.ne hg)⟩, ⟨Only.of_but (But.setCell p w 0 _) (Or.inl rfl), fun k hk => Or.inl hk⟩, Going.start _ _, RowS.nil _ _ _, fun k hk => absurd hk (blk_nil k), hr, by simp⟩
  have HR := hid hr
  have HL := hid hl
  clear x hb1 hr hl h0
  generalize cnt time t = e at *
  go_enter Try.func23, Try.ntmps23
  go_wp2_with (first | (go_at_call 36; refine HC.out.mono ?_; rintro en w1 ⟨rfl, hw⟩; subst w1) | fail)
  clear HC c0 f0
  go_loopw [5, 6] (fun ov _ wr => ∃ (ad : Option Addr) (cap : Nat) (F T : List Tm) (tv : Value), ov = .slice ad F.length cap ∧ Hid (AdI w p tv0 last T0 e (.slice ad F.length cap) F T tv wr)) (fun _ _ wr => lenAt wr p)
  case atStart => exact ⟨none, 0, [], T0, tv0, rfl, HX⟩
  case round =>
    clear HX
    obtain ⟨ad, cap, F, T, tv, rfl, HX⟩ := hrel
    have hl := HL.out
    have hlen := HX.out.len
    have HF := hid (refFirst_any p e last T tv (by omega) wr HX.out.rw_)
    by_cases h0 : T.length = 0
    · have hTn : T = [] := List.eq_nil_of_length_eq_zero h0
      have HE := hid (fun q => (HX.out.drewN q).stop HR.out (by rw [hTn]; simp))
      have HK : Hid (∀ k, firstOk T T.length k → k = -1) := fun k hk => by
        rcases hk with ⟨_, h⟩ | ⟨n, _, h⟩
        · exact h
        · have := h.lt; omega
      have HWW : Hid (∀ q r, (wr.drewN q).drewN r = wr.drewN (q + r)) := fun q r => World.drewN_drewN _ _ _
      clear HX hTn h0 hlen hl
      go_wp2_with (first
        | (go_at_call 37; refine HF.out.mono ?_; go_loud (rintro en w1 ⟨k, rfl, HFk, q, hw⟩; have hk := HK.out k HFk.out; subst hk; subst w1; clear HFk HK HF))
        | go_quiet (fail)
        | fail)
      go_ret
      exact ⟨ad, cap, F, rfl, T, tv, by rw [HWW.out]; exact HE.out _⟩
    · have hrise := HX.out.rise
      have HK : Hid (∀ k, firstOk T T.length k → ∃ (n : Nat) (y : Tm), k = n ∧ n < T.length ∧ T[n]? = some y ∧ y ∈ T ∧ (∀ z ∈ T, z.id ≠ y.id → tlt y z) ∧ IsMin T y.t) := fun k hk => by
        rcases hk with ⟨h, _⟩ | ⟨n, h1, h⟩
        · omega
        · obtain ⟨y, hy, h3, h4⟩ := firstOk.min h hrise
          exact ⟨n, y, h1, h.lt, hy, List.mem_of_getElem? hy, h3, h4⟩
      have hTb : (T.length : Int) ≤ 1024 := by omega
      have HAT : Hid (∀ q n y, n < T.length → T[n]? = some y → ∃ g cp, (wr.drewN q).cell? ⟨p, 1, none⟩ = some (.slice (some ⟨g, 0, none⟩) T.length cp) ∧ (wr.drewN q).cell? ⟨p, 0, none⟩ = some (.int .i64 e) ∧ tv = .slice (some ⟨g, 0, none⟩) T.length cp ∧ (wr.drewN q).cell? ⟨g, n * 3, none⟩ = some (.int .i64 y.t) ∧ (wr.drewN q).cell? ⟨g, n * 3 + 1, none⟩ = some (.int .i64 y.id) ∧ (wr.drewN q).cell? ⟨g, n * 3 + 2, none⟩ = some (.int .i64 y.tag)) := fun q n y hn hy => by
        have xq := (HX.out.drewN q).rw_
        obtain ⟨g, cp, y', hv, hy', d1, d2, d3⟩ := xq.at_ (by omega) hn
        rw [hy] at hy'
        cases hy'
        refine ⟨g, cp, by rw [← hv]; exact cellHeap xq.box 1 rfl, cellHeap xq.box 0 rfl, hv, d1, d2, d3⟩
      have HNX := hid (fun q (y : Tm) (hy : y ∈ T) hd hb => (HX.out.drewN q).next HL.out hy hd hb)
      have HST := hid (fun q h => (HX.out.drewN q).stop HR.out h)
      have HLA : Hid (lenAt wr p = T.length) := HX.out.rw_.lenAt
      have HWW : Hid (∀ q r, (wr.drewN q).drewN r = wr.drewN (q + r)) := fun q r => World.drewN_drewN _ _ _
      clear HX hlen hl
      go_wp2_with (first
        | (go_at_call 37; refine HF.out.mono ?_; go_loud (rintro en w1 ⟨k, rfl, HFk, q, hw⟩; subst w1))
        | fail)
      obtain ⟨n, y, hk, hn, hy, hyT, hyb, hym⟩ := HK.out k HFk.out
      subst hk
      obtain ⟨g, cp, e1q, e0q, hv, d1q, d2q, d3q⟩ := HAT.out q n y hn hy
      have e1 : wr.cell? ⟨p, 1, none⟩ = some (.slice (some ⟨g, 0, none⟩) T.length cp) := e1q
      have e0 : wr.cell? ⟨p, 0, none⟩ = some (.int .i64 e) := e0q
      have d1 : wr.cell? ⟨g, n * 3, none⟩ = some (.int .i64 y.t) := d1q
      have d2 : wr.cell? ⟨g, n * 3 + 1, none⟩ = some (.int .i64 y.id) := d2q
      have d3 : wr.cell? ⟨g, n * 3 + 2, none⟩ = some (.int .i64 y.tag) := d3q
      clear e1q e0q d1q d2q d3q
      have HYT := hid hyT
      have HYB := hid hyb
      have HYM := hid hym
      have hn2 : (n : Int) < T.length := by omega
      have hn0 : ¬ (n : Int) < 0 := by omega
      have hn1 : decide ((n : Int) < 0) = false := decide_eq_false hn0
      have HV := hid hv
      have HY := hid hy
      clear HFk HK HAT HF hy hyT hyb hym hv
      by_cases hgt : e < y.t
      · have HE := hid (fun q => HST.out q (fun z hz => by have := HYM.out.le z hz; omega))
        clear HST HNX
        generalize y.t = yt at *
        go_quiet (fail)
        go_wp2
        go_ret
        exact ⟨ad, cap, F, rfl, T, tv, by try rw [HWW.out]
                                          exact HE.out _⟩
      · have HNY := hid (fun q => HNX.out q y HYT.out (by omega) HYB.out)
        have HX1 : Hid (∀ w1, RW w1 p e last T tv → w1.cell? ⟨p, 1, none⟩ = some (.slice (some ⟨g, 0, none⟩) T.length cp) ∧ w1.cell? ⟨g, n * 3 + 1, none⟩ = some (.int .i64 y.id)) := fun w1 x1 => by
          obtain ⟨g2, cp2, y2, hv2, hy2, _, k2, _⟩ := x1.at_ (by omega) hn
          have c := cellHeap x1.box 1 rfl
          rw [HV.out] at hv2 c
          simp only [Value.slice.injEq, Option.some.injEq, Addr.mk.injEq] at hv2
          obtain ⟨⟨rfl, -⟩, -, -⟩ := hv2
          rw [HY.out] at hy2
          cases hy2
          exact ⟨c, k2⟩
        have HDL : Hid ((del T y.id).length + 1 = T.length) := del_len hrise (hasT_iff.2 ⟨y, HYT.out, rfl⟩)
        clear HST HNX HYB HYM HYT
        go_quiet (fail)
        try rw [HWW.out]
        obtain ⟨ad2, cap2, w1, hrun, x1, hcan⟩ := HNY.out (q + nq)
        obtain ⟨m1, m2⟩ := HX1.out w1 x1
        have HRUN := hid hrun
        have HCAN := hid hcan
        have e1' : (wr.drewN (q + nq)).cell? ⟨p, 1, none⟩ = some (.slice (some ⟨g, 0, none⟩) T.length cp) := e1
        have d1' : (wr.drewN (q + nq)).cell? ⟨g, n * 3, none⟩ = some (.int .i64 y.t) := d1
        have d2' : (wr.drewN (q + nq)).cell? ⟨g, n * 3 + 1, none⟩ = some (.int .i64 y.id) := d2
        have d3' : (wr.drewN (q + nq)).cell? ⟨g, n * 3 + 2, none⟩ = some (.int .i64 y.tag) := d3
        clear hrun hcan HNY HX1 x1 e1 e0 d1 d2 d3 HV HY
        generalize wr.drewN (q + nq) = W at *
        go_wp2_with (first
          | (at_builtin; refine wpList_append_run _ rfl _ _ _ _ rfl _ _ rfl rfl HRUN.out ?_)
          | (go_at_call 22; refine HCAN.out.mono ?_; go_loud (rintro en w2 ⟨rfl, ad3, cap3, HA2⟩; clear HCAN))
          | fail)
        go_roundw
        case rel => exact ⟨ad2, cap2, F ++ [y], del T y.id, _, by simp, by rw [List.length_append]; exact HA2⟩
        case measure => rw [HA2.out.rw_.lenAt, HLA.out]; have := HDL.out; omega
theorem rfirst_nxt {T : List Tm} (hr : Rising T) {k : Int} (h : firstOk T T.length k) : (T.length = 0 ∧ k = -1) ∨ ∃ (n : Nat) (y : Tm), k = n ∧ n < T.length ∧ T[n]? = some y ∧ y.t = nxt T := by
  rcases h with h | ⟨n, rfl, h⟩
  · exact Or.inl h
  · obtain ⟨y, hy, _, hm⟩ := firstOk.min h hr
    exact Or.inr ⟨n, y, rfl, h.lt, hy, hm.eq (nxt_min (by have := h.lt; omega))⟩
set_option maxHeartbeats 2000000 in
theorem refNext_any (p : Nat) (time last : Int) (T : List Tm) (tv : Value) (hr : Rising T) (hl : T.length ≤ 1024) (w : World) (x : RW w p time last T tv) :
    Calls Try.prog 25 #[.pointer (some ⟨p, 0, none⟩)] w fun e w' => e = .returned (.tuple #[.int .i64 (nxt T), .bool (decide (0 < T.length))]) ∧ ∃ q, w' = w.drewN q := by
  have HF := hid (refFirst_any p time last T tv hl w x)
  have HX := hid x
  have HK := hid (fun k => rfirst_nxt hr (k := k))
  by_cases h0 : T.length = 0
  · have hT : T = [] := List.eq_nil_of_length_eq_zero h0
    have HZ : Hid (nxt T = 0 ∧ decide (0 < T.length) = false) := by unfold Hid; rw [hT]; exact ⟨rfl, rfl⟩
    rw [HZ.out.1, HZ.out.2]
    have HK2 : Hid (∀ k, firstOk T T.length k → k = -1) := fun k hk => by
      rcases HK.out k hk with h | ⟨n, _, _, h, _⟩
      · exact h.2
      · omega
    clear x hr hl HK HX h0 hT HZ
    go_enter Try.func25, Try.ntmps25
    go_wp2_with (first
      | (go_at_call 37; refine HF.out.mono ?_; go_loud (rintro en w1 ⟨k, rfl, HFk, q, hw⟩; have hk := HK2.out k HFk.out; subst hk; subst w1; clear HFk HK2 HF))
      | fail)
    exact bodyPost_ret (v := .tuple #[.int .i64 0, .bool false]) (by simp [results, Try.results25, go_sem]) rfl ⟨rfl, q, rfl⟩
  · rw [show decide (0 < T.length) = true from by simp; omega]
    have HC : Hid (∀ (k : Int) (q : Nat), firstOk T T.length k → ∃ (n : Nat) (g cp : Nat), k = n ∧ n < T.length ∧ w.cell? ⟨p, 1, none⟩ = some (.slice (some ⟨g, 0, none⟩) T.length cp) ∧ w.cell? ⟨g, n * 3, none⟩ = some (.int .i64 (nxt T))) := fun k q hk => by
      rcases HK.out k hk with h | ⟨n, y, h1, h2, h3, h4⟩
      · omega
      · have xq := HX.out.drewN q
        obtain ⟨g, cp, y', hv, hy', d1, _⟩ := xq.at_ hl h2
        rw [h3] at hy'
        cases hy'
        rw [h4] at d1
        exact ⟨n, g, cp, h1, h2, by rw [← hv]; exact cellHeap xq.box 1 rfl, d1⟩
    have hTb : (T.length : Int) ≤ 1024 := by omega
    clear x hr hl HK HX h0
    generalize nxt T = nx at *
    go_enter Try.func25, Try.ntmps25
    go_wp2_with (first
      | (go_at_call 37; refine HF.out.mono ?_; go_loud (rintro en w1 ⟨k, rfl, HFk, q, hw⟩; obtain ⟨n, g, cp, hk, hn, e1, d1⟩ := HC.out k q HFk.out; subst hk; subst w1; (have hn2 : (n : Int) < T.length := by omega); (have hn0 : ¬ (n : Int) < 0 := by omega); clear HFk HC HF))
      | go_quiet (fail)
      | fail)
    exact bodyPost_ret (v := .tuple #[.int .i64 nx, .bool true]) (by simp [results, Try.results25, go_sem]) rfl ⟨rfl, _, rfl⟩
set_option maxHeartbeats 1000000 in
theorem refNow_any (p : Nat) (time last : Int) (T : List Tm) (tv : Value) (w : World) (x : RW w p time last T tv) :
    Calls Try.prog 26 #[.pointer (some ⟨p, 0, none⟩)] w fun e w' => e = .returned (.int .i64 time) ∧ w' = w := by
  have c0 := cellHeap x.box 0 rfl
  clear x
  go_enter Try.func26, Try.ntmps26
  go_wp2
  go_ret
  exact ⟨rfl, rfl⟩
set_option maxHeartbeats 1000000 in
theorem refLen_any (p : Nat) (time last : Int) (T : List Tm) (tv : Value) (w : World) (x : RW w p time last T tv) :
    Calls Try.prog 27 #[.pointer (some ⟨p, 0, none⟩)] w fun e w' => e = .returned (.int .i64 T.length) ∧ w' = w := by
  obtain ⟨ad, cap, rfl, _⟩ := RowS.form x.row
  have c0 := cellHeap x.box 1 rfl
  clear x
  go_enter Try.func27, Try.ntmps27
  go_wp2
  go_ret
  exact ⟨rfl, rfl⟩
set_option maxHeartbeats 1000000 in
theorem refNew_any (w : World) : Calls Try.prog 9 #[] w fun e w' => e = .returned (.pointer (some ⟨w.heap.size, 0, none⟩)) ∧ Hid (RW w' w.heap.size 0 0 [] (.slice none 0 0) ∧ Below w.heap.size w w') := by
  have HE : Hid (RW (w.alloc (.cells #[.int .i64 0, .slice none 0 0, .int .i64 0] 61)) w.heap.size 0 0 [] (.slice none 0 0) ∧ Below w.heap.size w (w.alloc (.cells #[.int .i64 0, .slice none 0 0, .int .i64 0] 61))) := ⟨⟨heap_new w _, RowS.nil _ _ _⟩, balloc w _⟩
  go_enter Try.func9, Try.ntmps9
  go_wp2
  go_ret
  exact ⟨rfl, HE⟩
end Go.Proofs.Ythgcjocjkeieaaa
