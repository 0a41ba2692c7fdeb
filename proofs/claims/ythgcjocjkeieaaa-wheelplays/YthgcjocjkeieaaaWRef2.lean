/-
  The document's wheel: Cancel, first, Next, Now, Len, New.
-/
import Derived.Test.YthgcjocjkeieaaaWRef
import Derived.Test.YthgcjocjkeieaaaWOnc
namespace Go.Proofs.Ythgcjocjkeieaaa
open Go.RowKit
set_option linter.all false

theorem del_snoc (L : List Tm) (x : Tm) (a : Int) : del (L ++ [x]) a = del L a ++ (if x.id ≠ a then [x] else []) := by
  unfold del
  rw [List.filter_append]
  by_cases h : x.id = a
  · simp [h]
  · simp [h]
/-- how Cancel stands. -/
structure CaI (w : World) (p : Nat) (time last : Int) (T : List Tm) (tv : Value) (a : Int) (i : Nat) (ov : Value) (O : List Tm) (wr : World) : Prop where
  rw_ : RW wr p time last T tv
  is : O = del (T.take i) a
  row : RowF wr ov O
  new : ∀ k, blkOf ov k → w.heap.size ≤ k
  below : Below w.heap.size w wr
theorem CaI.skip {w : World} {p : Nat} {time last : Int} {T : List Tm} {tv : Value} {a : Int} {i : Nat} {ov : Value} {O : List Tm} {wr : World} (h : CaI w p time last T tv a i ov O wr) {x : Tm} (hx : T[i]? = some x) (he : x.id = a) : CaI w p time last T tv a (i + 1) ov O wr := by
  obtain ⟨hi, hxe⟩ := List.getElem?_eq_some_iff.1 hx
  refine ⟨h.rw_, ?_, h.row, h.new, h.below⟩
  rw [List.take_succ_eq_append_getElem hi, hxe, del_snoc, if_neg (by simpa using he), List.append_nil]
  exact h.is
theorem CaI.push {w : World} {p : Nat} {time last : Int} {T : List Tm} {tv : Value} {a : Int} {i : Nat} {ov : Value} {O : List Tm} {wr : World} (h : CaI w p time last T tv a i ov O wr) {x : Tm} (hx : T[i]? = some x) (he : x.id ≠ a) (hl : T.length ≤ 1024) (hp : p < w.heap.size) (htv : ∀ k, blkOf tv k → k < w.heap.size) :
    ∃ ad cap w', (Builtin.append_ #[41, 41] 41 #[ov, .slice (some ⟨wr.heap.size, 0, none⟩) 1 1]).run Try.prog (wr.alloc (.cells #[.int .i64 x.t, .int .i64 x.id, .int .i64 x.tag] 44)) = .ok (.slice ad (O.length + 1) cap) w' ∧ CaI w p time last T tv a (i + 1) (.slice ad (O.length + 1) cap) (O ++ [x]) w' := by
  obtain ⟨hi, hxe⟩ := List.getElem?_eq_some_iff.1 hx
  have hOl : O.length ≤ T.length := by rw [h.is]; unfold del; exact Nat.le_trans (List.length_filter_le _ _) (by rw [List.length_take]; omega)
  obtain ⟨ad, cap, w', hrun, hrow, ht⟩ := row_push h.row x (by omega)
  have hs := h.below.size
  have hb : Below w.heap.size w w' := h.below.trans (ht.only.below h.new hs)
  refine ⟨ad, cap, w', hrun, h.rw_.keep fun k hk => ?_, ?_, hrow, fun k hk => ?_, hb⟩
  · have hkl : k < w.heap.size := by
      rcases hk with rfl | hk
      · exact hp
      · exact htv k hk
    exact ht.only.block k (fun e => by have := h.new k e; omega) (by omega)
  · rw [List.take_succ_eq_append_getElem hi, hxe, del_snoc, if_pos he, h.is]
  · rcases ht.new k hk with h1 | h1
    · exact h.new k h1
    · omega
theorem CaI.done {w : World} {p : Nat} {time last : Int} {T : List Tm} {tv : Value} {a : Int} {i : Nat} {ov : Value} {O : List Tm} {wr : World} (h : CaI w p time last T tv a i ov O wr) (x : RW w p time last T tv) (hi : T.length ≤ i) (hr : Rising T) : RI w p tv (wr.setCell ⟨p, 1, none⟩ ov) time last (del T a) ov ∧ decide ((O.length : Int) < T.length) = hasT T a ∧ decide (O.length < T.length) = hasT T a := by
  have hO : O = del T a := by rw [h.is, List.take_of_length_le hi]
  have hR := (x.set (T' := O) h.row (fun k _ hk => h.below.block k hk) (fun k hk => Or.inr (h.new k hk)) h.below.size ⟨h.below.os, h.below.tape, h.below.output⟩).2
  have hlen : (O.length < T.length) ↔ hasT T a = true := by
    rw [hO]
    by_cases e : hasT T a = true
    · have := del_len hr e
      exact ⟨fun _ => e, fun _ => by omega⟩
    · have : del T a = T := del_none fun x hx e2 => e (hasT_iff.2 ⟨x, hx, e2⟩)
      rw [this]
      exact ⟨fun h => absurd h (Nat.lt_irrefl _), fun h => absurd h e⟩
  rw [← hO]
  refine ⟨hR, ?_, ?_⟩
  · rw [Bool.eq_iff_iff, decide_eq_true_eq, ← hlen]; omega
  · rw [Bool.eq_iff_iff, decide_eq_true_eq, ← hlen]
theorem RW.at_ {w : World} {p : Nat} {time last : Int} {T : List Tm} {tv : Value} (x : RW w p time last T tv) (hl : T.length ≤ 1024) {i : Nat} (hi : i < T.length) : ∃ g cap y, tv = .slice (some ⟨g, 0, none⟩) T.length cap ∧ T[i]? = some y ∧ w.cell? ⟨g, i * 3, none⟩ = some (.int .i64 y.t) ∧ w.cell? ⟨g, i * 3 + 1, none⟩ = some (.int .i64 y.id) ∧ w.cell? ⟨g, i * 3 + 2, none⟩ = some (.int .i64 y.tag) := by
  obtain ⟨ad, cap, hv, _, h1⟩ := (PartF.of x.row (by omega)).ex
  obtain ⟨g, rfl, h2⟩ := h1 (by omega)
  have hx : T[i]? = some T[i] := List.getElem?_eq_getElem hi
  generalize T[i] = y at hx
  obtain ⟨c1, c2, c3⟩ := h2 i y hx
  exact ⟨g, cap, y, hv, hx, c1, c2, c3⟩
set_option maxRecDepth 20000 in
set_option maxHeartbeats 2000000 in
theorem refCancel_any (p : Nat) (time last : Int) (T : List Tm) (tv : Value) (a : Int) (hr : Rising T) (hl : T.length ≤ 1024) (w : World) (x : RW w p time last T tv) :
    Calls Try.prog 22 #[.pointer (some ⟨p, 0, none⟩), .int .i64 a] w fun e w' => e = .returned (.bool (hasT T a)) ∧ ∃ ad cap, Hid (RI w p tv w' time last (del T a) (.slice ad (del T a).length cap)) := by
  have HX := hid x
  have HR := hid hr
  have HL := hid hl
  have HC0 : Hid (CaI w p time last T tv a 0 (.slice none 0 0) [] w) := ⟨x, rfl, RowS.nil _ _ _, fun k hk => absurd hk (blk_nil k), Below.refl _ _⟩
  clear x hr hl
  go_enter Try.func22, Try.ntmps22
  go_wp2
  go_loopw [5, 6] (fun ov iv wr => ∃ (i : Nat) (ad : Option Addr) (cap : Nat) (O : List Tm), ov = .slice ad O.length cap ∧ iv = .int .i64 i ∧ Hid (i ≤ T.length) ∧ Hid (CaI w p time last T tv a i (.slice ad O.length cap) O wr)) (fun _ iv _ => T.length - (intOf iv).toNat)
  case atStart => exact ⟨0, none, 0, [], rfl, rfl, Nat.zero_le _, HC0⟩
  case round =>
    clear HC0
    obtain ⟨i, ad, cap, O, rfl, rfl, HI, HC⟩ := hrel
    have hl := HL.out
    by_cases hi : i < T.length
    · obtain ⟨g, ct, y, hv, hy, c1, c2, c3⟩ := HC.out.rw_.at_ hl hi
      have cb := cellHeap HC.out.rw_.box 1 rfl
      rw [hv] at cb
      have hi2 : (i : Int) < T.length := by omega
      have hTb : (T.length : Int) ≤ 1024 := by omega
      have HTm : Hid (∀ N : Nat, N = T.length → i < N) := fun N h => by omega
      by_cases he : y.id = a
      · have HC2 := hid (HC.out.skip hy he)
        subst he
        clear HC hy hv c1 c3
        generalize y.id = a at *
        go_wp2
        go_roundw
        case rel => exact ⟨i + 1, ad, cap, O, rfl, by go_num, by unfold Hid; omega, HC2⟩
        case measure => simp [intOf]; omega
      · obtain ⟨ad2, cap2, w2, hrun, hC2⟩ := HC.out.push hy he hl (heap_lt HX.out.box) (fun k hk => RowS.lt HX.out.row hk)
        have HRUN := hid hrun
        have HC2 := hid hC2
        have hbl := heap_lt HC.out.rw_.box
        clear HC hy hv hrun hC2
        generalize y.t = yt at *
        generalize y.id = yi at *
        generalize y.tag = yg at *
        go_wp2_with (first | (at_builtin; refine wpList_append_run _ rfl _ _ _ _ rfl _ _ rfl rfl HRUN.out ?_) | fail)
        go_roundw
        case rel => exact ⟨i + 1, ad2, cap2, O ++ [y], by simp, by go_num, by unfold Hid; omega, by rw [List.length_append]; exact HC2⟩
        case measure => simp [intOf]; omega
    · have hie : i = T.length := by have := HI.out; omega
      obtain ⟨hRI, hd1, hd2⟩ := HC.out.done HX.out (by omega) HR.out
      have hO : O = del T a := by rw [HC.out.is, List.take_of_length_le (by omega)]
      have HRI := hid hRI
      obtain ⟨tad, tcap, htv, _⟩ := RowS.form HX.out.row
      have cb := cellHeap HC.out.rw_.box 1 rfl
      rw [htv] at cb
      have fb := frozen_of_heap HC.out.rw_.box 1
      have hOl : O.length ≤ T.length := by rw [hO]; unfold del; exact List.length_filter_le _ _
      have HOE := hid hO
      have HIE := hid hie
      have hi2 : ¬ (i : Int) < T.length := by omega
      have hTb : (T.length : Int) ≤ 1024 := by omega
      have hOb : (O.length : Int) ≤ 1024 := by omega
      clear HC hRI hO hie HI htv
      go_wp2
      go_ret
      refine ⟨ret_bool ?_, ad, cap, ?_⟩
      · first | exact hd1 | exact hd2 | (rw [← hd1]; rfl) | rfl
      · rw [← HOE.out]
        have h := HRI.out
        rw [← HOE.out] at h
        exact h
/-- k is the place of the first of the first i. -/
structure FirstI (T : List Tm) (i k : Nat) : Prop where
  lt : k < i
  le : i ≤ T.length
  min : ∀ j x y, j < i → T[j]? = some x → T[k]? = some y → y.t ≤ x.t ∧ (j < k → y.t < x.t)
theorem FirstI.one {T : List Tm} (h : 0 < T.length) : FirstI T 1 0 := ⟨by omega, by omega, fun j x y hj hx hy => by
  have : j = 0 := by omega
  subst this
  rw [hx] at hy
  cases hy
  exact ⟨Int.le_refl _, fun h => by omega⟩⟩
theorem FirstI.stay {T : List Tm} {i k : Nat} (h : FirstI T i k) (hi : i < T.length) {x y : Tm} (hx : T[i]? = some x) (hy : T[k]? = some y) (hn : ¬ x.t < y.t) : FirstI T (i + 1) k := by
  have := h.lt
  refine ⟨by omega, by omega, fun j x' y' hj hx' hy' => ?_⟩
  by_cases e : j = i
  · subst e
    rw [hx] at hx'
    rw [hy] at hy'
    cases hx'
    cases hy'
    exact ⟨by omega, fun h => by omega⟩
  · exact h.min j x' y' (by omega) hx' hy'
theorem FirstI.go {T : List Tm} {i k : Nat} (h : FirstI T i k) (hi : i < T.length) {x y : Tm} (hx : T[i]? = some x) (hy : T[k]? = some y) (hn : x.t < y.t) : FirstI T (i + 1) i := by
  refine ⟨by omega, by omega, fun j x' y' hj hx' hy' => ?_⟩
  rw [hx] at hy'
  cases hy'
  by_cases e : j = i
  · subst e
    rw [hx] at hx'
    cases hx'
    exact ⟨Int.le_refl _, fun h => by omega⟩
  · have := (h.min j x' y (by omega) hx' hy).1
    exact ⟨by omega, fun _ => by omega⟩
def firstOk (T : List Tm) (i : Nat) (k : Int) : Prop := (i = 0 ∧ k = -1) ∨ ∃ n : Nat, k = n ∧ FirstI T i n
set_option maxRecDepth 20000 in
set_option maxHeartbeats 2000000 in
theorem refFirst_any (p : Nat) (time last : Int) (T : List Tm) (tv : Value) (hl : T.length ≤ 1024) (w : World) (x : RW w p time last T tv) :
    Calls Try.prog 37 #[.pointer (some ⟨p, 0, none⟩)] w fun e w' => ∃ k, e = .returned (.int .i64 k) ∧ Hid (firstOk T T.length k) ∧ ∃ q, w' = w.drewN q := by
  have HX := hid x
  have HL := hid hl
  clear x hl
  go_enter Try.func37, Try.ntmps37
  go_wp2
  go_loopw [3, 4] (fun kv iv wr => ∃ (i : Nat) (k : Int) (q : Nat), kv = .int .i64 k ∧ iv = .int .i64 i ∧ Hid (i ≤ T.length) ∧ Hid (firstOk T i k) ∧ wr = w.drewN q) (fun _ iv _ => T.length - (intOf iv).toNat)
  case atStart => exact ⟨0, -1, 0, rfl, rfl, Nat.zero_le _, Or.inl ⟨rfl, rfl⟩, rfl⟩
  case round =>
    obtain ⟨i, k, q, rfl, rfl, HI, HF, hwr⟩ := hrel
    have hl := HL.out
    have xr : RW wr p time last T tv := by rw [hwr]; exact HX.out.drewN q
    have HW : Hid (∀ n, wr.drewN n = w.drewN (q + n)) := fun n => by rw [hwr]; exact World.drewN_drewN _ _ _
    have HWR := hid hwr
    clear hwr
    by_cases hi : i < T.length
    · obtain ⟨g, ct, y, hv, hy, c1, c2, c3⟩ := xr.at_ hl hi
      have cb := cellHeap xr.box 1 rfl
      rw [hv] at cb
      have hi2 : (i : Int) < T.length := by omega
      have hTb : (T.length : Int) ≤ 1024 := by omega
      rcases HF.out with ⟨rfl, rfl⟩ | ⟨n, rfl, hF⟩
      · have HF2 : Hid (firstOk T (0 + 1) ((0 : Nat) : Int)) := Or.inr ⟨0, rfl, FirstI.one (by omega)⟩
        clear HF c2 c3 hy hv xr
        go_wp2_with fail
        go_quiet (fail)
        go_wp2
        go_roundw
        case rel => exact ⟨0 + 1, 0, q + nq, by first | rfl | go_num, by first | rfl | go_num, by unfold Hid; omega, HF2, HW.out nq⟩
        case measure => first | (simp [intOf]; done) | (simp [intOf]; omega)
      · have hnl := hF.lt
        obtain ⟨g', ct', z, hv', hz, d1, _, _⟩ := xr.at_ hl (i := n) (by omega)
        rw [hv] at hv'
        simp only [Value.slice.injEq, Option.some.injEq, Addr.mk.injEq] at hv'
        obtain ⟨⟨rfl, -⟩, -, -⟩ := hv'
        have hn2 : (n : Int) < T.length := by omega
        have hn3 : n < T.length := by omega
        have hn0 : ¬ (n : Int) < 0 := by omega
        have hn1 : decide ((n : Int) < 0) = false := decide_eq_false hn0
        by_cases hlt : y.t < z.t
        · have HF2 : Hid (firstOk T (i + 1) (i : Int)) := Or.inr ⟨i, rfl, hF.go hi hy hz hlt⟩
          clear HF c2 c3 hy hv xr hF hz
          generalize y.t = yt at *
          generalize z.t = zt at *
          go_wp2_with fail
          go_quiet (fail)
          go_wp2
          go_roundw
          case rel => exact ⟨i + 1, i, q + nq, rfl, by go_num, by unfold Hid; omega, HF2, HW.out nq⟩
          case measure => simp [intOf]; omega
        · have HF2 : Hid (firstOk T (i + 1) (n : Int)) := Or.inr ⟨n, rfl, hF.stay hi hy hz hlt⟩
          clear HF c2 c3 hy hv xr hF hz
          generalize y.t = yt at *
          generalize z.t = zt at *
          go_wp2_with fail
          go_quiet (fail)
          go_wp2
          go_roundw
          case rel => exact ⟨i + 1, n, q + nq, rfl, by go_num, by unfold Hid; omega, HF2, HW.out nq⟩
          case measure => simp [intOf]; omega
    · have hie : i = T.length := by have := HI.out; omega
      obtain ⟨tad, tcap, htv, _⟩ := RowS.form xr.row
      have cb := cellHeap xr.box 1 rfl
      rw [htv] at cb
      have hTb : (T.length : Int) ≤ 1024 := by omega
      have hi2 : ¬ (i : Int) < T.length := by omega
      have HF2 : Hid (firstOk T T.length k) := by rw [← hie]; exact HF
      clear HF xr htv hie HI
      go_wp2
      go_ret
      exact ⟨k, rfl, HF2, q, HWR.out⟩
end Go.Proofs.Ythgcjocjkeieaaa
