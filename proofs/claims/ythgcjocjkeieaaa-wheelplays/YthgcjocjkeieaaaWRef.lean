/-
  The document's wheel: a list that is looked through.
-/
import Derived.Test.YthgcjocjkeieaaaWTwo
import Derived.Deep.RegionLaw
namespace Go.Proofs.Ythgcjocjkeieaaa
open Go.RowKit
set_option linter.all false

structure RW (w : World) (p : Nat) (time last : Int) (T : List Tm) (tv : Value) : Prop where
  box : w.heap[p]? = some (.cells #[.int .i64 time, tv, .int .i64 last] 61 (0, 0))
  row : RowF w tv T
/-- its blocks. -/
def RK (p : Nat) (tv : Value) (k : Nat) : Prop := k = p ∨ blkOf tv k
theorem RW.ne {w : World} {p : Nat} {time last : Int} {T : List Tm} {tv : Value} (h : RW w p time last T tv) {g : Nat} (hg : blkOf tv g) : g ≠ p := by
  rintro rfl
  obtain ⟨c, h1⟩ := RowS.obj h.row hg
  rw [h.box] at h1
  simp only [Option.some.injEq, Obj.cells.injEq] at h1
  exact absurd h1.2.1 (by decide)
theorem RW.keep {w w' : World} {p : Nat} {time last : Int} {T : List Tm} {tv : Value} (h : RW w p time last T tv) (hk : ∀ k, RK p tv k → w'.heap[k]? = w.heap[k]?) : RW w' p time last T tv :=
  ⟨(hk p (Or.inl rfl)).trans h.box, RowS.keep h.row fun g hg => hk g (Or.inr hg)⟩
theorem RW.lt {w : World} {p : Nat} {time last : Int} {T : List Tm} {tv : Value} (h : RW w p time last T tv) {k : Nat} (hk : RK p tv k) : k < w.heap.size := by
  rcases hk with rfl | hk
  · exact heap_lt h.box
  · exact RowS.lt h.row hk
theorem RW.below {w w' : World} {p : Nat} {time last : Int} {T : List Tm} {tv : Value} (h : RW w p time last T tv) (hb : Below w.heap.size w w') : RW w' p time last T tv := h.keep fun k hk => hb.block k (h.lt hk)
theorem RW.drewN {w : World} {p : Nat} {time last : Int} {T : List Tm} {tv : Value} (h : RW w p time last T tv) (n : Nat) : RW (w.drewN n) p time last T tv := h.keep fun _ _ => rfl
set_option maxHeartbeats 1000000 in
theorem refCounts_any (p : Nat) (time last : Int) (T : List Tm) (tv : Value) (t : Int) (h0 : time ≤ 1125899906842624) (w : World) (x : RW w p time last T tv) :
    Calls Try.prog 36 #[.pointer (some ⟨p, 0, none⟩), .int .i64 t] w fun e w' => e = .returned (.int .i64 (cnt time t)) ∧ w' = w := by
  have c0 := cellHeap x.box 0 rfl
  clear x
  by_cases h1 : t < time
  · rw [show cnt time t = time from by unfold cnt; omega]
    go_enter Try.func36, Try.ntmps36
    go_wp2
    go_ret
    exact ⟨rfl, rfl⟩
  · by_cases h2 : 1125899906842624 < t
    · rw [show cnt time t = 1125899906842624 from by unfold cnt; omega]
      go_enter Try.func36, Try.ntmps36
      go_wp2
      go_ret
      exact ⟨rfl, rfl⟩
    · rw [show cnt time t = t from by unfold cnt; omega]
      go_enter Try.func36, Try.ntmps36
      go_wp2
      go_ret
      exact ⟨rfl, rfl⟩
/-- what a call of the document's wheel leaves. -/
structure RI (w : World) (p : Nat) (tv : Value) (w' : World) (time last : Int) (T : List Tm) (tv' : Value) : Prop where
  rw_ : RW w' p time last T tv'
  turned : Turned (RK p tv) w (RK p tv') w'
theorem RW.set {w w1 : World} {p : Nat} {time last : Int} {T : List Tm} {tv : Value} (x : RW w p time last T tv) {T' : List Tm} {tv' : Value} (hr : RowF w1 tv' T') (hk : ∀ k, ¬ blkOf tv k → k < w.heap.size → w1.heap[k]? = w.heap[k]?) (hn : ∀ k, blkOf tv' k → blkOf tv k ∨ w.heap.size ≤ k) (hs : w.heap.size ≤ w1.heap.size) (ho : w1.os = w.os ∧ w1.tape = w.tape ∧ w1.output = w.output) :
    w1.heap[p]? = some (.cells #[.int .i64 time, tv, .int .i64 last] 61 (0, 0)) ∧ RI w p tv (w1.setCell ⟨p, 1, none⟩ tv') time last T' tv' := by
  have hp := heap_lt x.box
  have hb : w1.heap[p]? = some (.cells #[.int .i64 time, tv, .int .i64 last] 61 (0, 0)) := (hk p (fun e => x.ne e rfl) hp).trans x.box
  have h2 := heap_setCell (j := 1) (v := tv') hb
  have hne : ∀ k, blkOf tv' k → k ≠ p := fun k hk' => by
    rintro rfl
    obtain ⟨c, h1⟩ := RowS.obj hr hk'
    rw [hb] at h1
    simp only [Option.some.injEq, Obj.cells.injEq] at h1
    exact absurd h1.2.1 (by decide)
  refine ⟨hb, ⟨by simpa using h2, RowS.keep hr fun g hg => Below.heap_setCell _ _ _ _ (hne g hg)⟩, ⟨ho.1, ho.2.1, ho.2.2, by simp [World.setCell]; exact hs, fun k hk' hkl => ?_⟩, fun k hk' => ?_⟩
  · rw [Below.heap_setCell _ _ _ _ (fun e => hk' (Or.inl e))]
    exact hk k (fun e => hk' (Or.inr e)) hkl
  · rcases hk' with rfl | hk'
    · exact Or.inl (Or.inl rfl)
    · exact (hn k hk').imp Or.inr id
/-- one more at the end of a list. -/
theorem row_push {w : World} {v : Value} {F : List Tm} (h : RowF w v F) (y : Tm) (hl : F.length ≤ 1048575) :
    ∃ ad cap w', (Builtin.append_ #[41, 41] 41 #[v, .slice (some ⟨w.heap.size, 0, none⟩) 1 1]).run Try.prog (w.alloc (.cells #[.int .i64 y.t, .int .i64 y.id, .int .i64 y.tag] 44)) = .ok (.slice ad (F.length + 1) cap) w' ∧ RowF w' (.slice ad (F.length + 1) cap) (F ++ [y]) ∧ Turned (blkOf v) w (blkOf (.slice ad (F.length + 1) cap)) w' := by
  have hb0 := balloc w (.cells #[.int .i64 y.t, .int .i64 y.id, .int .i64 y.tag] 44)
  have hml : 1048577 ≤ maxLen := by unfold maxLen; omega
  obtain ⟨v2, w2, hrun, hrow2, hgr, hown⟩ := append_s 41 41 44 _ 3 24 Try.underlying41 infoF rfl (by decide) (RowS.below h hb0) ⟨w.heap.size, 0, none⟩ 1 1 (tmC y) rfl (fun j u hj => by
      rw [show (⟨w.heap.size, 0, none⟩ : Addr).add j = ⟨w.heap.size, j, none⟩ from by unfold Addr.add; split <;> simp_all, cell_of_heap (heap_new w _), ← Array.getElem?_toList]
      exact hj) (fun u hu => by simp [tmC] at hu; rcases hu with rfl | rfl | rfl <;> rfl) (by omega) (by omega)
  obtain ⟨ad, cap, rfl, _⟩ := RowS.form hrow2
  refine ⟨ad, cap, w2, hrun, ?_, ⟨hgr.os.trans hb0.os, hgr.tape.trans hb0.tape, hgr.output.trans hb0.output, Nat.le_trans hb0.size hgr.size, fun k hk hkl => (hgr.block k (by have := hb0.size; omega) (fun e => hk e.symm)).trans (hb0.block k hkl)⟩, fun k hk => (hown k hk).imp id fun h => by have := hb0.size; omega⟩
  show RowS _ _ _ _ (F ++ [y]).length _
  rw [cellsF_app, List.length_append]; exact hrow2
set_option maxRecDepth 20000 in
set_option maxHeartbeats 2000000 in
theorem refArm_any (p : Nat) (time last : Int) (T : List Tm) (tv : Value) (t tag : Int) (h0 : time ≤ 1125899906842624) (hl : -1 ≤ last ∧ last < 9223372036854775807) (hT : T.length ≤ 1024) (w : World) (x : RW w p time last T tv) :
    Calls Try.prog 21 #[.pointer (some ⟨p, 0, none⟩), .int .i64 t, .int .i64 tag] w fun e w' => e = .returned (.tuple #[.int .i64 (armN T last), .int .i64 (armE T)]) ∧ ∃ tv', Hid (RI w p tv w' time (armL T last) (armT T time last t tag) tv') := by
  obtain ⟨ad, cap, rfl, _⟩ := RowS.form x.row
  have c1 := cellHeap x.box 1 rfl
  have c2 := cellHeap x.box 2 rfl
  have f2 := frozen_of_heap x.box 2
  unfold armN armE armL armT
  by_cases hr : T.length < 1024
  · rw [if_pos hr, if_pos hr, if_pos hr, if_pos hr]
    have hr2 : (T.length : Int) < 1024 := by omega
    -- behind the first store
    have hbox1 := heap_setCell (j := 2) (v := .int .i64 (last + 1)) x.box
    have x1 : RW (w.setCell ⟨p, 2, none⟩ (.int .i64 (last + 1))) p time (last + 1) T (.slice ad T.length cap) := ⟨by simpa using hbox1, RowS.keep x.row fun g hg => Below.heap_setCell _ _ _ _ (x.ne hg)⟩
    have HC : Hid (Calls Try.prog 36 #[.pointer (some ⟨p, 0, none⟩), .int .i64 t] (w.setCell ⟨p, 2, none⟩ (.int .i64 (last + 1))) fun e w' => e = .returned (.int .i64 (cnt time t)) ∧ w' = w.setCell ⟨p, 2, none⟩ (.int .i64 (last + 1))) := refCounts_any p time (last + 1) T _ t h0 _ x1
    have xd := x1.drewN 1
    have HE : Hid (∀ W, W = (w.setCell ⟨p, 2, none⟩ (.int .i64 (last + 1))).drew → (∀ o, (W.alloc o).cell? ⟨p, 1, none⟩ = some (.slice ad T.length cap)) ∧ (∀ o, (W.alloc o).cell? ⟨p, 2, none⟩ = some (.int .i64 (last + 1))) ∧ W.cell? ⟨p, 1, none⟩ = some (.slice ad T.length cap) ∧ W.cell? ⟨p, 2, none⟩ = some (.int .i64 (last + 1)) ∧ ∃ ad' cap' w2, (Builtin.append_ #[41, 41] 41 #[.slice ad T.length cap, .slice (some ⟨W.heap.size, 0, none⟩) 1 1]).run Try.prog (W.alloc (.cells #[.int .i64 (cnt time t), .int .i64 (last + 1), .int .i64 tag] 44)) = .ok (.slice ad' (T.length + 1) cap') w2 ∧ w2.cell? ⟨p, 1, none⟩ = some (.slice ad T.length cap) ∧ w2.frozen? ⟨p, 1, none⟩ = false ∧ (w2.setCell ⟨p, 1, none⟩ (.slice ad' (T.length + 1) cap')).cell? ⟨p, 2, none⟩ = some (.int .i64 (last + 1)) ∧ RI w p (.slice ad T.length cap) (w2.setCell ⟨p, 1, none⟩ (.slice ad' (T.length + 1) cap')) time (last + 1) (T ++ [⟨cnt time t, last + 1, tag⟩]) (.slice ad' (T.length + 1) cap')) := by
      rintro W rfl
      have xW : RW (w.setCell ⟨p, 2, none⟩ (.int .i64 (last + 1))).drew p time (last + 1) T (.slice ad T.length cap) := xd
      obtain ⟨ad', cap', w2, hrun, hrow, ht⟩ := row_push xW.row ⟨cnt time t, last + 1, tag⟩ (by omega)
      obtain ⟨hb2, hRI⟩ := xW.set hrow (fun k hk hl => ht.only.block k hk hl) ht.new ht.only.size ⟨ht.only.os, ht.only.tape, ht.only.output⟩
      refine ⟨fun o => cellHeap (xW.below (balloc _ o)).box 1 rfl, fun o => cellHeap (xW.below (balloc _ o)).box 2 rfl, cellHeap xW.box 1 rfl, cellHeap xW.box 2 rfl, ad', cap', w2, hrun, cellHeap hb2 1 rfl, frozen_of_heap hb2 1, cellHeap hRI.rw_.box 2 rfl, hRI.rw_, ?_⟩
      have ho0 : Only (RK p (.slice ad T.length cap)) w (w.setCell ⟨p, 2, none⟩ (.int .i64 (last + 1))).drew := ⟨rfl, rfl, rfl, by simp [World.setCell, World.drew], fun k hk hkl => Below.heap_setCell _ _ _ _ (fun e => hk (Or.inl e))⟩
      refine ⟨ho0.trans hRI.turned.only, fun k hk => (hRI.turned.new k hk).imp id fun h => ?_⟩
      have : (w.setCell ⟨p, 2, none⟩ (.int .i64 (last + 1))).drew.heap.size = w.heap.size := by simp [World.setCell, World.drew]
      omega
    have hl1 : last + 1 ≤ 9223372036854775807 := by omega
    have hl2 : -9223372036854775808 ≤ last := by omega
    clear x x1 xd hbox1
    generalize T ++ [⟨cnt time t, last + 1, tag⟩] = T' at *
    generalize cnt time t = ct at *
    generalize T.length = N at *
    go_enter Try.func21, Try.ntmps21
    go_wp2_with (first
      | (go_at_call 36; refine HC.out.mono ?_; rintro e w1 ⟨rfl, hw⟩; subst w1)
      | fail)
    obtain ⟨e6, e7, e1, e2, ad', cap', w2, hrun, e3, e4, e5, hRI⟩ := HE.out _ rfl
    have e8 : ∀ o, ((w.setCell ⟨p, 2, none⟩ (.int .i64 (last + 1))).alloc o).cell? ⟨p, 1, none⟩ = some (.slice ad N cap) := e6
    have e9 : ∀ o, ((w.setCell ⟨p, 2, none⟩ (.int .i64 (last + 1))).alloc o).cell? ⟨p, 2, none⟩ = some (.int .i64 (last + 1)) := e7
    clear e6 e7
    have HRUN := hid hrun
    have HRI := hid hRI
    clear HE hrun hRI HC c1 c2 f2
    generalize w.setCell ⟨p, 2, none⟩ (.int .i64 (last + 1)) = W at *
    go_region_law (refine step_append_run rfl (.tmp 30) (.tmp 38) 41 41 rfl _ _ rfl rfl HRUN.out ?_)
    all_goals
      go_wp2
      exact bodyPost_ret (v := .tuple #[.int .i64 (last + 1), .int .i64 0]) (by simp [results, Try.results21, go_sem]) rfl ⟨rfl, _, HRI⟩
  · rw [if_neg hr, if_neg hr, if_neg hr, if_neg hr]
    have hr2 : T.length = 1024 := by omega
    rw [hr2] at c1
    have HX : Hid (RI w p (.slice ad T.length cap) w time last T (.slice ad T.length cap)) := ⟨x, Turned.refl _ _⟩
    rw [hr2] at HX ⊢
    clear x hr hr2
    go_enter Try.func21, Try.ntmps21
    go_wp2
    exact bodyPost_ret (v := .tuple #[.int .i64 0, .int .i64 70]) (by simp [results, Try.results21, go_sem]) rfl ⟨rfl, _, HX⟩
end Go.Proofs.Ythgcjocjkeieaaa
