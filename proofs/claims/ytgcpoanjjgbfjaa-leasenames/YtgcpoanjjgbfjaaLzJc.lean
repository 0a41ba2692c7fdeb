import Derived.Test.YtgcpoanjjgbfjaaLzJb
import Derived.Deep.RegionHeldLaw
/-
  Lease: the closure that gathers acts.
-/
namespace Go.Proofs.Ytgcpoanjjgbfjaa
open Go.RowKit
set_option linter.all false

theorem LW.told {W0 w1 w : World} {p pd gA : Nat} {ab : Option Nat} {s : LS} (h : LW W0 p pd gA ab s w1) (hb : Below w1.heap.size w1 w) {a : Option Addr} {n c : Nat} {E : List AE} (hv : w1.heap[gA]? = some (.cells #[.slice a n c] 34 (0, 0))) (he : E.map (·.1) = s.acts) (p0 : AE)
    {a' : Option Addr} {n' c' : Nat} {wx : World} (hg : wx.heap[gA]? = some (.cells #[.slice a' n' c'] 34 (0, 0))) (hA : ActI W0.heap.size wx (.slice a' n' c') (E ++ [p0])) (hk : ∀ b, b < w.heap.size → b ≠ gA → (Value.slice a n c).ownBlock ≠ some b → wx.heap[b]? = w.heap[b]?) (hrow : ActI W0.heap.size w1 (.slice a n c) E) (hB : Below W0.heap.size w wx) : LW W0 p pd gA ab { s with acts := s.acts ++ [p0.1] } wx := by
  have hsz := h.size
  have hs2 := hb.size
  have keepX : ∀ {k : Nat} {C : Array Value} {t : TypeId} {f : Nat × Nat}, w1.heap[k]? = some (.cells C t f) → t ≠ 34 → t ≠ 51 → wx.heap[k]? = w1.heap[k]? := fun {k C t f} hk1 h1 h2 => by
    rw [hk k (Nat.lt_of_lt_of_le (heap_lt hk1) hs2) (ne_of_ty hk1 hv h1) (fun e => by
      obtain ⟨cur, h3⟩ := hrow.row.obj e
      exact ne_of_ty hk1 h3 h2 rfl), hb.block k (heap_lt hk1)]
  obtain ⟨da, dc, d1, d2⟩ := h.dice
  have ho := h.old.trans (Only.of_below hb)
  refine ⟨(keepX h.box (by decide) (by decide)).trans h.box, ⟨da, dc, d1.keep fun k hk1 => ?_, d2⟩, ⟨a', n', c', _, hg, hA, by rw [List.map_append, he]; rfl⟩, ⟨hB.os.trans ho.os, hB.tape.trans ho.tape, hB.output.trans ho.output, Nat.le_trans ho.size hB.size, fun k hn hl => (hB.block k hl).trans (ho.block k hn hl)⟩, h.lp, h.ld, h.lab, h.lg, ⟨h.ok.c, h.ok.words, h.ok.few⟩⟩
  rcases hk1 with rfl | hk1
  · exact keepX d1.box (by decide) (by decide)
  · obtain ⟨cur, h1⟩ := d1.row.cells hk1
    exact keepX h1 (by decide) (by decide)
set_option maxRecDepth 20000 in
set_option maxHeartbeats 1000000 in
theorem tell_any {W0 : World} {p pd gA : Nat} {ab : Option Nat} {s : LS} {w1 : World} (h : LW W0 p pd gA ab s w1) (w : World) (hb : Below w1.heap.size w1 w) (hn : s.acts.length < 4096) (a0 : Ac) (av : Option Addr) (nv cv : Nat) (EO : List (Opt × Value)) (ho : OwnO w1.heap.size w (.slice av nv cv) EO) (hc : codes EO = a0.opts) :
    Calls Try.prog 27 #[.agg (a0.cells (.slice av nv cv)), .pointer (some ⟨gA, 0, none⟩)] w fun e w' => e = .returned (.tuple #[]) ∧ Hid (LC W0 p pd gA ab { s with acts := s.acts ++ [a0] } w w') := by
  obtain ⟨a, n, c, E, v1, v2, v3⟩ := h.var
  have hE : E.length = s.acts.length := by rw [← v3]; simp
  obtain ⟨wb, hwb⟩ : ∃ W, W = w.alloc (.cells (a0.cells (.slice av nv cv)) 51) := ⟨_, rfl⟩
  have hbb : Below w.heap.size w wb := by rw [hwb]; exact bpush (Below.refl _ _) _
  have hb1 : Below w1.heap.size w1 wb := bstep hb hbb
  have hgx : wb.heap[w.heap.size]? = some (.cells (a0.cells (.slice av nv cv)) 51 (0, 0)) := by rw [hwb]; exact heap_new _ _
  have hva : wb.heap[gA]? = some (.cells #[.slice a n c] 34 (0, 0)) := kept v1 hb1
  obtain ⟨a', n', c', w2, r1, r2, r3, r4⟩ := (v2.below hb1).app (Nat.le_trans h.size hb1.size) (by omega) (a0, .slice av nv cv, EO) ((ho.below hbb).le h.size) hc (fun q hq b hb' hb2 => by
    have e1 := (ho.lt hb').1
    have e2 := ((v2.opts q hq).1.lt hb2).2
    omega)
  simp only at r1
  have hva2 : w2.heap[gA]? = some (.cells #[.slice a n c] 34 (0, 0)) := (r4 gA (heap_lt hva) (fun e => by
    obtain ⟨cur, h3⟩ := (v2.below hb1).row.obj e
    exact ne_of_ty hva h3 (by decide) rfl)).trans hva
  have hg3 := heap_setCell (v := .slice a' n' c') (j := 0) hva2
  have HF : Hid (LW W0 p pd gA ab { s with acts := s.acts ++ [a0] } (w2.setCell ⟨gA, 0, none⟩ (.slice a' n' c'))) := by
    refine hid (LW.told (a' := a') (n' := n') (c' := c') (p0 := (a0, .slice av nv cv, EO)) h hb1 v1 v3 (by simpa using hg3) (r2.keep fun b hi => Below.heap_setCell _ _ _ _ ?_) (fun b hl hne hv => ?_) v2 (r3.trans ((But.setCell gA w2 0 _).below h.lg (Nat.le_trans h.size (Nat.le_trans hb1.size r3.size)))))
    · obtain ⟨cur, t, f, o1, o2⟩ := r2.objT hi
      refine ne_of_ty o1 hva2 ?_
      rcases o2 with rfl | rfl | rfl <;> decide
    · rw [Below.heap_setCell _ _ _ _ hne]
      exact r4 b hl hv
  have HST : Hid (Stay w (w2.setCell ⟨gA, 0, none⟩ (.slice a' n' c'))) := by
    refine ⟨Nat.le_trans hbb.size (Nat.le_trans r3.size (But.setCell gA w2 0 _).size), fun {b C t f} h1 h2 h3 h4 h5 => ?_⟩
    have k1 := kept h1 hbb
    have k2 := (r4 b (heap_lt k1) (fun e => by
      obtain ⟨cur, h3⟩ := (v2.below hb1).row.obj e
      exact ne_of_ty k1 h3 h5 rfl)).trans k1
    exact (Below.heap_setCell _ _ _ _ (ne_of_ty k2 hva2 h4)).trans k2
  have HR := hid r1
  have c0 := cell_of_heap hva 0
  have f2 := frozen_of_heap hva2 0
  have c2 := cell_of_heap hva2 0
  simp only [List.getElem?_toArray, List.getElem?_cons_zero] at c0 c2
  clear r1 r2 r3 r4 hg3 hva hva2 v1 v2 v3 h ho hc hb hb1 hE hn hbb
  have hsz := a0.size (.slice av nv cv)
  generalize a0.cells (.slice av nv cv) = C at *
  obtain ⟨gx, hx⟩ : ∃ g, g = w.heap.size := ⟨_, rfl⟩
  rw [← hx] at hgx
  go_enter Try.func27, Try.ntmps27
  go_upto_region 1 with (fail)
  rw [← hwb, ← hx]
  clear hwb hx
  go_wp2_with (first
    | (refine wpList_load_row rfl 51 _ rfl gx rfl 51 _ (0, 0) _ (by exact hgx) Try.underlying51 rfl (by rw [hsz]; kernel_rfl) ?_)
    | (refine wpList_slice_one rfl 34 51 _ rfl C 31 _ rfl hsz (by decide) (by decide) Try.underlying34 infoAct2 ?_)
    | (refine wpList_append_run _ rfl (.tmp 3) (.tmp 5) 34 34 rfl _ _ rfl rfl HR.out ?_)
    | fail)
  go_end0
  exact ⟨rfl, HF.out, HST.out⟩
end Go.Proofs.Ytgcpoanjjgbfjaa

/-
  Lease: the small methods of a client.
-/
namespace Go.Proofs.Ytgcpoanjjgbfjaa
open Go.RowKit
set_option linter.all false

def BoxC (w : World) (p : Nat) (c : Cl) : Prop := w.heap[p]? = some (.cells c.cells 53 (0, 0))
theorem BoxC.at {w : World} {p : Nat} {c : Cl} (h : BoxC w p c) (q : Nat) : w.cell? ⟨p, q, none⟩ = c.cells[q]? := cell_of_heap h q
theorem BoxC.fr {w : World} {p : Nat} {c : Cl} (h : BoxC w p c) (q : Nat) : w.frozen? ⟨p, q, none⟩ = false := frozen_of_heap h q
set_option maxHeartbeats 400000 in
theorem lholds_any {p : Nat} {c : Cl} (w : World) (h : BoxC w p c) :
    Calls Try.prog 26 #[.pointer (some ⟨p, 0, none⟩)] w fun e w' => e = .returned (.bool (decide (4 ≤ c.st))) ∧ w' = w := by
  have c7 : w.cell? ⟨p, 7, none⟩ = some (.int .i64 c.st) := (h.at 7).trans rfl
  clear h
  generalize c.st = st at *
  by_cases h4 : 4 ≤ st
  · simp only [h4, decide_true]
    go_enter Try.func26, Try.ntmps26
    go_wp2
    go_ret
    exact ⟨rfl, rfl⟩
  · simp only [h4, decide_false]
    go_enter Try.func26, Try.ntmps26
    go_wp2
    go_ret
    exact ⟨rfl, rfl⟩
set_option maxHeartbeats 400000 in
theorem isDue_any {p : Nat} {c : Cl} (t : Int) (w : World) (h : BoxC w p c) :
    Calls Try.prog 30 #[.pointer (some ⟨p, 0, none⟩), .int .i64 t] w fun e w' => e = .returned (.bool (dueB t c.now)) ∧ w' = w := by
  have c6 : w.cell? ⟨p, 6, none⟩ = some (.int .i64 c.now) := (h.at 6).trans rfl
  clear h
  generalize c.now = now at *
  have HD : Hid (dueB t now = ((t != -1) && decide (t ≤ now))) := rfl
  by_cases h1 : (t != -1) = true
  · by_cases h2 : t ≤ now
    · go_enter Try.func30, Try.ntmps30
      go_wp2
      go_ret
      exact ⟨ret_bool (by rw [HD.out, h1]; simp [h2]), rfl⟩
    · go_enter Try.func30, Try.ntmps30
      go_wp2
      go_ret
      exact ⟨ret_bool (by rw [HD.out, h1]; simp [h2]), rfl⟩
  · have h1' : (t != -1) = false := by simpa using h1
    clear h1
    go_enter Try.func30, Try.ntmps30
    go_wp2
    go_ret
    exact ⟨ret_bool (by rw [HD.out, h1']; simp), rfl⟩
set_option maxHeartbeats 400000 in
theorem secs_any {p : Nat} {c : Cl} (w : World) (h : BoxC w p c) (hok : c.ok) :
    Calls Try.prog 58 #[.pointer (some ⟨p, 0, none⟩)] w fun e w' => e = .returned (.int .i64 (secsC c)) ∧ Hid (Below w.heap.size w w') := by
  have c6 : w.cell? ⟨p, 6, none⟩ = some (.int .i64 c.now) := (h.at 6).trans rfl
  have c9 : w.cell? ⟨p, 9, none⟩ = some (.int .i64 c.beg) := (h.at 9).trans rfl
  have HD : Hid (secsC c = (c.now - c.beg) / 10) := rfl
  obtain ⟨n1, n2⟩ := hok.now
  obtain ⟨b1, b2⟩ := hok.beg
  clear h hok
  generalize c.now = now at *
  generalize c.beg = beg at *
  have e1 : IntKind.i64.wrap (now - beg) = now - beg := by simp only [IntKind.wrap_i64]; omega
  have e2 : (now - beg).tdiv 10 = (now - beg) / 10 := Int.tdiv_eq_ediv_of_nonneg (by omega)
  have e3 : IntKind.i64.wrap ((now - beg) / 10) = (now - beg) / 10 := by simp only [IntKind.wrap_i64]; omega
  go_enter Try.func58, Try.ntmps58
  go_wp2
  go_region
  all_goals go_wp2
  all_goals go_ret
  all_goals exact ⟨ret_int HD.out.symm, by repeat (first | exact Below.refl _ _ | refine Below.drew ?_ | refine Below.drewN ?_ _)⟩
set_option maxHeartbeats 400000 in
theorem behind_any (a t : Int) (w : World) (ha : -1125899906842625 ≤ a ∧ a ≤ 1125899906842624) (ht : -1125899906842625 ≤ t ∧ t ≤ 1125899906842624) :
    Calls Try.prog 56 #[.int .i64 a, .int .i64 t] w fun e w' => e = .returned (.int .i64 (bhd a t)) ∧ w' = w := by
  obtain ⟨a1, a2⟩ := ha
  obtain ⟨t1, t2⟩ := ht
  have e1 : IntKind.i64.wrap (a + t) = a + t := by simp only [IntKind.wrap_i64]; omega
  have HD : Hid (bhd a t = min (a + t) 1125899906842624) := rfl
  by_cases h1 : a + t ≤ 1125899906842624
  · have h2 : ¬ 1125899906842624 < a + t := by omega
    go_enter Try.func56, Try.ntmps56
    go_wp2
    go_ret
    exact ⟨ret_int (by have := HD.out; omega), rfl⟩
  · have h2 : 1125899906842624 < a + t := by omega
    go_enter Try.func56, Try.ntmps56
    go_wp2
    go_ret
    exact ⟨ret_int (by have := HD.out; omega), rfl⟩
theorem BoxC.due {w : World} {p : Nat} {c : Cl} (h : BoxC w p c) (n : Int) : BoxC (w.setCell ⟨p, 22, none⟩ (.int .i64 n)) p { c with due := n } := (heap_setCell (j := 22) h).trans rfl
theorem BoxC.now {w : World} {p : Nat} {c : Cl} (h : BoxC w p c) (n : Int) : BoxC (w.setCell ⟨p, 6, none⟩ (.int .i64 n)) p { c with now := n } := (heap_setCell (j := 6) h).trans rfl
theorem BoxC.st {w : World} {p : Nat} {c : Cl} (h : BoxC w p c) (n : Int) : BoxC (w.setCell ⟨p, 7, none⟩ (.int .i64 n)) p { c with st := n } := (heap_setCell (j := 7) h).trans rfl
theorem BoxC.xid {w : World} {p : Nat} {c : Cl} (h : BoxC w p c) (n : Int) : BoxC (w.setCell ⟨p, 8, none⟩ (.int .u32 n)) p { c with xid := n } := (heap_setCell (j := 8) h).trans rfl
theorem BoxC.beg {w : World} {p : Nat} {c : Cl} (h : BoxC w p c) (n : Int) : BoxC (w.setCell ⟨p, 9, none⟩ (.int .i64 n)) p { c with beg := n } := (heap_setCell (j := 9) h).trans rfl
theorem BoxC.ask {w : World} {p : Nat} {c : Cl} (h : BoxC w p c) (n : Int) : BoxC (w.setCell ⟨p, 10, none⟩ (.int .i64 n)) p { c with ask := n } := (heap_setCell (j := 10) h).trans rfl
theorem BoxC.tries {w : World} {p : Nat} {c : Cl} (h : BoxC w p c) (n : Int) : BoxC (w.setCell ⟨p, 21, none⟩ (.int .i64 n)) p { c with tries := n } := (heap_setCell (j := 21) h).trans rfl
theorem BoxC.l {w : World} {p : Nat} {c : Cl} (h : BoxC w p c) (l : Ls) : BoxC (w.setCells p 11 l.cells.toList) p { c with l := l } := by
  have := heap_setCells l.cells.toList w p 11 _ _ _ h
  simpa [BoxC, putCells, Cl.cells, Ls.cells] using this
set_option maxHeartbeats 400000 in
theorem wait_any {p : Nat} {c : Cl} (n : Int) (w : World) (h : BoxC w p c) (hok : c.ok) (hn : -1125899906842625 ≤ n ∧ n ≤ 1125899906842624) :
    Calls Try.prog 43 #[.pointer (some ⟨p, 0, none⟩), .int .i64 n] w fun e w' => e = .returned (.tuple #[]) ∧ Hid (BoxC w' p { c with due := bhd c.now n } ∧ But p w w') := by
  have c6 : w.cell? ⟨p, 6, none⟩ = some (.int .i64 c.now) := (h.at 6).trans rfl
  have c22 : w.cell? ⟨p, 22, none⟩ = some (.int .i64 c.due) := (h.at 22).trans rfl
  have f22 := h.fr 22
  have HB := hid (behind_any c.now n w (by have := hok.now; omega) hn)
  have HR : Hid (BoxC (w.setCell ⟨p, 22, none⟩ (.int .i64 (bhd c.now n))) p { c with due := bhd c.now n } ∧ But p w (w.setCell ⟨p, 22, none⟩ (.int .i64 (bhd c.now n)))) := ⟨h.due _, But.setCell _ _ _ _⟩
  clear h hok hn
  generalize bhd c.now n = R at *
  generalize c.now = now at *
  generalize c.due = due at *
  go_enter Try.func43, Try.ntmps43
  go_wp2_with (first
    | (go_at_call 56; refine HB.out.mono ?_; rintro e w1 ⟨rfl, rfl⟩)
    | fail)
  go_end0
  exact ⟨rfl, HR.out⟩
set_option maxHeartbeats 400000 in
theorem hear_any {p : Nat} {c : Cl} (n : Int) (w : World) (h : BoxC w p c) :
    Calls Try.prog 16 #[.pointer (some ⟨p, 0, none⟩), .int .i64 n] w fun e w' => e = .returned (.tuple #[]) ∧ Hid (BoxC w' p (hearC c n) ∧ But p w w') := by
  have c6 : w.cell? ⟨p, 6, none⟩ = some (.int .i64 c.now) := (h.at 6).trans rfl
  have f6 := h.fr 6
  obtain ⟨R, hR⟩ : ∃ R, R = min (max c.now n) 1125899906842624 := ⟨_, rfl⟩
  have HR : Hid (BoxC (w.setCell ⟨p, 6, none⟩ (.int .i64 R)) p (hearC c n) ∧ But p w (w.setCell ⟨p, 6, none⟩ (.int .i64 R))) := by rw [hR]; exact ⟨h.now _, But.setCell _ _ _ _⟩
  clear h
  generalize c.now = now at *
  have e1 : (if now < n then n else now) = max now n := by split <;> omega
  have e2 : (if 1125899906842624 < max now n then 1125899906842624 else max now n) = R := by rw [hR]; split <;> omega
  go_enter Try.func16, Try.ntmps16
  go_wp2
  all_goals go_end0
  all_goals
    refine ⟨rfl, ?_⟩
    have hq := HR.out
    rw [hR] at hq
    exact hq
end Go.Proofs.Ytgcpoanjjgbfjaa

/-
  Lease: which lease is meant; messages that are told.
-/
namespace Go.Proofs.Ytgcpoanjjgbfjaa
open Go.RowKit
set_option linter.all false

/-- two options that were made, side by side. -/
theorem ov_two {w w1 w2 : World} {g1 g2 : Nat} {x y : Int} {zx zy : List Int} (h1 : MadeO w w1 g1 zx) (W : World) (hW : Below w1.heap.size w1 W) (h2 : MadeO W w2 g2 zy) (hx : ∀ z ∈ zx, 0 ≤ z ∧ z ≤ 255) (hy : ∀ z ∈ zy, 0 ≤ z ∧ z ≤ 255) (lx : zx.length = 4) (ly : zy.length = 4) (nx : 0 ≤ x ∧ x ≤ 255) (ny : 0 ≤ y ∧ y ≤ 255) :
    OV (w2.alloc (.cells #[.int .i64 x, .slice (some ⟨g1, 0, none⟩) 4 4, .int .i64 y, .slice (some ⟨g2, 0, none⟩) 4 4] 38)) (some ⟨w2.heap.size, 0, none⟩) [(x, ⟨some ⟨g1, 0, none⟩, 4, zx⟩), (y, ⟨some ⟨g2, 0, none⟩, 4, zy⟩)] := by
  obtain ⟨a1, a2, a3⟩ := h1
  obtain ⟨b1, b2, b3⟩ := h2
  have q1 := kept a2 (bstep (bstep hW b3) (bpush (Below.refl _ w2) (.cells #[.int .i64 x, .slice (some ⟨g1, 0, none⟩) 4 4, .int .i64 y, .slice (some ⟨g2, 0, none⟩) 4 4] 38)))
  have q2 := kept b2 (bpush (Below.refl _ w2) (.cells #[.int .i64 x, .slice (some ⟨g1, 0, none⟩) 4 4, .int .i64 y, .slice (some ⟨g2, 0, none⟩) 4 4] 38))
  have k1 := Part.of_row (cap := 4) q1 (by omega) hx
  have k2 := Part.of_row (cap := 4) q2 (by omega) hy
  have hn := heap_new w2 (.cells #[.int .i64 x, .slice (some ⟨g1, 0, none⟩) 4 4, .int .i64 y, .slice (some ⟨g2, 0, none⟩) 4 4] 38)
  refine ⟨fun i o ho => ⟨w2.heap.size, 0, rfl, ?_, ?_⟩, fun o ho => ?_, by simp, fun o ho => ?_⟩
  · match i, ho with
    | 0, ho => simp at ho; subst ho; exact (cell_of_heap hn 0).trans rfl
    | 1, ho => simp at ho; subst ho; exact (cell_of_heap hn 2).trans rfl
    | n + 2, ho => simp at ho
  · match i, ho with
    | 0, ho => simp at ho; subst ho; rw [Part.val, lx]; exact (cell_of_heap hn 1).trans rfl
    | 1, ho => simp at ho; subst ho; rw [Part.val, ly]; exact (cell_of_heap hn 3).trans rfl
    | n + 2, ho => simp at ho
  · simp only [List.mem_cons, List.not_mem_nil, or_false] at ho
    rcases ho with rfl | rfl
    · exact ⟨k1, by simp only; omega⟩
    · exact ⟨k2, by simp only; omega⟩
  · simp only [List.mem_cons, List.not_mem_nil, or_false] at ho
    rcases ho with rfl | rfl <;> omega
/-- the options that name a lease, in memory. -/
def NamI (w w' : World) (g : Nat) (l : Ls) : Prop := ∃ os, OV w' (some ⟨g, 0, none⟩) os ∧ os.length = 2 ∧ absO os = namesL l ∧ Below w.heap.size w w'
set_option maxRecDepth 20000 in
set_option maxHeartbeats 1000000 in
theorem names_any {p : Nat} {c : Cl} (w : World) (h : BoxC w p c) (hok : c.ok) :
    Calls Try.prog 59 #[.pointer (some ⟨p, 0, none⟩)] w fun e w' => ∃ g, e = .returned (.slice (some ⟨g, 0, none⟩) 2 2) ∧ Hid (NamI w w' g c.l) := by
  have c11 : w.cell? ⟨p, 11, none⟩ = some (.int .u32 c.l.ip) := (h.at 11).trans rfl
  have c14 : w.cell? ⟨p, 14, none⟩ = some (.int .u32 c.l.sv) := (h.at 14).trans rfl
  have hpl : p < w.heap.size := heap_lt h
  obtain ⟨hip, hsv⟩ : U32 c.l.ip ∧ U32 c.l.sv := ⟨hok.l.ip, hok.l.sv⟩
  have HL : Hid (namesL c.l = [(50, ip4 c.l.ip), (54, ip4 c.l.sv)]) := rfl
  unfold NamI
  generalize namesL c.l = L at *
  generalize c.l.ip = ip at *
  generalize c.l.sv = sv at *
  have HK : Hid (∀ W, Below w.heap.size w W → W.cell? ⟨p, 11, none⟩ = some (.int .u32 ip) ∧ W.cell? ⟨p, 14, none⟩ = some (.int .u32 sv)) := fun W hW => ⟨(hW.cell (p := ⟨p, 11, none⟩) hpl).trans c11, (hW.cell (p := ⟨p, 14, none⟩) hpl).trans c14⟩
  have HN : Hid (∀ W (code n : Int), Below w.heap.size w W → U32 n → Calls Try.prog 74 #[.int .i64 code, .int .u32 n] W fun e w' => ∃ g, e = .returned (.agg #[.int .i64 code, .slice (some ⟨g, 0, none⟩) 4 4]) ∧ Hid (MadeO W w' g (ip4 n)) ∧ (w'.cell? ⟨p, 11, none⟩ = some (.int .u32 ip) ∧ w'.cell? ⟨p, 14, none⟩ = some (.int .u32 sv)) ∧ Hid (Below w.heap.size w w')) := fun W code n hW hn => (numbered_any code n W hn.1 hn.2).mono fun e w' ⟨g, h1, h2⟩ => ⟨g, h1, h2, HK.out _ (bstep hW h2.out.2.2), bstep hW h2.out.2.2⟩
  have HI := hid hip
  have HS := hid hsv
  have xx := HK.out w (Below.refl _ _)
  have xy := HK.out w.drew (Below.refl _ _).drew
  clear h hok hip hsv hpl c11 c14
  go_enter Try.func59, Try.ntmps59
  go_upto_region 1 with (fail)
  go_region_held_law (fun s => s.cell? ⟨p, 11, none⟩ = some (.int .u32 ip) ∧ s.cell? ⟨p, 14, none⟩ = some (.int .u32 sv)) (first
    | assumption
    | exact xx
    | exact xy
    | exact hy
    | exact hu
    | exact HK.out _ (bpush HB2.out _)) (first
    | (have hgate := HM1; clear hgate; go_at_call 74; refine (HN.out _ _ _ HB1.out HS.out).mono ?_; rintro e w3 ⟨g2, rfl, HM2, hu, HB2⟩)
    | (go_at_call 74; refine (HN.out _ _ _ (by first | exact Below.refl _ _ | exact (Below.refl _ _).drew) HI.out).mono ?_; rintro e w2 ⟨g1, rfl, HM1, hy, HB1⟩)
    | fail)
  all_goals go_wp2
  all_goals go_ret
  all_goals refine ⟨_, rfl, _, ov_two HM1.out _ (Below.refl _ _) HM2.out (ip4_bd _) (ip4_bd _) rfl rfl (by omega) (by omega), rfl, by rw [HL.out]; rfl, bpush HB2.out _⟩
end Go.Proofs.Ytgcpoanjjgbfjaa

/-
  Lease: send. Written by mklzsend.py.
-/
namespace Go.Proofs.Ytgcpoanjjgbfjaa
open Go.RowKit
set_option linter.all false

theorem BoxC.below {w w' : World} {p : Nat} {c : Cl} (h : BoxC w p c) (hb : Below w.heap.size w w') : BoxC w' p c := kept h hb
def TurnB (tb pd gA : Nat) (w : World) : Prop := w.heap[tb]? = some (.cells #[.pointer (some ⟨pd, 0, none⟩), .func (.func 27) #[] #[.pointer (some ⟨gA, 0, none⟩)]] 60 (0, 0))
/-- a message that was made, in the box gx. -/
structure SndI (wt wx : World) (gx : Nat) (M : Array Value) (v : Value) (L : List Opt) : Prop where
  box : wx.heap[gx]? = some (.cells M 41 (0, 0))
  opts : ∃ E, OwnO wt.heap.size wx v E ∧ codes E = L
  bel : Below wt.heap.size wt wx
theorem SndI.of {wt W w2 wx : World} {gx : Nat} {M X : Array Value} {v : Value} {L : List Opt} (hW : Below wt.heap.size wt W) (ho : OptI W w2 v L) (hb : Below wt.heap.size wt w2) (hgx : wt.heap.size ≤ gx) (hX : w2.heap[gx]? = some (.cells X 41 (0, 0))) (hg : wx.heap[gx]? = some (.cells M 41 (0, 0))) (hu : But gx w2 wx) : SndI wt wx gx M v L := by
  obtain ⟨E, h1, h2⟩ := ho
  refine ⟨hg, ⟨E, (h1.le hW.size).keep fun b hi => hu.block b (fun e => ?_) (h1.lt hi).2, h2⟩, bbut hb hu hgx⟩
  obtain ⟨cur, ty, f, o1, o2⟩ := h1.objT hi
  subst e
  exact ne_of_ty o1 hX (by rcases o2 with rfl | rfl <;> decide) rfl
set_option maxRecDepth 20000 in
set_option maxHeartbeats 1000000 in
theorem send_any {W0 : World} {p pd gA : Nat} {ab : Option Nat} {s : LS} (kind frm dst secs : Int) (a : Option Addr) (c : Nat) (os : List OP) (w : World) (h : LW W0 p pd gA ab s w) (hn : s.acts.length < 4096)
    (hk : -9223372036854775808 ≤ kind ∧ kind ≤ 9223372036854775807) (hs : -9223372036854775808 ≤ secs ∧ secs ≤ 9223372036854775807) (ho : OV w a os) (hf : os.length ≤ 4294967296) :
    Calls Try.prog 57 #[.pointer (some ⟨p, 0, none⟩), turnV pd gA, .int .i64 kind, .int .u32 frm, .int .u32 dst, .int .i64 secs, .slice a os.length c] w fun e w' => e = .returned (.tuple #[]) ∧ Hid (LC W0 p pd gA ab (sendS kind frm dst secs (absO os) s) w w') := by
  obtain ⟨wt, hwt⟩ : ∃ W, W = w.alloc (.cells #[.pointer (some ⟨pd, 0, none⟩), .func (.func 27) #[] #[.pointer (some ⟨gA, 0, none⟩)]] 60) := ⟨_, rfl⟩
  obtain ⟨tb, htb⟩ : ∃ g, g = w.heap.size := ⟨_, rfl⟩
  have HBT : Hid (Below w.heap.size w wt) := by rw [hwt]; exact bpush (Below.refl _ _) _
  have HTB : Hid (TurnB tb pd gA wt) := by rw [hwt, htb]; exact heap_new _ _
  have HLW := hid (h.below HBT.out)
  have HOV := hid (ho.below HBT.out)
  have hbx : BoxC wt p s.c := HLW.out.box
  have HK : Hid (∀ W, Below wt.heap.size wt W → ∀ q, W.cell? ⟨p, q, none⟩ = (#[.int .u8 s.c.own.b0, .int .u8 s.c.own.b1, .int .u8 s.c.own.b2, .int .u8 s.c.own.b3, .int .u8 s.c.own.b4, .int .u8 s.c.own.b5, .int .i64 s.c.now, .int .i64 s.c.st, .int .u32 s.c.xid, .int .i64 s.c.beg, .int .i64 s.c.ask, .int .u32 s.c.l.ip, .int .u32 s.c.l.m, .int .u32 s.c.l.r, .int .u32 s.c.l.sv, .int .u32 s.c.l.nx, .string s.c.l.file, .int .i64 s.c.l.frm, .int .i64 s.c.l.t1, .int .i64 s.c.l.t2, .int .i64 s.c.l.un, .int .i64 s.c.tries, .int .i64 s.c.due] : Array Value)[q]?) := fun W hW q => (hbx.below hW).at q
  have HASK : Hid (∀ W, Below wt.heap.size wt W → Calls Try.prog 73 #[.int .i64 kind, .agg #[.int .u8 s.c.own.b0, .int .u8 s.c.own.b1, .int .u8 s.c.own.b2, .int .u8 s.c.own.b3, .int .u8 s.c.own.b4, .int .u8 s.c.own.b5], .int .u32 s.c.xid, .int .i64 secs, .int .u32 frm, .slice a os.length c] W fun e w' => ∃ a2 n2 c2, e = .returned (.agg ((askM s.c.own s.c.xid secs frm).cells (.slice a2 n2 c2))) ∧ Hid (OptI W w' (.slice a2 n2 c2) ((53, op1 kind) :: absO os)) ∧ Hid (Below W.heap.size W w') ∧ Hid (Below wt.heap.size wt w')) := fun W hW => (bask_any kind hk s.c.own s.c.xid secs frm hs a c os W (HOV.out.below hW) hf).mono fun e w' ⟨a', n', c', h1, h2⟩ => ⟨a', n', c', h1, h2.out.1, h2.out.2, bstep hW h2.out.2⟩
  have HN := hid hn
  generalize hL : absO os = L at *
  generalize os.length = n at *
  have HFIN : Hid (∀ (wx : World) (gx : Nat) (a2 : Option Addr) (n2 c2 : Nat), SndI wt wx gx ((askM s.c.own s.c.xid secs frm).cells (.slice a2 n2 c2)) (.slice a2 n2 c2) ((53, op1 kind) :: L) → Calls Try.prog 27 #[.agg ((Ac.mk 1 frm dst (askM s.c.own s.c.xid secs frm) ((53, op1 kind) :: L) Ls.zero).cells (.slice a2 n2 c2)), .pointer (some ⟨gA, 0, none⟩)] wx fun e w' => e = .returned (.tuple #[]) ∧ Hid (LC W0 p pd gA ab (sendS kind frm dst secs L s) w w')) := fun wx gx a2 n2 c2 ⟨h1, ⟨E, h2, h3⟩, h4⟩ =>
    (tell_any HLW.out wx h4 HN.out (Ac.mk 1 frm dst (askM s.c.own s.c.xid secs frm) ((53, op1 kind) :: L) Ls.zero) a2 n2 c2 E h2 h3).mono fun e w' ⟨k1, k2⟩ => ⟨k1, k2.out.1, (Stay.of_below HBT.out).trans ((Stay.of_below h4).trans k2.out.2)⟩
  clear h hk hs ho hf hn hbx hL
  have HTC : Hid (∀ W, Below wt.heap.size wt W → ∀ q, W.cell? ⟨tb, q, none⟩ = (#[.pointer (some ⟨pd, 0, none⟩), .func (.func 27) #[] #[.pointer (some ⟨gA, 0, none⟩)]] : Array Value)[q]?) := fun W hW q => cell_of_heap (kept HTB.out hW) q
  unfold turnV
  go_enter Try.func57, Try.ntmps57
  go_upto_region 1 with (fail)
  rw [← hwt, ← htb]
  have xx := HK.out wt (Below.refl _ _)
  clear hwt htb
  refine wp_region_noPanic ?_
  refine wp_region_held_drew (S := fun w' => ∀ q, w'.cell? ⟨p, q, none⟩ = (#[.int .u8 s.c.own.b0, .int .u8 s.c.own.b1, .int .u8 s.c.own.b2, .int .u8 s.c.own.b3, .int .u8 s.c.own.b4, .int .u8 s.c.own.b5, .int .i64 s.c.now, .int .i64 s.c.st, .int .u32 s.c.xid, .int .i64 s.c.beg, .int .i64 s.c.ask, .int .u32 s.c.l.ip, .int .u32 s.c.l.m, .int .u32 s.c.l.r, .int .u32 s.c.l.sv, .int .u32 s.c.l.nx, .string s.c.l.file, .int .i64 s.c.l.frm, .int .i64 s.c.l.t1, .int .i64 s.c.l.t2, .int .i64 s.c.l.un, .int .i64 s.c.tries, .int .i64 s.c.due] : Array Value)[q]?) (by kernel_rfl) xx (fun hHeld => ?_)
  refine wpAnyH_take (i := 0) (oi := { dst := some 15, op := .move (.tmp 2), type := _, pos := _, after := _, guard := none }) (v := .int .i64 kind) rfl (by kernel_rfl) (by kernel_rfl) (by kernel_rfl) (fun _ _ _ h => h) (Or.inl ⟨by rfl, fun wq hSw => by (try dsimp only at hSw); go_simp⟩) (by assumption) ?_
  try simp only [Act.put, List.setIfInBounds_toArray, List.set_cons_zero, List.set_cons_succ]
  refine wpAnyH_take (i := 1) (oi := { dst := some 16, op := .move (.tmp 0), type := _, pos := _, after := _, guard := none }) (v := .pointer (some ⟨p, 0, none⟩)) rfl (by kernel_rfl) (by kernel_rfl) (by kernel_rfl) (fun _ _ _ h => h) (Or.inl ⟨by rfl, fun wq hSw => by (try dsimp only at hSw); go_simp⟩) (by assumption) ?_
  try simp only [Act.put, List.setIfInBounds_toArray, List.set_cons_zero, List.set_cons_succ]
  refine wpAnyH_take (i := 2) (oi := { dst := some 17, op := .nilCheck (.tmp 16), type := _, pos := _, after := _, guard := none }) (v := .pointer (some ⟨p, 0, none⟩)) rfl (by kernel_rfl) (by kernel_rfl) (by kernel_rfl) (fun _ _ _ h => h) (Or.inl ⟨by rfl, fun wq hSw => by (try dsimp only at hSw); go_simp⟩) (by assumption) ?_
  try simp only [Act.put, List.setIfInBounds_toArray, List.set_cons_zero, List.set_cons_succ]
  refine wpAnyH_take (i := 3) (oi := { dst := some 18, op := .fieldAddr 53 (.tmp 17) 0, type := _, pos := _, after := _, guard := none }) (v := .pointer (some ⟨p, 0, none⟩)) rfl (by kernel_rfl) (by kernel_rfl) (by kernel_rfl) (fun _ _ _ h => h) (Or.inl ⟨by rfl, fun wq hSw => by (try dsimp only at hSw); go_simp⟩) (by assumption) ?_
  try simp only [Act.put, List.setIfInBounds_toArray, List.set_cons_zero, List.set_cons_succ]
  refine wpAnyH_take (i := 4) (oi := { dst := some 19, op := .load 25 (.tmp 18), type := _, pos := _, after := _, guard := none }) (v := .agg #[.int .u8 s.c.own.b0, .int .u8 s.c.own.b1, .int .u8 s.c.own.b2, .int .u8 s.c.own.b3, .int .u8 s.c.own.b4, .int .u8 s.c.own.b5]) rfl (by kernel_rfl) (by kernel_rfl) (by kernel_rfl) (fun _ _ _ h => h) (Or.inl ⟨by rfl, fun wq hSw => by (try dsimp only at hSw); go_simp⟩) (by assumption) ?_
  try simp only [Act.put, List.setIfInBounds_toArray, List.set_cons_zero, List.set_cons_succ]
  refine wpAnyH_take (i := 5) (oi := { dst := some 20, op := .move (.tmp 0), type := _, pos := _, after := _, guard := none }) (v := .pointer (some ⟨p, 0, none⟩)) rfl (by kernel_rfl) (by kernel_rfl) (by kernel_rfl) (fun _ _ _ h => h) (Or.inl ⟨by rfl, fun wq hSw => by (try dsimp only at hSw); go_simp⟩) (by assumption) ?_
  try simp only [Act.put, List.setIfInBounds_toArray, List.set_cons_zero, List.set_cons_succ]
  refine wpAnyH_take (i := 6) (oi := { dst := some 21, op := .nilCheck (.tmp 20), type := _, pos := _, after := _, guard := none }) (v := .pointer (some ⟨p, 0, none⟩)) rfl (by kernel_rfl) (by kernel_rfl) (by kernel_rfl) (fun _ _ _ h => h) (Or.inl ⟨by rfl, fun wq hSw => by (try dsimp only at hSw); go_simp⟩) (by assumption) ?_
  try simp only [Act.put, List.setIfInBounds_toArray, List.set_cons_zero, List.set_cons_succ]
  refine wpAnyH_take (i := 7) (oi := { dst := some 22, op := .fieldAddr 53 (.tmp 21) 3, type := _, pos := _, after := _, guard := none }) (v := .pointer (some ⟨p, 8, none⟩)) rfl (by kernel_rfl) (by kernel_rfl) (by kernel_rfl) (fun _ _ _ h => h) (Or.inl ⟨by rfl, fun wq hSw => by (try dsimp only at hSw); go_simp⟩) (by assumption) ?_
  try simp only [Act.put, List.setIfInBounds_toArray, List.set_cons_zero, List.set_cons_succ]
  refine wpAnyH_take (i := 8) (oi := { dst := some 23, op := .load 30 (.tmp 22), type := _, pos := _, after := _, guard := none }) (v := .int .u32 s.c.xid) rfl (by kernel_rfl) (by kernel_rfl) (by kernel_rfl) (fun _ _ _ h => h) (Or.inl ⟨by rfl, fun wq hSw => by (try dsimp only at hSw); go_simp⟩) (by assumption) ?_
  try simp only [Act.put, List.setIfInBounds_toArray, List.set_cons_zero, List.set_cons_succ]
  refine wpAnyH_take (i := 9) (oi := { dst := some 24, op := .move (.tmp 5), type := _, pos := _, after := _, guard := none }) (v := .int .i64 secs) rfl (by kernel_rfl) (by kernel_rfl) (by kernel_rfl) (fun _ _ _ h => h) (Or.inl ⟨by rfl, fun wq hSw => by (try dsimp only at hSw); go_simp⟩) (by assumption) ?_
  try simp only [Act.put, List.setIfInBounds_toArray, List.set_cons_zero, List.set_cons_succ]
  refine wpAnyH_take (i := 10) (oi := { dst := some 25, op := .move (.tmp 3), type := _, pos := _, after := _, guard := none }) (v := .int .u32 frm) rfl (by kernel_rfl) (by kernel_rfl) (by kernel_rfl) (fun _ _ _ h => h) (Or.inl ⟨by rfl, fun wq hSw => by (try dsimp only at hSw); go_simp⟩) (by assumption) ?_
  try simp only [Act.put, List.setIfInBounds_toArray, List.set_cons_zero, List.set_cons_succ]
  refine wpAnyH_take (i := 11) (oi := { dst := some 26, op := .move (.tmp 6), type := _, pos := _, after := _, guard := none }) (v := .slice a n c) rfl (by kernel_rfl) (by kernel_rfl) (by kernel_rfl) (fun _ _ _ h => h) (Or.inl ⟨by rfl, fun wq hSw => by (try dsimp only at hSw); go_simp⟩) (by assumption) ?_
  try simp only [Act.put, List.setIfInBounds_toArray, List.set_cons_zero, List.set_cons_succ]
  have hd0 : Below wt.heap.size wt wt.drew := (Below.refl _ _).drew
  refine wpAnyH_ready (rs := [12, 13]) (by kernel_rfl) (by simp) ?_
  refine AllReadyH.cons (o := { dst := some 27, op := .call { callee := .value (.func 73), args := #[.tmp 15, .tmp 19, .tmp 23, .tmp 24, .tmp 25, .tmp 26], argTypes := #[3, 25, 30, 3, 30, 39] }, type := _, pos := _, after := _, guard := none }) rfl (fun K hK => ?_) (AllReadyH.cons (o := { dst := some 14, op := .alloc 41, type := _, pos := _, after := _, guard := none }) rfl (fun K hK => ?_) AllReadyH.nil)
  · go_simp
    refine (HASK.out _ hd0).mono ?_
    rintro e w2 ⟨a2, n2, c2, rfl, HO2, HB1, HB2⟩
    refine hK _ _ (HK.out _ HB2.out) (fun hHeld => ?_)
    clear hK
    try simp only [Act.put, List.setIfInBounds_toArray, List.set_cons_zero, List.set_cons_succ]
    refine wpAnyH_ready (rs := [13]) (by kernel_rfl) (by simp) ?_
    refine AllReadyH.cons (o := { dst := some 14, op := .alloc 41, type := _, pos := _, after := _, guard := none }) rfl (fun K hK => ?_) AllReadyH.nil
    refine step_alloc_to rfl 41 rfl zeroC (by kernel_rfl) ?_
    obtain ⟨w3, hw3⟩ : ∃ W, W = w2.alloc (.cells zeroC 41) := ⟨_, rfl⟩
    obtain ⟨gx, hgx⟩ : ∃ g, g = w2.heap.size := ⟨_, rfl⟩
    have HX : Hid (w3.heap[gx]? = some (.cells zeroC 41 (0, 0))) := by rw [hw3, hgx]; exact heap_new _ _
    have HB3 : Hid (Below w2.heap.size w2 w3) := by rw [hw3]; exact bpush (Below.refl _ _) _
    have HGX : Hid (wt.heap.size ≤ gx) := by rw [hgx]; exact HB2.out.size
    rw [← hw3, ← hgx]
    clear hw3 hgx
    refine hK _ _ (HK.out _ (bstep HB2.out HB3.out)) (fun hHeld => ?_)
    clear hK
    try simp only [Act.put, List.setIfInBounds_toArray, List.set_cons_zero, List.set_cons_succ]
    refine wpAnyH_ready (rs := [14]) (by kernel_rfl) (by simp) ?_
    refine AllReadyH.cons (o := { dst := none, op := .store 41 (.tmp 14) (.tmp 27), type := _, pos := _, after := _, guard := none }) rfl (fun K hK => ?_) AllReadyH.nil
    refine step_store_row rfl 41 _ _ rfl gx ((askM s.c.own s.c.xid secs frm).cells (.slice a2 n2 c2)) rfl rfl 41 _ HX.out sizeBp rfl (by simp [Bp.cells, askM, Value.oneCell']) ?_
    intro w4 HG4 HBU
    have HS := hid (SndI.of hd0 (HO2.out.below HB3.out) (bstep HB2.out HB3.out) HGX.out HX.out HG4.out HBU.out)
    refine hK _ _ (HK.out _ HS.out.bel) (fun hHeld => ?_)
    clear hK
    try simp only [Act.put, List.setIfInBounds_toArray, List.set_cons_zero, List.set_cons_succ]
    refine wpAnyH_done (by kernel_rfl) ?_ _
    refine NoPanic.normal ?_
    clear HO2 HB1 HB2 HX HB3 HG4 HBU hHeld xx HASK HK
    have c18 := HS.out.box
    have ct := HTC.out _ HS.out.bel
    go_wp2_with (first
      | (refine wpList_load_row rfl 41 _ rfl gx rfl 41 ((askM s.c.own s.c.xid secs frm).cells (.slice a2 n2 c2)) (0, 0) _ (by exact c18) Try.underlying41 rfl sizeBp ?_)
      | (refine wpList_build_to rfl 51 _ rfl ((Ac.mk 1 frm dst (askM s.c.own s.c.xid secs frm) ((53, op1 kind) :: L) Ls.zero).cells (.slice a2 n2 c2)) (by kernel_rfl) ?_)
      | (go_at_call 27; refine (HFIN.out _ gx a2 n2 c2 HS.out).mono ?_; rintro e w6 ⟨rfl, HF⟩)
      | fail)
    go_end0
    exact ⟨rfl, HF⟩
  · refine step_alloc_to rfl 41 rfl zeroC (by kernel_rfl) ?_
    obtain ⟨w3, hw3⟩ : ∃ W, W = wt.drew.alloc (.cells zeroC 41) := ⟨_, rfl⟩
    obtain ⟨gx, hgx⟩ : ∃ g, g = wt.drew.heap.size := ⟨_, rfl⟩
    have HX3 : Hid (w3.heap[gx]? = some (.cells zeroC 41 (0, 0))) := by rw [hw3, hgx]; exact heap_new _ _
    have HB3 : Hid (Below wt.heap.size wt w3) := by rw [hw3]; exact bpush hd0 _
    have HGX : Hid (wt.heap.size ≤ gx) := by rw [hgx]; exact hd0.size
    rw [← hw3, ← hgx]
    clear hw3 hgx
    refine hK _ _ (HK.out _ HB3.out) (fun hHeld => ?_)
    clear hK
    try simp only [Act.put, List.setIfInBounds_toArray, List.set_cons_zero, List.set_cons_succ]
    refine wpAnyH_ready (rs := [12]) (by kernel_rfl) (by simp) ?_
    refine AllReadyH.cons (o := { dst := some 27, op := .call { callee := .value (.func 73), args := #[.tmp 15, .tmp 19, .tmp 23, .tmp 24, .tmp 25, .tmp 26], argTypes := #[3, 25, 30, 3, 30, 39] }, type := _, pos := _, after := _, guard := none }) rfl (fun K hK => ?_) AllReadyH.nil
    go_simp
    refine (HASK.out _ HB3.out).mono ?_
    rintro e w2 ⟨a2, n2, c2, rfl, HO2, HB1, HB2⟩
    have HX : Hid (w2.heap[gx]? = some (.cells zeroC 41 (0, 0))) := kept HX3.out HB1.out
    refine hK _ _ (HK.out _ HB2.out) (fun hHeld => ?_)
    clear hK
    try simp only [Act.put, List.setIfInBounds_toArray, List.set_cons_zero, List.set_cons_succ]
    refine wpAnyH_ready (rs := [14]) (by kernel_rfl) (by simp) ?_
    refine AllReadyH.cons (o := { dst := none, op := .store 41 (.tmp 14) (.tmp 27), type := _, pos := _, after := _, guard := none }) rfl (fun K hK => ?_) AllReadyH.nil
    refine step_store_row rfl 41 _ _ rfl gx ((askM s.c.own s.c.xid secs frm).cells (.slice a2 n2 c2)) rfl rfl 41 _ HX.out sizeBp rfl (by simp [Bp.cells, askM, Value.oneCell']) ?_
    intro w4 HG4 HBU
    have HS := hid (SndI.of HB3.out HO2.out HB2.out HGX.out HX.out HG4.out HBU.out)
    refine hK _ _ (HK.out _ HS.out.bel) (fun hHeld => ?_)
    clear hK
    try simp only [Act.put, List.setIfInBounds_toArray, List.set_cons_zero, List.set_cons_succ]
    refine wpAnyH_done (by kernel_rfl) ?_ _
    refine NoPanic.normal ?_
    clear HO2 HB1 HB2 HX HX3 HB3 HG4 HBU hHeld xx HASK HK
    have c18 := HS.out.box
    have ct := HTC.out _ HS.out.bel
    go_wp2_with (first
      | (refine wpList_load_row rfl 41 _ rfl gx rfl 41 ((askM s.c.own s.c.xid secs frm).cells (.slice a2 n2 c2)) (0, 0) _ (by exact c18) Try.underlying41 rfl sizeBp ?_)
      | (refine wpList_build_to rfl 51 _ rfl ((Ac.mk 1 frm dst (askM s.c.own s.c.xid secs frm) ((53, op1 kind) :: L) Ls.zero).cells (.slice a2 n2 c2)) (by kernel_rfl) ?_)
      | (go_at_call 27; refine (HFIN.out _ gx a2 n2 c2 HS.out).mono ?_; rintro e w6 ⟨rfl, HF⟩)
      | fail)
    go_end0
    exact ⟨rfl, HF⟩
end Go.Proofs.Ytgcpoanjjgbfjaa
