import Derived.Test.YtgcpoanjjgbfjaaLzRead
/-
  Lease: hearsFrom, offered, given, refused. Written by mklzon.py.
-/
namespace Go.Proofs.Ytgcpoanjjgbfjaa
open Go.RowKit
set_option linter.all false

section
variable {W0 : World} {p pd gA : Nat} {ab : Option Nat} {s : LS}
set_option maxHeartbeats 400000 in
theorem hears_any {c : Cl} (sv : Int) (w : World) (h : BoxC w p c) :
    Calls Try.prog 34 #[.pointer (some ⟨p, 0, none⟩), .int .u32 sv] w fun e w' => e = .returned (.bool (hearsB c sv)) ∧ w' = w := by
  have c7 : w.cell? ⟨p, 7, none⟩ = some (.int .i64 c.st) := (h.at 7).trans rfl
  have c14 : w.cell? ⟨p, 14, none⟩ = some (.int .u32 c.l.sv) := (h.at 14).trans rfl
  have HD : Hid (hearsB c sv = if c.st = 2 ∨ c.st = 5 then sv == c.l.sv else c.st == 6) := rfl
  clear h
  generalize hearsB c sv = R at *
  generalize c.st = st at *
  generalize c.l.sv = ls at *
  by_cases h2 : st = 2
  · subst h2
    go_enter Try.func34, Try.ntmps34
    go_wp2
    go_ret
    exact ⟨ret_bool (by rw [HD.out]; simp), rfl⟩
  by_cases h5 : st = 5
  · subst h5
    go_enter Try.func34, Try.ntmps34
    go_wp2
    go_ret
    exact ⟨ret_bool (by rw [HD.out]; simp), rfl⟩
  have h2' : (st == 2) = false := by simpa using h2
  have h5' : (st == 5) = false := by simpa using h5
  have HE : Hid (R = (st == 6)) := by unfold Hid; rw [HD.out, if_neg (by omega)]
  clear HD h2 h5
  go_enter Try.func34, Try.ntmps34
  go_wp2
  go_ret
  exact ⟨ret_bool HE.out.symm, rfl⟩
/-- a message's box. -/
def MsB (mb : Nat) (X : Array Value) (w : World) : Prop := w.heap[mb]? = some (.cells X 41 (0, 0))
theorem MsB.stay {mb : Nat} {X : Array Value} {w w' : World} (h : MsB mb X w) (hs : Stay w w') : MsB mb X w' := hs.blk h (by decide) (by decide) (by decide) (by decide)
theorem msg_laid {w wm wt : World} {mb tb : Nat} {X : Array Value} (h : LW W0 p pd gA ab s w) (hwm : wm = w.alloc (.cells X 41)) (hmb : mb = w.heap.size) (hwt : wt = wm.alloc (.cells (#[.pointer (some ⟨pd, 0, none⟩), .func (.func 27) #[] #[.pointer (some ⟨gA, 0, none⟩)]] : Array Value) 60)) (htb : tb = mb + 1) : LC W0 p pd gA ab s w wt ∧ TurnB tb pd gA wt ∧ MsB mb X wt ∧ Below w.heap.size w wt := by
  have hb : Below w.heap.size w wm := by rw [hwm]; exact bpush (Below.refl _ _) _
  have hM : MsB mb X wm := by rw [hwm, hmb]; exact heap_new _ _
  have hc := (LC.refl h).below hb
  obtain ⟨h1, h2⟩ := turn_laid hc.1 hwt (show tb = wm.heap.size by rw [htb, hwm, hmb]; simp)
  exact ⟨hc.trans h1, h2, hM.stay h1.2, bstep hb (by rw [hwt]; exact bpush (Below.refl _ _) _)⟩
theorem readF_ok {m : Bp} {w : World} {a : Option Addr} {os : List OP} (h : OV w a os) (hm : m.ok) {l : Ls} (hr : readF m (absO os) = some l) : l.ok := by
  unfold readF at hr
  split at hr
  · simp only [Option.some.injEq] at hr
    have h54 := numG_bd h 54
    have hro := routerG_bd h
    refine hr ▸ ⟨hm.yi, maskG_bd h, ?_, h54, ?_, ?_, by simp [Tm], by simp [Tm], by simp [Tm], by simp [Tm]⟩
    · show U32 (if _ then _ else _)
      split
      · exact hro
      · simp [U32]
    · show U32 (if _ then _ else _)
      split
      · exact hm.si
      · exact h54
    · show (fileG m (absO os)).size ≤ _
      unfold fileG
      split
      · have := (datG_bd h 67).2
        simp [strOfNums, ByteArray.size]
        omega
      · exact hm.file
  · simp at hr
theorem timedF_ok {w : World} {a : Option Addr} {os : List OP} (h : OV w a os) {l : Ls} (hl : l.ok) {frm : Int} (hf : 0 ≤ frm ∧ frm ≤ 1125899906842624) : (timedF l (absO os) frm).ok := by
  have h51 := numG_bd h 51
  unfold U32 at h51
  have h1 := lspanI_bd h 58 (numG (absO os) 51 * 10 / 2) (by omega)
  have h2 := lspanI_bd h 59 (numG (absO os) 51 * 10 * 7 / 8) (by omega)
  have hsp : (0 ≤ (spansP (absO os) (numG (absO os) 51 * 10)).1) ∧ 0 ≤ (spansP (absO os) (numG (absO os) 51 * 10)).2 := by
    unfold spansP
    split <;> simp only <;> omega
  unfold timedF
  split
  · exact ⟨hl.ip, hl.m, hl.r, hl.sv, hl.nx, hl.file, by show Tm frm; unfold Tm; omega, by simp [Tm], by simp [Tm], by simp [Tm]⟩
  · refine ⟨hl.ip, hl.m, hl.r, hl.sv, hl.nx, hl.file, by show Tm frm; unfold Tm; omega, ?_, ?_, ?_⟩
    · show Tm (bhd _ _)
      unfold Tm bhd; omega
    · show Tm (bhd _ _)
      unfold Tm bhd; omega
    · show Tm (bhd _ _)
      unfold Tm bhd; omega
set_option maxRecDepth 20000 in
set_option maxHeartbeats 1000000 in
theorem refused_any (w : World) (h : LW W0 p pd gA ab s w) (hn : s.acts.length < 3900) (m : Bp) (a : Option Addr) (c : Nat) (os : List OP) (ho : OV w a os) (hm : m.ok) :
    Calls Try.prog 25 #[.pointer (some ⟨p, 0, none⟩), .agg (m.cells (.slice a os.length c)), turnV pd gA] w fun e w' => e = .returned (.tuple #[]) ∧ Hid (LC W0 p pd gA ab (refusedS (absO os) s) w w') := by
  obtain ⟨n, hn'⟩ : ∃ n, n = os.length := ⟨_, rfl⟩
  obtain ⟨wm, hwm⟩ : ∃ W, W = w.alloc (.cells (m.cells (.slice a os.length c)) 41) := ⟨_, rfl⟩
  obtain ⟨mb, hmb⟩ : ∃ g, g = w.heap.size := ⟨_, rfl⟩
  obtain ⟨wt, hwt⟩ : ∃ W, W = wm.alloc (.cells (#[.pointer (some ⟨pd, 0, none⟩), .func (.func 27) #[] #[.pointer (some ⟨gA, 0, none⟩)]] : Array Value) 60) := ⟨_, rfl⟩
  obtain ⟨tb, htb⟩ : ∃ g, g = mb + 1 := ⟨_, rfl⟩
  obtain ⟨hl, ht, hms, hbt⟩ := msg_laid h hwm hmb hwt htb
  have HL := hid hl
  have HT := hid ht
  have HM := hid hms
  have hov := ho.below hbt
  have HNU : Hid (Calls Try.prog 38 #[.slice a os.length c, .int .i64 54] wt fun e w' => e = .returned (.tuple #[.int .u32 (numG (absO os) 54), .bool (okG (absO os) 54)]) ∧ Hid (LC W0 p pd gA ab s wt w')) := (num_c a c os 54 wt hov).mono fun e w' ⟨k1, k2⟩ => ⟨k1, (LC.refl hl.1).below k2.out⟩
  have HHE : Hid (∀ W, LC W0 p pd gA ab s wt W → Calls Try.prog 34 #[.pointer (some ⟨p, 0, none⟩), .int .u32 (numG (absO os) 54)] W fun e w' => e = .returned (.bool (hearsB s.c (numG (absO os) 54))) ∧ w' = W) := fun W hW => hears_any _ W hW.box
  have HLG : Hid (∀ W, LC W0 p pd gA ab s wt W → Calls Try.prog 17 #[.pointer (some ⟨p, 0, none⟩), turnV pd gA] W fun e w' => e = .returned (.tuple #[]) ∧ Hid (LC W0 p pd gA ab (letGoS s) wt w')) := fun W hW => (letGo_any W hW.1 (by omega)).mono fun e w' ⟨k1, k2⟩ => ⟨k1, hW.trans k2.out⟩
  have HRE : Hid (∀ W, LC W0 p pd gA ab (letGoS s) wt W → Calls Try.prog 39 #[.pointer (some ⟨p, 0, none⟩)] W fun e w' => e = .returned (.tuple #[]) ∧ Hid (LC W0 p pd gA ab (restS (letGoS s)) wt w')) := fun W hW => lrest_any wt W hW
  have HG : Hid (refusedS (absO os) s = if okG (absO os) 54 = true ∧ hearsB s.c (numG (absO os) 54) = true then restS (letGoS s) else s) := rfl
  have c17 : wt.cell? ⟨mb, 17, none⟩ = some (.slice a os.length c) := (cell_of_heap hms 17).trans rfl
  have HCT : Hid (∀ W, LC W0 p pd gA ab s wt W → ∀ q, W.cell? ⟨tb, q, none⟩ = (#[.pointer (some ⟨pd, 0, none⟩), .func (.func 27) #[] #[.pointer (some ⟨gA, 0, none⟩)]] : Array Value)[q]?) := fun W hW => (ht.stay hW.2).at
  clear h hn ho hm hl ht hms hbt hov hn'
  generalize refusedS (absO os) s = R at *
  generalize numG (absO os) 54 = N at *
  generalize okG (absO os) 54 = K at *
  generalize hearsB s.c N = B at *
  generalize os.length = nn at *
  generalize restS (letGoS s) = sB at *
  generalize letGoS s = sA at *
  unfold turnV Bp.cells at *
  cases K
  · rw [HG.out, if_neg (by simp)]
    clear HG
    go_enter Try.func25, Try.ntmps25
    go_upto_region 1 with (fail)
    rw [← hwm, ← hmb, ← htb, ← hwt]
    clear hwm hmb hwt htb
    go_wp2_with (first
      | (go_at_call 38; refine HNU.out.mono ?_; rintro e w2 ⟨rfl, H2⟩; clear c17)
      | fail)
    refine bodyPost_ret (results_none rfl _ _ _) rfl ?_
    exact ⟨rfl, HL.out.trans H2.out⟩
  cases B
  · rw [HG.out, if_neg (by simp)]
    clear HG
    go_enter Try.func25, Try.ntmps25
    go_upto_region 1 with (fail)
    rw [← hwm, ← hmb, ← htb, ← hwt]
    clear hwm hmb hwt htb
    go_wp2_with (first
      | (go_at_call 38; refine HNU.out.mono ?_; rintro e w2 ⟨rfl, H2⟩; clear c17)
      | (go_at_call 34; refine (HHE.out _ H2.out).mono ?_; rintro e w3 ⟨rfl, rfl⟩)
      | fail)
    refine bodyPost_ret (results_none rfl _ _ _) rfl ?_
    exact ⟨rfl, HL.out.trans H2.out⟩
  · rw [HG.out, if_pos ⟨rfl, rfl⟩]
    clear HG
    go_enter Try.func25, Try.ntmps25
    go_upto_region 1 with (fail)
    rw [← hwm, ← hmb, ← htb, ← hwt]
    clear hwm hmb hwt htb
    go_wp2_with (first
      | (go_at_call 38; refine HNU.out.mono ?_; rintro e w2 ⟨rfl, H2⟩; have ct := HCT.out _ H2.out; clear c17)
      | (go_at_call 34; refine (HHE.out _ H2.out).mono ?_; rintro e w3 ⟨rfl, rfl⟩)
      | (go_at_call 17; refine (HLG.out _ H2.out).mono ?_; rintro e w4 ⟨rfl, H4⟩; clear ct)
      | (go_at_call 39; refine (HRE.out _ H4.out).mono ?_; rintro e w5 ⟨rfl, H5⟩)
      | fail)
    go_end0
    exact ⟨rfl, HL.out.trans H5.out⟩
end
end Go.Proofs.Ytgcpoanjjgbfjaa

/-
  Lease: offered, given. Written by mklzon2.py.
-/
namespace Go.Proofs.Ytgcpoanjjgbfjaa
open Go.RowKit
set_option linter.all false

section
variable {W0 : World} {p pd gA : Nat} {ab : Option Nat} {s : LS}
/-- the box of a lease of one's own. -/
structure LbS (wt : World) (gl : Nat) (L : Array Value) (W : World) : Prop where
  box : W.heap[gl]? = some (.cells L 44 (0, 0))
  low : wt.heap.size ≤ gl
theorem LbS.stay {wt : World} {gl : Nat} {L : Array Value} {W W' : World} (h : LbS wt gl L W) (hs : Stay W W') : LbS wt gl L W' := ⟨hs.blk h.box (by decide) (by decide) (by decide) (by decide), h.low⟩
/-- such a box is written. -/
theorem LC.own {wt W W' : World} {gl : Nat} {L : Array Value} (hz : W0.heap.size ≤ wt.heap.size) (h : LC W0 p pd gA ab s wt W) (hl : LbS wt gl L W) (hb : But gl W W') : LC W0 p pd gA ab s wt W' := by
  have hw := h.1
  have hne : ∀ {k : Nat} {C : Array Value} {t : TypeId} {f : Nat × Nat}, W.heap[k]? = some (.cells C t f) → t ≠ 44 → W'.heap[k]? = W.heap[k]? := fun {k C t f} hk ht => hb.block k (ne_of_ty hk hl.box ht) (heap_lt hk)
  obtain ⟨da, dc, d1, d2⟩ := hw.dice
  obtain ⟨a1, n1, c1, E, v1, v2, v3⟩ := hw.var
  refine ⟨⟨(hne hw.box (by decide)).trans hw.box, ⟨da, dc, d1.keep fun k hk => ?_, d2⟩, ⟨a1, n1, c1, E, (hne v1 (by decide)).trans v1, v2.keep fun b hi => ?_, v3⟩, ⟨hb.os.trans hw.old.os, hb.tape.trans hw.old.tape, hb.output.trans hw.old.output, Nat.le_trans hw.old.size hb.size, fun k hn hlk => (hb.block k (fun e => ?_) (Nat.lt_of_lt_of_le hlk hw.old.size)).trans (hw.old.block k hn hlk)⟩, hw.lp, hw.ld, hw.lab, hw.lg, hw.ok⟩, ⟨Nat.le_trans h.2.size hb.size, fun {b C t f} h1 h2 h3 h4 h5 => ?_⟩⟩
  · rcases hk with rfl | hk
    · exact hne d1.box (by decide)
    · obtain ⟨cur, h1⟩ := d1.row.cells hk
      exact hne h1 (by decide)
  · obtain ⟨cur, t, f, o1, o2⟩ := v2.objT hi
    exact hne o1 (by rcases o2 with rfl | rfl | rfl <;> decide)
  · have := hl.low
    omega
  · have h6 := h.2.blk h1 h2 h3 h4 h5
    have h7 := heap_lt h1
    exact (hb.block b (fun e => by have := hl.low; omega) (heap_lt h6)).trans h6
/-- a number stored in the middle of a block. -/
theorem step_store_int {ops : Array Oper} {o : Oper} {a : Act} {w : World} {K : Act → World → Prop} {Q : Exit → Act → World → Prop} {E : Prop} (hgd : o.guard = none) (ty : TypeId) (x y : Operand) (ho : o.op = .store ty x y)
    (g off : Nat) (u : Value) (k : IntKind) (n : Int) (hx : a.eval x = .pointer (some ⟨g, off, none⟩)) (hy : a.eval y = .int k n) (hc : w.cell? ⟨g, off, none⟩ = some u) (hf : w.frozen? ⟨g, off, none⟩ = false) (hs : (Try.prog.info? ty).map (·.size) = some 1)
    (h : K (a.put o.dst undef) (w.setCell ⟨g, off, none⟩ (.int k n))) :
    if Region.wanted o (yielded ops a.tmps) = true then Oper.wp Try.prog o a w K Q else E := by
  have hw : Region.wanted o (yielded ops a.tmps) = true := by simp [Region.wanted, hgd]
  rw [if_pos hw]
  have hr : (Instr.storeAt ty (.pointer (some ⟨g, off, none⟩)) (.int k n)).run Try.prog w = Result.ok () (w.setCell ⟨g, off, none⟩ (.int k n)) := by
    cases hq : Try.prog.info? ty with
    | none => simp [hq] at hs
    | some i =>
      simp [hq] at hs
      simp [go_sem, sizeOf, typeInfo, hq, hs, hc, hf]
  unfold Oper.wp
  simp only [execOp, ho, Sem.run_bind, Sem.run_pure, Result.andThen_ok, hx, hy, hr]
  exact h
/-- a lease's box laid and written. -/
theorem own_laid {wt w2 w4 : World} {gl : Nat} {L : Array Value} (h : LC W0 p pd gA ab s wt w2) (hs : L.size = 10) (hgl : gl = w2.heap.size) (hw4 : w4 = (w2.alloc (.cells #[.int .u32 0, .int .u32 0, .int .u32 0, .int .u32 0, .int .u32 0, .string noText, .int .i64 0, .int .i64 0, .int .i64 0, .int .i64 0] 44)).setRow gl L) : LC W0 p pd gA ab s wt w4 ∧ LbS wt gl L w4 ∧ Below w2.heap.size w2 w4 := by
  have hb : Below w2.heap.size w2 w4 := by rw [hw4, hgl]; exact bbut (bpush (Below.refl _ _) _) (But.setRow _ _ _) (Nat.le_refl _)
  refine ⟨h.below hb, ⟨?_, by rw [hgl]; exact h.2.size⟩, hb⟩
  rw [hw4]
  exact setRow_heap _ _ _ _ _ _ (by rw [hgl]; exact heap_new _ _)
set_option maxRecDepth 20000 in
set_option maxHeartbeats 1000000 in
theorem offered_any (w : World) (h : LW W0 p pd gA ab s w) (hn : s.acts.length < 3900) (m : Bp) (a : Option Addr) (c : Nat) (os : List OP) (ho : OV w a os) (hm : m.ok) :
    Calls Try.prog 23 #[.pointer (some ⟨p, 0, none⟩), .agg (m.cells (.slice a os.length c)), turnV pd gA] w fun e w' => e = .returned (.tuple #[]) ∧ Hid (LC W0 p pd gA ab (offeredS m (absO os) s) w w') := by
  obtain ⟨n, hn'⟩ : ∃ n, n = os.length := ⟨_, rfl⟩
  obtain ⟨wm, hwm⟩ : ∃ W, W = w.alloc (.cells (m.cells (.slice a os.length c)) 41) := ⟨_, rfl⟩
  obtain ⟨mb, hmb⟩ : ∃ g, g = w.heap.size := ⟨_, rfl⟩
  obtain ⟨wt, hwt⟩ : ∃ W, W = wm.alloc (.cells (#[.pointer (some ⟨pd, 0, none⟩), .func (.func 27) #[] #[.pointer (some ⟨gA, 0, none⟩)]] : Array Value) 60) := ⟨_, rfl⟩
  obtain ⟨tb, htb⟩ : ∃ g, g = mb + 1 := ⟨_, rfl⟩
  obtain ⟨hl, ht, hms, hbt⟩ := msg_laid h hwm hmb hwt htb
  have HL := hid hl
  have HT := hid ht
  have HM := hid hms
  have hov := ho.below hbt
  have HRD : Hid (Calls Try.prog 33 #[.agg (m.cells (.slice a os.length c))] wt fun e w' => e = .returned (.tuple #[((readF m (absO os)).getD Ls.zero).val, .bool (readF m (absO os)).isSome]) ∧ Hid (LC W0 p pd gA ab s wt w')) := (read_any m a c os wt hov hm).mono fun e w' ⟨k1, k2⟩ => ⟨k1, (LC.refl hl.1).below k2.out⟩
  have HZS : Hid (W0.heap.size ≤ wt.heap.size) := hl.1.size
  obtain ⟨RR, hRR⟩ : ∃ x, x = readF m (absO os) := ⟨_, rfl⟩
  have HOKL : Hid (∀ l, RR = some l → l.ok) := fun l e => readF_ok ho hm (by rw [← hRR, e])
  obtain ⟨lz, hlz⟩ : ∃ x, x = RR.getD Ls.zero := ⟨_, rfl⟩
  obtain ⟨st, hst⟩ : ∃ x, x = s.c.st := ⟨_, rfl⟩
  obtain ⟨now, hnow⟩ : ∃ x, x = s.c.now := ⟨_, rfl⟩
  have HGn : Hid (RR = none → offeredS m (absO os) s = s) := fun e => by unfold offeredS; rw [← hRR, e]
  have HGs : Hid (∀ l, RR = some l → offeredS m (absO os) s = if st = 1 then askS { s with c := { s.c with l := l, ask := s.c.now, st := 2, tries := 1 } } else s) := fun l e => by unfold offeredS; rw [← hRR, e, hst]
  have HCK : Hid (∀ W, LC W0 p pd gA ab s wt W → W.cell? ⟨p, 7, none⟩ = some (.int .i64 st) ∧ W.cell? ⟨p, 6, none⟩ = some (.int .i64 now)) := fun W hW => ⟨by rw [hst]; exact (hW.box.at 7).trans rfl, by rw [hnow]; exact (hW.box.at 6).trans rfl⟩
  have HCT : Hid (∀ (W : World) s', LC W0 p pd gA ab s' wt W → ∀ q, W.cell? ⟨tb, q, none⟩ = (#[.pointer (some ⟨pd, 0, none⟩), .func (.func 27) #[] #[.pointer (some ⟨gA, 0, none⟩)]] : Array Value)[q]?) := fun W s' hW => (ht.stay hW.2).at
  have HAK : Hid (∀ W, LC W0 p pd gA ab { s with c := { s.c with l := lz, ask := s.c.now, st := 2, tries := 1 } } wt W → Calls Try.prog 29 #[.pointer (some ⟨p, 0, none⟩), turnV pd gA] W fun e w' => e = .returned (.tuple #[]) ∧ Hid (LC W0 p pd gA ab (askS { s with c := { s.c with l := lz, ask := s.c.now, st := 2, tries := 1 } }) wt w')) := fun W hW => (ask_any W hW.1 (by show s.acts.length < 4000; omega)).mono fun e w' ⟨k1, k2⟩ => ⟨k1, hW.trans k2.out⟩
  have HUP : Hid (∀ W w5, LC W0 p pd gA ab s wt W → lz.ok → w5 = (W.setCells p 11 lz.cells.toList).setCell ⟨p, 10, none⟩ (.int .i64 now) → BoxC w5 p { s.c with l := lz, ask := s.c.now } ∧ LC W0 p pd gA ab { s with c := { s.c with l := lz, ask := s.c.now, st := 2, tries := 1 } } wt ((w5.setCell ⟨p, 7, none⟩ (.int .i64 2)).setCell ⟨p, 21, none⟩ (.int .i64 1))) := fun W w5 hW hk e => by
    have o := hW.1.ok.c
    have hbx : BoxC w5 p { s.c with l := lz, ask := s.c.now } := by rw [e, hnow]; exact (hW.box.l lz).ask s.c.now
    exact ⟨hbx, hW.upd ((by rw [e]; exact (But.setCells _ _ _ _).trans (But.setCell _ _ _ _) : But p W w5).trans ((But.setCell _ _ _ _).trans (But.setCell _ _ _ _))) ((hbx.st 2).tries 1) ⟨o.own, o.now, by simp, o.xid, o.beg, ⟨o.now.1, Int.le_refl _⟩, hk, by simp, o.due⟩⟩
  have HBX : Hid (∀ W, LC W0 p pd gA ab s wt W → BoxC (W.setCells p 11 lz.cells.toList) p { s.c with l := lz }) := fun W hW => hW.box.l lz
  have HTH : Hid (∀ W, LC W0 p pd gA ab s wt W → W.there p 11 10) := fun W hW => there_of hW.1.box 11 10 (by simp [Cl.cells])
  have HPG : Hid (∀ W (gl : Nat) (L : Array Value), LC W0 p pd gA ab s wt W → LbS wt gl L W → p ≠ gl) := fun W gl L hW hL => ne_of_ty hW.1.box hL.box (by decide)
  rw [← hRR, ← hlz] at HRD
  clear h hn ho hm hl ht hms hbt hov hn' hRR hnow hst
  generalize offeredS m (absO os) s = R at *
  generalize hsA : (LS.mk (Cl.mk s.c.own s.c.now 2 s.c.xid s.c.beg s.c.now lz 1 s.c.due) s.zs s.acts) = sA at HAK HUP
  generalize os.length = n at *
  unfold turnV Bp.cells Ls.val Ls.cells MsB at *
  cases RR with
  | none =>
    have hR : R = s := HGn.out rfl
    rw [hR]
    simp only [Option.isSome_none] at HRD
    clear HGn HGs hR hlz
    go_enter Try.func23, Try.ntmps23
    go_upto_region 1 with (fail)
    rw [← hwm, ← hmb, ← htb, ← hwt]
    clear hwm hmb hwt htb
    go_upto_region 2 with (first
    | (refine wpList_load_row rfl 41 _ rfl mb rfl 41 #[.int .i64 m.op, .int .i64 m.hops, .int .u32 m.xid, .int .i64 m.secs, .bool m.all, .int .u32 m.ci, .int .u32 m.yi, .int .u32 m.si, .int .u32 m.gi, .int .u8 m.mac.b0, .int .u8 m.mac.b1, .int .u8 m.mac.b2, .int .u8 m.mac.b3, .int .u8 m.mac.b4, .int .u8 m.mac.b5, .string m.sname, .string m.file, .slice a n c] (0, 0) _ (by exact HM.out) Try.underlying41 rfl sizeBp ?_)
    | (go_at_call 33; refine HRD.out.mono ?_; rintro e w2 ⟨rfl, H2⟩)
    | (refine wpList_alloc_to rfl 44 rfl #[.int .u32 0, .int .u32 0, .int .u32 0, .int .u32 0, .int .u32 0, .string noText, .int .i64 0, .int .i64 0, .int .i64 0, .int .i64 0] zeroLs ?_)
    | (refine wpList_store_row rfl 44 _ _ rfl w2.heap.size #[.int .u32 lz.ip, .int .u32 lz.m, .int .u32 lz.r, .int .u32 lz.sv, .int .u32 lz.nx, .string lz.file, .int .i64 lz.frm, .int .i64 lz.t1, .int .i64 lz.t2, .int .i64 lz.un] rfl rfl 44 _ (heap_new w2 _) infoLs rfl (by simp [Value.oneCell']) ?_)
    | fail)
    obtain ⟨w4, hw4⟩ : ∃ W, W = (w2.alloc (.cells #[.int .u32 0, .int .u32 0, .int .u32 0, .int .u32 0, .int .u32 0, .string noText, .int .i64 0, .int .i64 0, .int .i64 0, .int .i64 0] 44)).setRow w2.heap.size #[.int .u32 lz.ip, .int .u32 lz.m, .int .u32 lz.r, .int .u32 lz.sv, .int .u32 lz.nx, .string lz.file, .int .i64 lz.frm, .int .i64 lz.t1, .int .i64 lz.t2, .int .i64 lz.un] := ⟨_, rfl⟩
    obtain ⟨gl, hgl⟩ : ∃ g, g = w2.heap.size := ⟨_, rfl⟩
    rw [← hgl] at hw4 ⊢
    have hown := own_laid H2.out rfl hgl hw4
    rw [← hw4]
    have H4 := hid hown.1
    have HB4 := hid hown.2.1
    have HB24 := hid hown.2.2
    clear hw4 hgl hown
    go_wp2
    refine bodyPost_ret (results_none rfl _ _ _) rfl ?_
    exact ⟨rfl, HL.out.trans H4.out⟩
  | some l =>
    have hz2 : lz = l := hlz
    subst hz2
    simp only [Option.isSome_some] at HRD
    by_cases h1 : st = 1
    · have hR : R = askS { s with c := { s.c with l := lz, ask := s.c.now, st := 2, tries := 1 } } := by rw [HGs.out _ rfl, if_pos h1]
      have hk := HOKL.out _ rfl
      rw [hR]
      subst h1
      clear HGn HGs hR hlz
      go_enter Try.func23, Try.ntmps23
      go_upto_region 1 with (fail)
      rw [← hwm, ← hmb, ← htb, ← hwt]
      clear hwm hmb hwt htb
      go_upto_region 2 with (first
      | (refine wpList_load_row rfl 41 _ rfl mb rfl 41 #[.int .i64 m.op, .int .i64 m.hops, .int .u32 m.xid, .int .i64 m.secs, .bool m.all, .int .u32 m.ci, .int .u32 m.yi, .int .u32 m.si, .int .u32 m.gi, .int .u8 m.mac.b0, .int .u8 m.mac.b1, .int .u8 m.mac.b2, .int .u8 m.mac.b3, .int .u8 m.mac.b4, .int .u8 m.mac.b5, .string m.sname, .string m.file, .slice a n c] (0, 0) _ (by exact HM.out) Try.underlying41 rfl sizeBp ?_)
      | (go_at_call 33; refine HRD.out.mono ?_; rintro e w2 ⟨rfl, H2⟩)
      | (refine wpList_alloc_to rfl 44 rfl #[.int .u32 0, .int .u32 0, .int .u32 0, .int .u32 0, .int .u32 0, .string noText, .int .i64 0, .int .i64 0, .int .i64 0, .int .i64 0] zeroLs ?_)
      | (refine wpList_store_row rfl 44 _ _ rfl w2.heap.size #[.int .u32 lz.ip, .int .u32 lz.m, .int .u32 lz.r, .int .u32 lz.sv, .int .u32 lz.nx, .string lz.file, .int .i64 lz.frm, .int .i64 lz.t1, .int .i64 lz.t2, .int .i64 lz.un] rfl rfl 44 _ (heap_new w2 _) infoLs rfl (by simp [Value.oneCell']) ?_)
      | fail)
      obtain ⟨w4, hw4⟩ : ∃ W, W = (w2.alloc (.cells #[.int .u32 0, .int .u32 0, .int .u32 0, .int .u32 0, .int .u32 0, .string noText, .int .i64 0, .int .i64 0, .int .i64 0, .int .i64 0] 44)).setRow w2.heap.size #[.int .u32 lz.ip, .int .u32 lz.m, .int .u32 lz.r, .int .u32 lz.sv, .int .u32 lz.nx, .string lz.file, .int .i64 lz.frm, .int .i64 lz.t1, .int .i64 lz.t2, .int .i64 lz.un] := ⟨_, rfl⟩
      obtain ⟨gl, hgl⟩ : ∃ g, g = w2.heap.size := ⟨_, rfl⟩
      rw [← hgl] at hw4 ⊢
      have hown := own_laid H2.out rfl hgl hw4
      rw [← hw4]
      have H4 := hid hown.1
      have HB4 := hid hown.2.1
      have HB24 := hid hown.2.2
      clear hw4 hgl hown
      have c7 := (HCK.out _ H4.out).1
      go_upto_region 3 with (fail)
      clear c7
      have H4d := hid H4.out.drew
      have HS3 : Hid (∀ W s', LC W0 p pd gA ab s' wt W → s'.c.now = now → LbS wt gl #[.int .u32 lz.ip, .int .u32 lz.m, .int .u32 lz.r, .int .u32 lz.sv, .int .u32 lz.nx, .string lz.file, .int .i64 lz.frm, .int .i64 lz.t1, .int .i64 lz.t2, .int .i64 lz.un] W → W.rangeAt gl 0 [.int .u32 lz.ip, .int .u32 lz.m, .int .u32 lz.r, .int .u32 lz.sv, .int .u32 lz.nx, .string lz.file, .int .i64 lz.frm, .int .i64 lz.t1, .int .i64 lz.t2, .int .i64 lz.un] ∧ W.cell? ⟨p, 6, none⟩ = some (.int .i64 now)) := fun W s' hW hc hB => ⟨fun j v hj => by rw [Nat.zero_add, cell_of_heap hB.box, ← Array.getElem?_toList]; exact hj, by rw [← hc]; exact (hW.box.at 6).trans rfl⟩
      have xx : w4.rangeAt gl 0 [.int .u32 lz.ip, .int .u32 lz.m, .int .u32 lz.r, .int .u32 lz.sv, .int .u32 lz.nx, .string lz.file, .int .i64 lz.frm, .int .i64 lz.t1, .int .i64 lz.t2, .int .i64 lz.un] ∧ w4.cell? ⟨p, 6, none⟩ = some (.int .i64 now) := ⟨fun j v hj => by rw [Nat.zero_add, cell_of_heap HB4.out.box, ← Array.getElem?_toList]; exact hj, (HCK.out _ H4.out).2⟩
      have hpg := HPG.out _ _ _ H4.out HB4.out
      have xs : (w4.drew.setCells p 11 (#[.int .u32 lz.ip, .int .u32 lz.m, .int .u32 lz.r, .int .u32 lz.sv, .int .u32 lz.nx, .string lz.file, .int .i64 lz.frm, .int .i64 lz.t1, .int .i64 lz.t2, .int .i64 lz.un] : Array Value).toList).rangeAt gl 0 [.int .u32 lz.ip, .int .u32 lz.m, .int .u32 lz.r, .int .u32 lz.sv, .int .u32 lz.nx, .string lz.file, .int .i64 lz.frm, .int .i64 lz.t1, .int .i64 lz.t2, .int .i64 lz.un] ∧ (w4.drew.setCells p 11 (#[.int .u32 lz.ip, .int .u32 lz.m, .int .u32 lz.r, .int .u32 lz.sv, .int .u32 lz.nx, .string lz.file, .int .i64 lz.frm, .int .i64 lz.t1, .int .i64 lz.t2, .int .i64 lz.un] : Array Value).toList).cell? ⟨p, 6, none⟩ = some (.int .i64 now) := ⟨fun j v hj => by rw [(But.setCells p (#[.int .u32 lz.ip, .int .u32 lz.m, .int .u32 lz.r, .int .u32 lz.sv, .int .u32 lz.nx, .string lz.file, .int .i64 lz.frm, .int .i64 lz.t1, .int .i64 lz.t2, .int .i64 lz.un] : Array Value).toList w4.drew 11).cell (p := ⟨gl, 0 + j, none⟩) (Ne.symm hpg) (heap_lt HB4.out.box)]; exact xx.1 j v hj, ((HBX.out _ H4d.out).at 6).trans (by show some (Value.int .i64 s.c.now) = _; have := (HCK.out _ H4.out).2; rw [(H4.out.box.at 6)] at this; exact this)⟩
      refine wp_region_noPanic ?_
      refine wp_region_held_drew (S := fun w' => w'.rangeAt gl 0 [.int .u32 lz.ip, .int .u32 lz.m, .int .u32 lz.r, .int .u32 lz.sv, .int .u32 lz.nx, .string lz.file, .int .i64 lz.frm, .int .i64 lz.t1, .int .i64 lz.t2, .int .i64 lz.un] ∧ w'.cell? ⟨p, 6, none⟩ = some (.int .i64 now)) (by kernel_rfl) xx (fun hHeld => ?_)
      refine wpAnyH_take (i := 0) (oi := { dst := some 22, op := .move (.tmp 0), type := _, pos := _, after := _, guard := none }) (v := .pointer (some ⟨p, 0, none⟩)) rfl (by kernel_rfl) (by kernel_rfl) (by kernel_rfl) (fun _ _ _ h => h) (Or.inl ⟨by rfl, fun wq hSw => by (try dsimp only at hSw); go_simp⟩) (by assumption) ?_
      try simp only [Act.put, List.setIfInBounds_toArray, List.set_cons_zero, List.set_cons_succ]
      refine wpAnyH_take (i := 1) (oi := { dst := some 23, op := .move (.tmp 0), type := _, pos := _, after := _, guard := none }) (v := .pointer (some ⟨p, 0, none⟩)) rfl (by kernel_rfl) (by kernel_rfl) (by kernel_rfl) (fun _ _ _ h => h) (Or.inl ⟨by rfl, fun wq hSw => by (try dsimp only at hSw); go_simp⟩) (by assumption) ?_
      try simp only [Act.put, List.setIfInBounds_toArray, List.set_cons_zero, List.set_cons_succ]
      refine wpAnyH_take (i := 2) (oi := { dst := some 24, op := .load 44 (.tmp 6), type := _, pos := _, after := _, guard := none }) (v := .agg #[.int .u32 lz.ip, .int .u32 lz.m, .int .u32 lz.r, .int .u32 lz.sv, .int .u32 lz.nx, .string lz.file, .int .i64 lz.frm, .int .i64 lz.t1, .int .i64 lz.t2, .int .i64 lz.un]) rfl (by kernel_rfl) (by kernel_rfl) (by kernel_rfl) (fun _ _ _ h => h) (yieldsIf_load_mid (by rfl) 44 (.tmp 6) rfl gl 0 rfl [.int .u32 lz.ip, .int .u32 lz.m, .int .u32 lz.r, .int .u32 lz.sv, .int .u32 lz.nx, .string lz.file, .int .i64 lz.frm, .int .i64 lz.t1, .int .i64 lz.t2, .int .i64 lz.un] _ (fun w hS => hS.1) Try.underlying44 rfl infoLs) (by assumption) ?_
      try simp only [Act.put, List.setIfInBounds_toArray, List.set_cons_zero, List.set_cons_succ]
      refine wpAnyH_take (i := 3) (oi := { dst := some 25, op := .move (.tmp 0), type := _, pos := _, after := _, guard := none }) (v := .pointer (some ⟨p, 0, none⟩)) rfl (by kernel_rfl) (by kernel_rfl) (by kernel_rfl) (fun _ _ _ h => h) (Or.inl ⟨by rfl, fun wq hSw => by (try dsimp only at hSw); go_simp⟩) (by assumption) ?_
      try simp only [Act.put, List.setIfInBounds_toArray, List.set_cons_zero, List.set_cons_succ]
      refine wpAnyH_take (i := 4) (oi := { dst := some 26, op := .nilCheck (.tmp 25), type := _, pos := _, after := _, guard := none }) (v := .pointer (some ⟨p, 0, none⟩)) rfl (by kernel_rfl) (by kernel_rfl) (by kernel_rfl) (fun _ _ _ h => h) (Or.inl ⟨by rfl, fun wq hSw => by (try dsimp only at hSw); go_simp⟩) (by assumption) ?_
      try simp only [Act.put, List.setIfInBounds_toArray, List.set_cons_zero, List.set_cons_succ]
      refine wpAnyH_take (i := 5) (oi := { dst := some 27, op := .fieldAddr 53 (.tmp 26) 1, type := _, pos := _, after := _, guard := none }) (v := .pointer (some ⟨p, 6, none⟩)) rfl (by kernel_rfl) (by kernel_rfl) (by kernel_rfl) (fun _ _ _ h => h) (Or.inl ⟨by rfl, fun wq hSw => by (try dsimp only at hSw); go_simp⟩) (by assumption) ?_
      try simp only [Act.put, List.setIfInBounds_toArray, List.set_cons_zero, List.set_cons_succ]
      refine wpAnyH_take (i := 6) (oi := { dst := some 28, op := .load 3 (.tmp 27), type := _, pos := _, after := _, guard := none }) (v := .int .i64 now) rfl (by kernel_rfl) (by kernel_rfl) (by kernel_rfl) (fun _ _ _ h => h) (Or.inl ⟨by rfl, fun wq hSw => by (try dsimp only at hSw); go_simp⟩) (by assumption) ?_
      try simp only [Act.put, List.setIfInBounds_toArray, List.set_cons_zero, List.set_cons_succ]
      refine wpAnyH_take (i := 7) (oi := { dst := some 29, op := .nilCheck (.tmp 22), type := _, pos := _, after := _, guard := none }) (v := .pointer (some ⟨p, 0, none⟩)) rfl (by kernel_rfl) (by kernel_rfl) (by kernel_rfl) (fun _ _ _ h => h) (Or.inl ⟨by rfl, fun wq hSw => by (try dsimp only at hSw); go_simp⟩) (by assumption) ?_
      try simp only [Act.put, List.setIfInBounds_toArray, List.set_cons_zero, List.set_cons_succ]
      refine wpAnyH_take (i := 8) (oi := { dst := some 30, op := .fieldAddr 53 (.tmp 29) 6, type := _, pos := _, after := _, guard := none }) (v := .pointer (some ⟨p, 11, none⟩)) rfl (by kernel_rfl) (by kernel_rfl) (by kernel_rfl) (fun _ _ _ h => h) (Or.inl ⟨by rfl, fun wq hSw => by (try dsimp only at hSw); go_simp⟩) (by assumption) ?_
      try simp only [Act.put, List.setIfInBounds_toArray, List.set_cons_zero, List.set_cons_succ]
      refine wpAnyH_ready (rs := [9]) (by kernel_rfl) (by simp) ?_
      refine AllReadyH.cons (o := { dst := none, op := .store 44 (.tmp 30) (.tmp 24), type := _, pos := _, after := _, guard := none }) rfl (fun K hK => ?_) AllReadyH.nil
      refine step_store_mid rfl rfl 44 _ _ rfl p 11 #[.int .u32 lz.ip, .int .u32 lz.m, .int .u32 lz.r, .int .u32 lz.sv, .int .u32 lz.nx, .string lz.file, .int .i64 lz.frm, .int .i64 lz.t1, .int .i64 lz.t2, .int .i64 lz.un] rfl rfl (HTH.out _ H4d.out) infoLs (ls_one lz) ?_
      refine hK _ _ xs (fun hHeld => ?_)
      clear hK
      try simp only [Act.put, List.setIfInBounds_toArray, List.set_cons_zero, List.set_cons_succ]
      refine wpAnyH_take (i := 10) (oi := { dst := some 31, op := .nilCheck (.tmp 23), type := _, pos := _, after := _, guard := none }) (v := .pointer (some ⟨p, 0, none⟩)) rfl (by kernel_rfl) (by kernel_rfl) (by kernel_rfl) (fun _ _ _ h => h) (Or.inl ⟨by rfl, fun wq hSw => by (try dsimp only at hSw); go_simp⟩) (by assumption) ?_
      try simp only [Act.put, List.setIfInBounds_toArray, List.set_cons_zero, List.set_cons_succ]
      refine wpAnyH_take (i := 11) (oi := { dst := some 32, op := .fieldAddr 53 (.tmp 31) 5, type := _, pos := _, after := _, guard := none }) (v := .pointer (some ⟨p, 10, none⟩)) rfl (by kernel_rfl) (by kernel_rfl) (by kernel_rfl) (fun _ _ _ h => h) (Or.inl ⟨by rfl, fun wq hSw => by (try dsimp only at hSw); go_simp⟩) (by assumption) ?_
      try simp only [Act.put, List.setIfInBounds_toArray, List.set_cons_zero, List.set_cons_succ]
      refine wpAnyH_ready (rs := [12]) (by kernel_rfl) (by simp) ?_
      refine AllReadyH.cons (o := { dst := none, op := .store 3 (.tmp 32) (.tmp 28), type := _, pos := _, after := _, guard := none }) rfl (fun K hK => ?_) AllReadyH.nil
      have hbx := HBX.out _ H4d.out
      have c10 : (w4.drew.setCells p 11 (#[.int .u32 lz.ip, .int .u32 lz.m, .int .u32 lz.r, .int .u32 lz.sv, .int .u32 lz.nx, .string lz.file, .int .i64 lz.frm, .int .i64 lz.t1, .int .i64 lz.t2, .int .i64 lz.un] : Array Value).toList).cell? ⟨p, 10, none⟩ = some (.int .i64 s.c.ask) := (hbx.at 10).trans rfl
      have f10 := hbx.fr 10
      go_simp
      refine hK _ _ ⟨fun j v hj => (World.cell?_setCell_other _ ⟨p, 10, none⟩ ⟨gl, 0 + j, none⟩ _ (by simp [hpg])).trans (xs.1 j v hj), (World.cell?_setCell_other _ ⟨p, 10, none⟩ ⟨p, 6, none⟩ _ (by simp)).trans xs.2⟩ (fun hHeld => ?_)
      clear hK
      try simp only [Act.put, List.setIfInBounds_toArray, List.set_cons_zero, List.set_cons_succ]
      refine wpAnyH_done (by kernel_rfl) ?_ _
      refine NoPanic.normal ?_
      obtain ⟨w5, hw5⟩ : ∃ W, W = (w4.drew.setCells p 11 (#[.int .u32 lz.ip, .int .u32 lz.m, .int .u32 lz.r, .int .u32 lz.sv, .int .u32 lz.nx, .string lz.file, .int .i64 lz.frm, .int .i64 lz.t1, .int .i64 lz.t2, .int .i64 lz.un] : Array Value).toList).setCell ⟨p, 10, none⟩ (.int .i64 now) := ⟨_, rfl⟩
      have hup := HUP.out _ w5 H4d.out hk hw5
      have hbx5 := hup.1
      have H6 := hid hup.2
      have c7 : w5.cell? ⟨p, 7, none⟩ = some (.int .i64 s.c.st) := (hbx5.at 7).trans rfl
      have f7 := hbx5.fr 7
      have c21 : w5.cell? ⟨p, 21, none⟩ = some (.int .i64 s.c.tries) := (hbx5.at 21).trans rfl
      have f21 := hbx5.fr 21
      have ct := HCT.out _ _ H6.out
      rw [← hw5]
      clear hw5 hup hbx5 hbx c10 f10 xs xx hHeld hpg HS3 HPG HTH HBX HUP HCK HB4 HB24 H4d H4
      go_wp2_with (first
        | (go_at_call 29; refine (HAK.out _ H6.out).mono ?_; rintro e w7 ⟨rfl, H7⟩)
        | fail)
      go_end0
      subst hsA
      exact ⟨rfl, HL.out.trans H7.out⟩
    · have hR : R = s := by rw [HGs.out _ rfl, if_neg h1]
      rw [hR]
      have h1' : (st != 1) = true := by simpa using h1
      clear HGn HGs hR hlz h1
      go_enter Try.func23, Try.ntmps23
      go_upto_region 1 with (fail)
      rw [← hwm, ← hmb, ← htb, ← hwt]
      clear hwm hmb hwt htb
      go_upto_region 2 with (first
      | (refine wpList_load_row rfl 41 _ rfl mb rfl 41 #[.int .i64 m.op, .int .i64 m.hops, .int .u32 m.xid, .int .i64 m.secs, .bool m.all, .int .u32 m.ci, .int .u32 m.yi, .int .u32 m.si, .int .u32 m.gi, .int .u8 m.mac.b0, .int .u8 m.mac.b1, .int .u8 m.mac.b2, .int .u8 m.mac.b3, .int .u8 m.mac.b4, .int .u8 m.mac.b5, .string m.sname, .string m.file, .slice a n c] (0, 0) _ (by exact HM.out) Try.underlying41 rfl sizeBp ?_)
      | (go_at_call 33; refine HRD.out.mono ?_; rintro e w2 ⟨rfl, H2⟩)
      | (refine wpList_alloc_to rfl 44 rfl #[.int .u32 0, .int .u32 0, .int .u32 0, .int .u32 0, .int .u32 0, .string noText, .int .i64 0, .int .i64 0, .int .i64 0, .int .i64 0] zeroLs ?_)
      | (refine wpList_store_row rfl 44 _ _ rfl w2.heap.size #[.int .u32 lz.ip, .int .u32 lz.m, .int .u32 lz.r, .int .u32 lz.sv, .int .u32 lz.nx, .string lz.file, .int .i64 lz.frm, .int .i64 lz.t1, .int .i64 lz.t2, .int .i64 lz.un] rfl rfl 44 _ (heap_new w2 _) infoLs rfl (by simp [Value.oneCell']) ?_)
      | fail)
      obtain ⟨w4, hw4⟩ : ∃ W, W = (w2.alloc (.cells #[.int .u32 0, .int .u32 0, .int .u32 0, .int .u32 0, .int .u32 0, .string noText, .int .i64 0, .int .i64 0, .int .i64 0, .int .i64 0] 44)).setRow w2.heap.size #[.int .u32 lz.ip, .int .u32 lz.m, .int .u32 lz.r, .int .u32 lz.sv, .int .u32 lz.nx, .string lz.file, .int .i64 lz.frm, .int .i64 lz.t1, .int .i64 lz.t2, .int .i64 lz.un] := ⟨_, rfl⟩
      obtain ⟨gl, hgl⟩ : ∃ g, g = w2.heap.size := ⟨_, rfl⟩
      rw [← hgl] at hw4 ⊢
      have hown := own_laid H2.out rfl hgl hw4
      rw [← hw4]
      have H4 := hid hown.1
      have HB4 := hid hown.2.1
      have HB24 := hid hown.2.2
      clear hw4 hgl hown
      have c7 := (HCK.out _ H4.out).1
      go_wp2
      refine bodyPost_ret (results_none rfl _ _ _) rfl ?_
      exact ⟨rfl, HL.out.trans H4.out⟩
end
end Go.Proofs.Ytgcpoanjjgbfjaa
