/-
  Lease: given. Written by mklzon3.py.
-/
import Derived.Test.YtgcpoanjjgbfjaaLzJi
import Derived.Test.YtgcpoanjjgbfjaaLzJf
namespace Go.Proofs.Ytgcpoanjjgbfjaa
open Go.RowKit
set_option linter.all false

section
variable {W0 : World} {p pd gA : Nat} {ab : Option Nat} {s : LS}
set_option maxRecDepth 20000 in
set_option maxHeartbeats 1000000 in
theorem given_any (w : World) (h : LW W0 p pd gA ab s w) (hn : s.acts.length < 3900) (m : Bp) (a : Option Addr) (c : Nat) (os : List OP) (ho : OV w a os) (hm : m.ok) :
    Calls Try.prog 24 #[.pointer (some ⟨p, 0, none⟩), .agg (m.cells (.slice a os.length c)), turnV pd gA] w fun e w' => e = .returned (.tuple #[]) ∧ Hid (LC W0 p pd gA ab (givenS m (absO os) s) w w') := by
  obtain ⟨n, hn'⟩ : ∃ n, n = os.length := ⟨_, rfl⟩
  obtain ⟨wm, hwm⟩ : ∃ W, W = w.alloc (.cells (m.cells (.slice a os.length c)) 41) := ⟨_, rfl⟩
  obtain ⟨mb, hmb⟩ : ∃ g, g = w.heap.size := ⟨_, rfl⟩
  obtain ⟨wt, hwt⟩ : ∃ W, W = wm.alloc (.cells (#[.pointer (some ⟨pd, 0, none⟩), .func (.func 27) #[] #[.pointer (some ⟨gA, 0, none⟩)]] : Array Value) 60) := ⟨_, rfl⟩
  obtain ⟨tb, htb⟩ : ∃ g, g = mb + 1 := ⟨_, rfl⟩
  obtain ⟨hl, ht, hms, hbt⟩ := msg_laid h hwm hmb hwt htb
  have HL := hid hl
  have HT := hid ht
  have HM := hid hms
  have hov := ho.below hbt
  have HRD : Hid (Calls Try.prog 33 #[.agg (m.cells (.slice a os.length c))] wt fun e w' => e = .returned (.tuple #[((readF m (absO os)).getD Ls.zero).val, .bool (readF m (absO os)).isSome]) ∧ Hid (LC W0 p pd gA ab s wt w')) := (read_any m a c os wt hov hm).mono fun e w' ⟨k1, k2⟩ => ⟨k1, (LC.refl hl.1).below k2.out⟩
  have HZS : Hid (W0.heap.size ≤ wt.heap.size) := hl.1.size
  obtain ⟨RR, hRR⟩ : ∃ x, x = readF m (absO os) := ⟨_, rfl⟩
  have HOKL : Hid (∀ l, RR = some l → l.ok) := fun l e => readF_ok ho hm (by rw [← hRR, e])
  obtain ⟨lz, hlz⟩ : ∃ x, x = RR.getD Ls.zero := ⟨_, rfl⟩
  have HGn : Hid (RR = none → givenS m (absO os) s = s) := fun e => by unfold givenS; rw [← hRR, e]
  have HGs : Hid (∀ l, RR = some l → givenS m (absO os) s = if l.ip = s.c.l.ip ∧ hearsB s.c l.sv = true then (if 4 ≤ s.c.st then (if dueB (timedF l (absO os) s.c.beg).un s.c.now = true then s else adoptS (timedF l (absO os) s.c.beg) s) else probeS (timedF l (absO os) s.c.ask) s) else s) := fun l e => by unfold givenS; rw [← hRR, e]
  have oc := h.ok.c
  have HHE : Hid (∀ W, LC W0 p pd gA ab s wt W → Calls Try.prog 34 #[.pointer (some ⟨p, 0, none⟩), .int .u32 lz.sv] W fun e w' => e = .returned (.bool (hearsB s.c lz.sv)) ∧ w' = W) := fun W hW => hears_any _ W hW.box
  have HHO : Hid (∀ W, LC W0 p pd gA ab s wt W → Calls Try.prog 26 #[.pointer (some ⟨p, 0, none⟩)] W fun e w' => e = .returned (.bool (decide (4 ≤ s.c.st))) ∧ w' = W) := fun W hW => lholds_any W hW.box
  have HDU : Hid (∀ W t, LC W0 p pd gA ab s wt W → Calls Try.prog 30 #[.pointer (some ⟨p, 0, none⟩), .int .i64 t] W fun e w' => e = .returned (.bool (dueB t s.c.now)) ∧ w' = W) := fun W t hW => isDue_any t W hW.box
  have HTD : Hid (∀ W frm, 0 ≤ frm ∧ frm ≤ 1125899906842624 → LC W0 p pd gA ab s wt W → Below wt.heap.size wt W → Calls Try.prog 36 #[lz.val, .agg (m.cells (.slice a os.length c)), .int .i64 frm] W fun e w' => e = .returned ((timedF lz (absO os) frm).val) ∧ Hid (LC W0 p pd gA ab s wt w') ∧ Hid (Below W.heap.size W w')) := fun W frm hf hW hB => (timed_any lz m a c os frm W (hov.below hB) hf).mono fun e w' ⟨k1, k2⟩ => ⟨k1, hW.below k2.out, k2⟩
  have HPR : Hid (∀ W tl, tl.ok → LC W0 p pd gA ab s wt W → Calls Try.prog 35 #[.pointer (some ⟨p, 0, none⟩), Ls.val tl, turnV pd gA] W fun e w' => e = .returned (.tuple #[]) ∧ Hid (LC W0 p pd gA ab (probeS tl s) wt w')) := fun W tl htl hW => (probe_any tl W hW.1 (by omega) htl).mono fun e w' ⟨k1, k2⟩ => ⟨k1, hW.trans k2.out⟩
  have HAD : Hid (∀ W tl, tl.ok → LC W0 p pd gA ab s wt W → Calls Try.prog 37 #[.pointer (some ⟨p, 0, none⟩), Ls.val tl, turnV pd gA] W fun e w' => e = .returned (.tuple #[]) ∧ Hid (LC W0 p pd gA ab (adoptS tl s) wt w')) := fun W tl htl hW => (adopt_any tl W hW.1 (by omega) htl).mono fun e w' ⟨k1, k2⟩ => ⟨k1, hW.trans k2.out⟩
  have HTOK : Hid (∀ frm, lz.ok → 0 ≤ frm ∧ frm ≤ 1125899906842624 → (timedF lz (absO os) frm).ok) := fun frm hl hf => timedF_ok ho hl hf
  have HAB : Hid (0 ≤ s.c.ask ∧ s.c.ask ≤ 1125899906842624) := by have h1 := oc.ask; have h2 := oc.now; exact ⟨h1.1, by omega⟩
  have HBB : Hid (0 ≤ s.c.beg ∧ s.c.beg ≤ 1125899906842624) := by have h1 := oc.beg; have h2 := oc.now; exact ⟨h1.1, by omega⟩
  have HCT : Hid (∀ (W : World) s', LC W0 p pd gA ab s' wt W → ∀ q, W.cell? ⟨tb, q, none⟩ = (#[.pointer (some ⟨pd, 0, none⟩), .func (.func 27) #[] #[.pointer (some ⟨gA, 0, none⟩)]] : Array Value)[q]?) := fun W s' hW => (ht.stay hW.2).at
  have HMS : Hid (∀ W s', LC W0 p pd gA ab s' wt W → MsB mb (m.cells (.slice a os.length c)) W) := fun W s' hW => hms.stay hW.2
  have HCC : Hid (∀ W, LC W0 p pd gA ab s wt W → W.cell? ⟨p, 11, none⟩ = some (.int .u32 s.c.l.ip) ∧ W.cell? ⟨p, 10, none⟩ = some (.int .i64 s.c.ask) ∧ W.cell? ⟨p, 9, none⟩ = some (.int .i64 s.c.beg)) := fun W hW => ⟨(hW.box.at 11).trans rfl, (hW.box.at 10).trans rfl, (hW.box.at 9).trans rfl⟩
  have HB4w : Hid (∀ w2, LC W0 p pd gA ab s wt w2 → Below wt.heap.size wt w2 → True) := fun _ _ _ => trivial
  have HRD : Hid (Calls Try.prog 33 #[.agg (m.cells (.slice a os.length c))] wt fun e w' => e = .returned (.tuple #[((readF m (absO os)).getD Ls.zero).val, .bool (readF m (absO os)).isSome]) ∧ Hid (LC W0 p pd gA ab s wt w' ∧ Below wt.heap.size wt w')) := (read_any m a c os wt hov hm).mono fun e w' ⟨k1, k2⟩ => ⟨k1, (LC.refl hl.1).below k2.out, k2.out⟩
  rw [← hRR, ← hlz] at HRD
  clear h hn ho hm hl ht hms hbt hov hn' hRR oc HB4w
  generalize givenS m (absO os) s = R at *
  obtain ⟨ta, hta⟩ : ∃ x, x = timedF lz (absO os) s.c.ask := ⟨_, rfl⟩
  obtain ⟨tl, htl⟩ : ∃ x, x = timedF lz (absO os) s.c.beg := ⟨_, rfl⟩
  have HTA := hid hta
  have HTL := hid htl
  clear hta htl
  generalize os.length = n at *
  unfold turnV Bp.cells Ls.val Ls.cells MsB at *
  cases RR with
  | none =>
    rw [HGn.out rfl]
    simp only [Option.isSome_none] at HRD
    clear HGn HGs hlz
    go_enter Try.func24, Try.ntmps24
    go_upto_region 1 with (fail)
    rw [← hwm, ← hmb, ← htb, ← hwt]
    clear hwm hmb hwt htb
    go_upto_region 2 with (first
    | (refine wpList_load_row rfl 41 _ rfl mb rfl 41 #[.int .i64 m.op, .int .i64 m.hops, .int .u32 m.xid, .int .i64 m.secs, .bool m.all, .int .u32 m.ci, .int .u32 m.yi, .int .u32 m.si, .int .u32 m.gi, .int .u8 m.mac.b0, .int .u8 m.mac.b1, .int .u8 m.mac.b2, .int .u8 m.mac.b3, .int .u8 m.mac.b4, .int .u8 m.mac.b5, .string m.sname, .string m.file, .slice a n c] (0, 0) _ (by exact HM.out) Try.underlying41 rfl sizeBp ?_)
    | (go_at_call 33; refine HRD.out.mono ?_; rintro e w2 ⟨rfl, H2⟩)
    | (refine wpList_alloc_to rfl 44 rfl #[.int .u32 0, .int .u32 0, .int .u32 0, .int .u32 0, .int .u32 0, .string noText, .int .i64 0, .int .i64 0, .int .i64 0, .int .i64 0] zeroLs ?_)
    | (refine wpList_store_row rfl 44 _ _ rfl w2.heap.size #[.int .u32 lz.ip, .int .u32 lz.m, .int .u32 lz.r, .int .u32 lz.sv, .int .u32 lz.nx, .string lz.file, .int .i64 lz.frm, .int .i64 lz.t1, .int .i64 lz.t2, .int .i64 lz.un] rfl rfl 44 _ (heap_new w2 _) infoLs rfl (by simp [Value.oneCell']) ?_)
    | fail)
    obtain ⟨w4, hw4⟩ : ∃ W, W = (w2.alloc (.cells #[.int .u32 0, .int .u32 0, .int .u32 0, .int .u32 0, .int .u32 0, .string noText, .int .i64 0, .int .i64 0, .int .i64 0, .int .i64 0] 44)).setRow w2.heap.size #[.int .u32 lz.ip, .int .u32 lz.m, .int .u32 lz.r, .int .u32 lz.sv, .int .u32 lz.nx, .string lz.file, .int .i64 lz.frm, .int .i64 lz.t1, .int .i64 lz.t2, .int .i64 lz.un] := ⟨_, rfl⟩
    obtain ⟨gl, hgl⟩ : ∃ g, g = w2.heap.size := ⟨_, rfl⟩
    rw [← hgl] at hw4 ⊢
    have hown := own_laid H2.out.1 rfl hgl hw4
    rw [← hw4]
    have H4 := hid hown.1
    have HB4 := hid hown.2.1
    have HB24 := hid (bstep H2.out.2 hown.2.2)
    clear hw4 hgl hown
    have xx : w4.cell? ⟨gl, 0, none⟩ = some (.int .u32 lz.ip) ∧ w4.cell? ⟨gl, 3, none⟩ = some (.int .u32 lz.sv) ∧ w4.cell? ⟨p, 11, none⟩ = some (.int .u32 s.c.l.ip) := ⟨(cell_of_heap HB4.out.box 0).trans rfl, (cell_of_heap HB4.out.box 3).trans rfl, (HCC.out _ H4.out).1⟩
    refine wp_region_noPanic ?_
    refine wp_region_held_drew (S := fun w' => w'.cell? ⟨gl, 0, none⟩ = some (.int .u32 lz.ip) ∧ w'.cell? ⟨gl, 3, none⟩ = some (.int .u32 lz.sv) ∧ w'.cell? ⟨p, 11, none⟩ = some (.int .u32 s.c.l.ip)) (by kernel_rfl) xx (fun hHeld => ?_)
    refine wpAnyH_take (i := 0) (oi := { dst := some 13, op := .move (.tmp 7), type := _, pos := _, after := _, guard := none }) (v := .bool false) rfl (by kernel_rfl) (by kernel_rfl) (by kernel_rfl) (fun _ _ _ h => h) (Or.inl ⟨by rfl, fun wq hSw => by (try dsimp only at hSw); go_simp⟩) (by assumption) ?_
    try simp only [Act.put, List.setIfInBounds_toArray, List.set_cons_zero, List.set_cons_succ]
    refine wpAnyH_take (i := 1) (oi := { dst := some 14, op := .unOp .not 4 (.tmp 13), type := _, pos := _, after := _, guard := none }) (v := .bool true) rfl (by kernel_rfl) (by kernel_rfl) (by kernel_rfl) (fun _ _ _ h => h) (Or.inl ⟨by rfl, fun wq hSw => by (try dsimp only at hSw); go_simp⟩) (by assumption) ?_
    try simp only [Act.put, List.setIfInBounds_toArray, List.set_cons_zero, List.set_cons_succ]
    refine wpAnyH_take (i := 2) (oi := { dst := some 15, op := .move (.tmp 14), type := _, pos := _, after := _, guard := none }) (v := .bool true) rfl (by kernel_rfl) (by kernel_rfl) (by kernel_rfl) (fun _ _ _ h => h) (Or.inl ⟨by rfl, fun wq hSw => by (try dsimp only at hSw); go_simp⟩) (by assumption) ?_
    try simp only [Act.put, List.setIfInBounds_toArray, List.set_cons_zero, List.set_cons_succ]
    refine wpAnyH_take (i := 3) (oi := { dst := some 16, op := .fieldAddr 44 (.tmp 6) 0, type := _, pos := _, after := _, guard := some (2, false) }) (v := undef) rfl (by kernel_rfl) (by kernel_rfl) (by kernel_rfl) (fun _ _ _ h => h) (Or.inr ⟨by rfl, rfl⟩) (by assumption) ?_
    try simp only [Act.put, List.setIfInBounds_toArray, List.set_cons_zero, List.set_cons_succ]
    refine wpAnyH_take (i := 4) (oi := { dst := some 17, op := .load 30 (.tmp 16), type := _, pos := _, after := _, guard := some (2, false) }) (v := undef) rfl (by kernel_rfl) (by kernel_rfl) (by kernel_rfl) (fun _ _ _ h => h) (Or.inr ⟨by rfl, rfl⟩) (by assumption) ?_
    try simp only [Act.put, List.setIfInBounds_toArray, List.set_cons_zero, List.set_cons_succ]
    refine wpAnyH_take (i := 5) (oi := { dst := some 18, op := .move (.tmp 0), type := _, pos := _, after := _, guard := some (2, false) }) (v := undef) rfl (by kernel_rfl) (by kernel_rfl) (by kernel_rfl) (fun _ _ _ h => h) (Or.inr ⟨by rfl, rfl⟩) (by assumption) ?_
    try simp only [Act.put, List.setIfInBounds_toArray, List.set_cons_zero, List.set_cons_succ]
    refine wpAnyH_take (i := 6) (oi := { dst := some 19, op := .nilCheck (.tmp 18), type := _, pos := _, after := _, guard := some (2, false) }) (v := undef) rfl (by kernel_rfl) (by kernel_rfl) (by kernel_rfl) (fun _ _ _ h => h) (Or.inr ⟨by rfl, rfl⟩) (by assumption) ?_
    try simp only [Act.put, List.setIfInBounds_toArray, List.set_cons_zero, List.set_cons_succ]
    refine wpAnyH_take (i := 7) (oi := { dst := some 20, op := .fieldAddr 53 (.tmp 19) 6, type := _, pos := _, after := _, guard := some (2, false) }) (v := undef) rfl (by kernel_rfl) (by kernel_rfl) (by kernel_rfl) (fun _ _ _ h => h) (Or.inr ⟨by rfl, rfl⟩) (by assumption) ?_
    try simp only [Act.put, List.setIfInBounds_toArray, List.set_cons_zero, List.set_cons_succ]
    refine wpAnyH_take (i := 8) (oi := { dst := some 21, op := .fieldAddr 44 (.tmp 20) 0, type := _, pos := _, after := _, guard := some (2, false) }) (v := undef) rfl (by kernel_rfl) (by kernel_rfl) (by kernel_rfl) (fun _ _ _ h => h) (Or.inr ⟨by rfl, rfl⟩) (by assumption) ?_
    try simp only [Act.put, List.setIfInBounds_toArray, List.set_cons_zero, List.set_cons_succ]
    refine wpAnyH_take (i := 9) (oi := { dst := some 22, op := .load 30 (.tmp 21), type := _, pos := _, after := _, guard := some (2, false) }) (v := undef) rfl (by kernel_rfl) (by kernel_rfl) (by kernel_rfl) (fun _ _ _ h => h) (Or.inr ⟨by rfl, rfl⟩) (by assumption) ?_
    try simp only [Act.put, List.setIfInBounds_toArray, List.set_cons_zero, List.set_cons_succ]
    refine wpAnyH_take (i := 10) (oi := { dst := some 23, op := .binOp .neq 30 (.tmp 17) (.tmp 22) 30, type := _, pos := _, after := _, guard := some (2, false) }) (v := undef) rfl (by kernel_rfl) (by kernel_rfl) (by kernel_rfl) (fun _ _ _ h => h) (Or.inr ⟨by rfl, rfl⟩) (by assumption) ?_
    try simp only [Act.put, List.setIfInBounds_toArray, List.set_cons_zero, List.set_cons_succ]
    refine wpAnyH_take (i := 11) (oi := { dst := some 24, op := .pick (.tmp 15) (.const (.bool true)) (.tmp 23), type := _, pos := _, after := _, guard := none }) (v := .bool true) rfl (by kernel_rfl) (by kernel_rfl) (by kernel_rfl) (fun _ _ _ h => h) (Or.inl ⟨by rfl, fun wq hSw => by (try dsimp only at hSw); go_simp⟩) (by assumption) ?_
    try simp only [Act.put, List.setIfInBounds_toArray, List.set_cons_zero, List.set_cons_succ]
    refine wpAnyH_take (i := 12) (oi := { dst := some 25, op := .move (.tmp 24), type := _, pos := _, after := _, guard := none }) (v := .bool true) rfl (by kernel_rfl) (by kernel_rfl) (by kernel_rfl) (fun _ _ _ h => h) (Or.inl ⟨by rfl, fun wq hSw => by (try dsimp only at hSw); go_simp⟩) (by assumption) ?_
    try simp only [Act.put, List.setIfInBounds_toArray, List.set_cons_zero, List.set_cons_succ]
    refine wpAnyH_take (i := 13) (oi := { dst := some 26, op := .move (.tmp 0), type := _, pos := _, after := _, guard := some (12, false) }) (v := undef) rfl (by kernel_rfl) (by kernel_rfl) (by kernel_rfl) (fun _ _ _ h => h) (Or.inr ⟨by rfl, rfl⟩) (by assumption) ?_
    try simp only [Act.put, List.setIfInBounds_toArray, List.set_cons_zero, List.set_cons_succ]
    refine wpAnyH_take (i := 14) (oi := { dst := some 27, op := .fieldAddr 44 (.tmp 6) 3, type := _, pos := _, after := _, guard := some (12, false) }) (v := undef) rfl (by kernel_rfl) (by kernel_rfl) (by kernel_rfl) (fun _ _ _ h => h) (Or.inr ⟨by rfl, rfl⟩) (by assumption) ?_
    try simp only [Act.put, List.setIfInBounds_toArray, List.set_cons_zero, List.set_cons_succ]
    refine wpAnyH_take (i := 15) (oi := { dst := some 28, op := .load 30 (.tmp 27), type := _, pos := _, after := _, guard := some (12, false) }) (v := undef) rfl (by kernel_rfl) (by kernel_rfl) (by kernel_rfl) (fun _ _ _ h => h) (Or.inr ⟨by rfl, rfl⟩) (by assumption) ?_
    try simp only [Act.put, List.setIfInBounds_toArray, List.set_cons_zero, List.set_cons_succ]
    refine wpAnyH_take (i := 16) (oi := { dst := some 29, op := .call { callee := .value (.func 34), args := #[.tmp 26, .tmp 28], argTypes := #[26, 30] }, type := _, pos := _, after := _, guard := some (12, false) }) (v := undef) rfl (by kernel_rfl) (by kernel_rfl) (by kernel_rfl) (fun _ _ _ h => h) (Or.inr ⟨by rfl, rfl⟩) (by assumption) ?_
    try simp only [Act.put, List.setIfInBounds_toArray, List.set_cons_zero, List.set_cons_succ]
    refine wpAnyH_take (i := 17) (oi := { dst := some 30, op := .unOp .not 4 (.tmp 29), type := _, pos := _, after := _, guard := some (12, false) }) (v := undef) rfl (by kernel_rfl) (by kernel_rfl) (by kernel_rfl) (fun _ _ _ h => h) (Or.inr ⟨by rfl, rfl⟩) (by assumption) ?_
    try simp only [Act.put, List.setIfInBounds_toArray, List.set_cons_zero, List.set_cons_succ]
    refine wpAnyH_take (i := 18) (oi := { dst := some 31, op := .pick (.tmp 25) (.const (.bool true)) (.tmp 30), type := _, pos := _, after := _, guard := none }) (v := .bool true) rfl (by kernel_rfl) (by kernel_rfl) (by kernel_rfl) (fun _ _ _ h => h) (Or.inl ⟨by rfl, fun wq hSw => by (try dsimp only at hSw); go_simp⟩) (by assumption) ?_
    try simp only [Act.put, List.setIfInBounds_toArray, List.set_cons_zero, List.set_cons_succ]
    refine wpAnyH_done (by kernel_rfl) ?_ _
    refine NoPanic.normal ?_
    clear xx hHeld
    go_wp2
    refine bodyPost_ret (results_none rfl _ _ _) rfl ?_
    exact ⟨rfl, HL.out.trans H4.out.drew⟩
  | some l =>
    have hz2 : lz = l := hlz
    subst hz2
    simp only [Option.isSome_some] at HRD
    have hk := HOKL.out _ rfl
    have HK := hid hk
    have HG := hid (HGs.out _ rfl)
    clear hk HGn HGs hlz HOKL
    by_cases hip : lz.ip = s.c.l.ip
    rotate_left
    · rw [HG.out, if_neg (by simp [hip])]
      have hip' : (lz.ip != s.c.l.ip) = true := by simpa using hip
      clear HG hip
      go_enter Try.func24, Try.ntmps24
      go_upto_region 1 with (fail)
      rw [← hwm, ← hmb, ← htb, ← hwt]
      clear hwm hmb hwt htb
      go_upto_region 2 with (first
      | (refine wpList_load_row rfl 41 _ rfl mb rfl 41 #[.int .i64 m.op, .int .i64 m.hops, .int .u32 m.xid, .int .i64 m.secs, .bool m.all, .int .u32 m.ci, .int .u32 m.yi, .int .u32 m.si, .int .u32 m.gi, .int .u8 m.mac.b0, .int .u8 m.mac.b1, .int .u8 m.mac.b2, .int .u8 m.mac.b3, .int .u8 m.mac.b4, .int .u8 m.mac.b5, .string m.sname, .string m.file, .slice a n c] (0, 0) _ (by exact HM.out) Try.underlying41 rfl sizeBp ?_)
      | (go_at_call 33; refine HRD.out.mono ?_; rintro e w2 ⟨rfl, H2⟩)
      | (refine wpList_alloc_to rfl 44 rfl #[.int .u32 0, .int .u32 0, .int .u32 0, .int .u32 0, .int .u32 0, .string noText, .int .i64 0, .int .i64 0, .int .i64 0, .int .i64 0] zeroLs ?_)
      | (refine wpList_store_row rfl 44 _ _ rfl w2.heap.size #[.int .u32 lz.ip, .int .u32 lz.m, .int .u32 lz.r, .int .u32 lz.sv, .int .u32 lz.nx, .string lz.file, .int .i64 lz.frm, .int .i64 lz.t1, .int .i64 lz.t2, .int .i64 lz.un] rfl rfl 44 _ (heap_new w2 _) infoLs rfl (by simp [Value.oneCell']) ?_)
      | fail)
      obtain ⟨w4, hw4⟩ : ∃ W, W = (w2.alloc (.cells #[.int .u32 0, .int .u32 0, .int .u32 0, .int .u32 0, .int .u32 0, .string noText, .int .i64 0, .int .i64 0, .int .i64 0, .int .i64 0] 44)).setRow w2.heap.size #[.int .u32 lz.ip, .int .u32 lz.m, .int .u32 lz.r, .int .u32 lz.sv, .int .u32 lz.nx, .string lz.file, .int .i64 lz.frm, .int .i64 lz.t1, .int .i64 lz.t2, .int .i64 lz.un] := ⟨_, rfl⟩
      obtain ⟨gl, hgl⟩ : ∃ g, g = w2.heap.size := ⟨_, rfl⟩
      rw [← hgl] at hw4 ⊢
      have hown := own_laid H2.out.1 rfl hgl hw4
      rw [← hw4]
      have H4 := hid hown.1
      have HB4 := hid hown.2.1
      have HB24 := hid (bstep H2.out.2 hown.2.2)
      clear hw4 hgl hown
      have xx : w4.cell? ⟨gl, 0, none⟩ = some (.int .u32 lz.ip) ∧ w4.cell? ⟨gl, 3, none⟩ = some (.int .u32 lz.sv) ∧ w4.cell? ⟨p, 11, none⟩ = some (.int .u32 s.c.l.ip) := ⟨(cell_of_heap HB4.out.box 0).trans rfl, (cell_of_heap HB4.out.box 3).trans rfl, (HCC.out _ H4.out).1⟩
      refine wp_region_noPanic ?_
      refine wp_region_held_drew (S := fun w' => w'.cell? ⟨gl, 0, none⟩ = some (.int .u32 lz.ip) ∧ w'.cell? ⟨gl, 3, none⟩ = some (.int .u32 lz.sv) ∧ w'.cell? ⟨p, 11, none⟩ = some (.int .u32 s.c.l.ip)) (by kernel_rfl) xx (fun hHeld => ?_)
      refine wpAnyH_take (i := 0) (oi := { dst := some 13, op := .move (.tmp 7), type := _, pos := _, after := _, guard := none }) (v := .bool true) rfl (by kernel_rfl) (by kernel_rfl) (by kernel_rfl) (fun _ _ _ h => h) (Or.inl ⟨by rfl, fun wq hSw => by (try dsimp only at hSw); go_simp⟩) (by assumption) ?_
      try simp only [Act.put, List.setIfInBounds_toArray, List.set_cons_zero, List.set_cons_succ]
      refine wpAnyH_take (i := 1) (oi := { dst := some 14, op := .unOp .not 4 (.tmp 13), type := _, pos := _, after := _, guard := none }) (v := .bool false) rfl (by kernel_rfl) (by kernel_rfl) (by kernel_rfl) (fun _ _ _ h => h) (Or.inl ⟨by rfl, fun wq hSw => by (try dsimp only at hSw); go_simp⟩) (by assumption) ?_
      try simp only [Act.put, List.setIfInBounds_toArray, List.set_cons_zero, List.set_cons_succ]
      refine wpAnyH_take (i := 2) (oi := { dst := some 15, op := .move (.tmp 14), type := _, pos := _, after := _, guard := none }) (v := .bool false) rfl (by kernel_rfl) (by kernel_rfl) (by kernel_rfl) (fun _ _ _ h => h) (Or.inl ⟨by rfl, fun wq hSw => by (try dsimp only at hSw); go_simp⟩) (by assumption) ?_
      try simp only [Act.put, List.setIfInBounds_toArray, List.set_cons_zero, List.set_cons_succ]
      refine wpAnyH_take (i := 3) (oi := { dst := some 16, op := .fieldAddr 44 (.tmp 6) 0, type := _, pos := _, after := _, guard := some (2, false) }) (v := .pointer (some ⟨gl, 0, none⟩)) rfl (by kernel_rfl) (by kernel_rfl) (by kernel_rfl) (fun _ _ _ h => h) (Or.inl ⟨by rfl, fun wq hSw => by (try dsimp only at hSw); go_simp⟩) (by assumption) ?_
      try simp only [Act.put, List.setIfInBounds_toArray, List.set_cons_zero, List.set_cons_succ]
      refine wpAnyH_take (i := 4) (oi := { dst := some 17, op := .load 30 (.tmp 16), type := _, pos := _, after := _, guard := some (2, false) }) (v := .int .u32 lz.ip) rfl (by kernel_rfl) (by kernel_rfl) (by kernel_rfl) (fun _ _ _ h => h) (Or.inl ⟨by rfl, fun wq hSw => by (try dsimp only at hSw); go_simp⟩) (by assumption) ?_
      try simp only [Act.put, List.setIfInBounds_toArray, List.set_cons_zero, List.set_cons_succ]
      refine wpAnyH_take (i := 5) (oi := { dst := some 18, op := .move (.tmp 0), type := _, pos := _, after := _, guard := some (2, false) }) (v := .pointer (some ⟨p, 0, none⟩)) rfl (by kernel_rfl) (by kernel_rfl) (by kernel_rfl) (fun _ _ _ h => h) (Or.inl ⟨by rfl, fun wq hSw => by (try dsimp only at hSw); go_simp⟩) (by assumption) ?_
      try simp only [Act.put, List.setIfInBounds_toArray, List.set_cons_zero, List.set_cons_succ]
      refine wpAnyH_take (i := 6) (oi := { dst := some 19, op := .nilCheck (.tmp 18), type := _, pos := _, after := _, guard := some (2, false) }) (v := .pointer (some ⟨p, 0, none⟩)) rfl (by kernel_rfl) (by kernel_rfl) (by kernel_rfl) (fun _ _ _ h => h) (Or.inl ⟨by rfl, fun wq hSw => by (try dsimp only at hSw); go_simp⟩) (by assumption) ?_
      try simp only [Act.put, List.setIfInBounds_toArray, List.set_cons_zero, List.set_cons_succ]
      refine wpAnyH_take (i := 7) (oi := { dst := some 20, op := .fieldAddr 53 (.tmp 19) 6, type := _, pos := _, after := _, guard := some (2, false) }) (v := .pointer (some ⟨p, 11, none⟩)) rfl (by kernel_rfl) (by kernel_rfl) (by kernel_rfl) (fun _ _ _ h => h) (Or.inl ⟨by rfl, fun wq hSw => by (try dsimp only at hSw); go_simp⟩) (by assumption) ?_
      try simp only [Act.put, List.setIfInBounds_toArray, List.set_cons_zero, List.set_cons_succ]
      refine wpAnyH_take (i := 8) (oi := { dst := some 21, op := .fieldAddr 44 (.tmp 20) 0, type := _, pos := _, after := _, guard := some (2, false) }) (v := .pointer (some ⟨p, 11, none⟩)) rfl (by kernel_rfl) (by kernel_rfl) (by kernel_rfl) (fun _ _ _ h => h) (Or.inl ⟨by rfl, fun wq hSw => by (try dsimp only at hSw); go_simp⟩) (by assumption) ?_
      try simp only [Act.put, List.setIfInBounds_toArray, List.set_cons_zero, List.set_cons_succ]
      refine wpAnyH_take (i := 9) (oi := { dst := some 22, op := .load 30 (.tmp 21), type := _, pos := _, after := _, guard := some (2, false) }) (v := .int .u32 s.c.l.ip) rfl (by kernel_rfl) (by kernel_rfl) (by kernel_rfl) (fun _ _ _ h => h) (Or.inl ⟨by rfl, fun wq hSw => by (try dsimp only at hSw); go_simp⟩) (by assumption) ?_
      try simp only [Act.put, List.setIfInBounds_toArray, List.set_cons_zero, List.set_cons_succ]
      refine wpAnyH_take (i := 10) (oi := { dst := some 23, op := .binOp .neq 30 (.tmp 17) (.tmp 22) 30, type := _, pos := _, after := _, guard := some (2, false) }) (v := .bool true) rfl (by kernel_rfl) (by kernel_rfl) (by kernel_rfl) (fun _ _ _ h => h) (Or.inl ⟨by rfl, fun wq hSw => by (try dsimp only at hSw); go_simp⟩) (by assumption) ?_
      try simp only [Act.put, List.setIfInBounds_toArray, List.set_cons_zero, List.set_cons_succ]
      refine wpAnyH_take (i := 11) (oi := { dst := some 24, op := .pick (.tmp 15) (.const (.bool true)) (.tmp 23), type := _, pos := _, after := _, guard := none }) (v := .bool true) rfl (by kernel_rfl) (by kernel_rfl) (by kernel_rfl) (fun _ _ _ h => h) (Or.inl ⟨by rfl, fun wq hSw => by (try dsimp only at hSw); go_simp⟩) (by assumption) ?_
      try simp only [Act.put, List.setIfInBounds_toArray, List.set_cons_zero, List.set_cons_succ]
      refine wpAnyH_take (i := 12) (oi := { dst := some 25, op := .move (.tmp 24), type := _, pos := _, after := _, guard := none }) (v := .bool true) rfl (by kernel_rfl) (by kernel_rfl) (by kernel_rfl) (fun _ _ _ h => h) (Or.inl ⟨by rfl, fun wq hSw => by (try dsimp only at hSw); go_simp⟩) (by assumption) ?_
      try simp only [Act.put, List.setIfInBounds_toArray, List.set_cons_zero, List.set_cons_succ]
      refine wpAnyH_take (i := 13) (oi := { dst := some 26, op := .move (.tmp 0), type := _, pos := _, after := _, guard := some (12, false) }) (v := undef) rfl (by kernel_rfl) (by kernel_rfl) (by kernel_rfl) (fun _ _ _ h => h) (Or.inr ⟨by rfl, rfl⟩) (by assumption) ?_
      try simp only [Act.put, List.setIfInBounds_toArray, List.set_cons_zero, List.set_cons_succ]
      refine wpAnyH_take (i := 14) (oi := { dst := some 27, op := .fieldAddr 44 (.tmp 6) 3, type := _, pos := _, after := _, guard := some (12, false) }) (v := undef) rfl (by kernel_rfl) (by kernel_rfl) (by kernel_rfl) (fun _ _ _ h => h) (Or.inr ⟨by rfl, rfl⟩) (by assumption) ?_
      try simp only [Act.put, List.setIfInBounds_toArray, List.set_cons_zero, List.set_cons_succ]
      refine wpAnyH_take (i := 15) (oi := { dst := some 28, op := .load 30 (.tmp 27), type := _, pos := _, after := _, guard := some (12, false) }) (v := undef) rfl (by kernel_rfl) (by kernel_rfl) (by kernel_rfl) (fun _ _ _ h => h) (Or.inr ⟨by rfl, rfl⟩) (by assumption) ?_
      try simp only [Act.put, List.setIfInBounds_toArray, List.set_cons_zero, List.set_cons_succ]
      refine wpAnyH_take (i := 16) (oi := { dst := some 29, op := .call { callee := .value (.func 34), args := #[.tmp 26, .tmp 28], argTypes := #[26, 30] }, type := _, pos := _, after := _, guard := some (12, false) }) (v := undef) rfl (by kernel_rfl) (by kernel_rfl) (by kernel_rfl) (fun _ _ _ h => h) (Or.inr ⟨by rfl, rfl⟩) (by assumption) ?_
      try simp only [Act.put, List.setIfInBounds_toArray, List.set_cons_zero, List.set_cons_succ]
      refine wpAnyH_take (i := 17) (oi := { dst := some 30, op := .unOp .not 4 (.tmp 29), type := _, pos := _, after := _, guard := some (12, false) }) (v := undef) rfl (by kernel_rfl) (by kernel_rfl) (by kernel_rfl) (fun _ _ _ h => h) (Or.inr ⟨by rfl, rfl⟩) (by assumption) ?_
      try simp only [Act.put, List.setIfInBounds_toArray, List.set_cons_zero, List.set_cons_succ]
      refine wpAnyH_take (i := 18) (oi := { dst := some 31, op := .pick (.tmp 25) (.const (.bool true)) (.tmp 30), type := _, pos := _, after := _, guard := none }) (v := .bool true) rfl (by kernel_rfl) (by kernel_rfl) (by kernel_rfl) (fun _ _ _ h => h) (Or.inl ⟨by rfl, fun wq hSw => by (try dsimp only at hSw); go_simp⟩) (by assumption) ?_
      try simp only [Act.put, List.setIfInBounds_toArray, List.set_cons_zero, List.set_cons_succ]
      refine wpAnyH_done (by kernel_rfl) ?_ _
      refine NoPanic.normal ?_
      clear xx hHeld
      go_wp2
      refine bodyPost_ret (results_none rfl _ _ _) rfl ?_
      exact ⟨rfl, HL.out.trans H4.out.drew⟩
    have hip' : (lz.ip != s.c.l.ip) = false := by simpa using hip
    rcases Bool.eq_false_or_eq_true (hearsB s.c lz.sv) with b1 | b1
    rotate_left
    · rw [HG.out, if_neg (by simp [b1])]
      clear HG hip
      go_enter Try.func24, Try.ntmps24
      go_upto_region 1 with (fail)
      rw [← hwm, ← hmb, ← htb, ← hwt]
      clear hwm hmb hwt htb
      go_upto_region 2 with (first
      | (refine wpList_load_row rfl 41 _ rfl mb rfl 41 #[.int .i64 m.op, .int .i64 m.hops, .int .u32 m.xid, .int .i64 m.secs, .bool m.all, .int .u32 m.ci, .int .u32 m.yi, .int .u32 m.si, .int .u32 m.gi, .int .u8 m.mac.b0, .int .u8 m.mac.b1, .int .u8 m.mac.b2, .int .u8 m.mac.b3, .int .u8 m.mac.b4, .int .u8 m.mac.b5, .string m.sname, .string m.file, .slice a n c] (0, 0) _ (by exact HM.out) Try.underlying41 rfl sizeBp ?_)
      | (go_at_call 33; refine HRD.out.mono ?_; rintro e w2 ⟨rfl, H2⟩)
      | (refine wpList_alloc_to rfl 44 rfl #[.int .u32 0, .int .u32 0, .int .u32 0, .int .u32 0, .int .u32 0, .string noText, .int .i64 0, .int .i64 0, .int .i64 0, .int .i64 0] zeroLs ?_)
      | (refine wpList_store_row rfl 44 _ _ rfl w2.heap.size #[.int .u32 lz.ip, .int .u32 lz.m, .int .u32 lz.r, .int .u32 lz.sv, .int .u32 lz.nx, .string lz.file, .int .i64 lz.frm, .int .i64 lz.t1, .int .i64 lz.t2, .int .i64 lz.un] rfl rfl 44 _ (heap_new w2 _) infoLs rfl (by simp [Value.oneCell']) ?_)
      | fail)
      obtain ⟨w4, hw4⟩ : ∃ W, W = (w2.alloc (.cells #[.int .u32 0, .int .u32 0, .int .u32 0, .int .u32 0, .int .u32 0, .string noText, .int .i64 0, .int .i64 0, .int .i64 0, .int .i64 0] 44)).setRow w2.heap.size #[.int .u32 lz.ip, .int .u32 lz.m, .int .u32 lz.r, .int .u32 lz.sv, .int .u32 lz.nx, .string lz.file, .int .i64 lz.frm, .int .i64 lz.t1, .int .i64 lz.t2, .int .i64 lz.un] := ⟨_, rfl⟩
      obtain ⟨gl, hgl⟩ : ∃ g, g = w2.heap.size := ⟨_, rfl⟩
      rw [← hgl] at hw4 ⊢
      have hown := own_laid H2.out.1 rfl hgl hw4
      rw [← hw4]
      have H4 := hid hown.1
      have HB4 := hid hown.2.1
      have HB24 := hid (bstep H2.out.2 hown.2.2)
      clear hw4 hgl hown
      have xx : w4.cell? ⟨gl, 0, none⟩ = some (.int .u32 lz.ip) ∧ w4.cell? ⟨gl, 3, none⟩ = some (.int .u32 lz.sv) ∧ w4.cell? ⟨p, 11, none⟩ = some (.int .u32 s.c.l.ip) := ⟨(cell_of_heap HB4.out.box 0).trans rfl, (cell_of_heap HB4.out.box 3).trans rfl, (HCC.out _ H4.out).1⟩
      refine wp_region_noPanic ?_
      refine wp_region_held_drew (S := fun w' => w'.cell? ⟨gl, 0, none⟩ = some (.int .u32 lz.ip) ∧ w'.cell? ⟨gl, 3, none⟩ = some (.int .u32 lz.sv) ∧ w'.cell? ⟨p, 11, none⟩ = some (.int .u32 s.c.l.ip)) (by kernel_rfl) xx (fun hHeld => ?_)
      refine wpAnyH_take (i := 0) (oi := { dst := some 13, op := .move (.tmp 7), type := _, pos := _, after := _, guard := none }) (v := .bool true) rfl (by kernel_rfl) (by kernel_rfl) (by kernel_rfl) (fun _ _ _ h => h) (Or.inl ⟨by rfl, fun wq hSw => by (try dsimp only at hSw); go_simp⟩) (by assumption) ?_
      try simp only [Act.put, List.setIfInBounds_toArray, List.set_cons_zero, List.set_cons_succ]
      refine wpAnyH_take (i := 1) (oi := { dst := some 14, op := .unOp .not 4 (.tmp 13), type := _, pos := _, after := _, guard := none }) (v := .bool false) rfl (by kernel_rfl) (by kernel_rfl) (by kernel_rfl) (fun _ _ _ h => h) (Or.inl ⟨by rfl, fun wq hSw => by (try dsimp only at hSw); go_simp⟩) (by assumption) ?_
      try simp only [Act.put, List.setIfInBounds_toArray, List.set_cons_zero, List.set_cons_succ]
      refine wpAnyH_take (i := 2) (oi := { dst := some 15, op := .move (.tmp 14), type := _, pos := _, after := _, guard := none }) (v := .bool false) rfl (by kernel_rfl) (by kernel_rfl) (by kernel_rfl) (fun _ _ _ h => h) (Or.inl ⟨by rfl, fun wq hSw => by (try dsimp only at hSw); go_simp⟩) (by assumption) ?_
      try simp only [Act.put, List.setIfInBounds_toArray, List.set_cons_zero, List.set_cons_succ]
      refine wpAnyH_take (i := 3) (oi := { dst := some 16, op := .fieldAddr 44 (.tmp 6) 0, type := _, pos := _, after := _, guard := some (2, false) }) (v := .pointer (some ⟨gl, 0, none⟩)) rfl (by kernel_rfl) (by kernel_rfl) (by kernel_rfl) (fun _ _ _ h => h) (Or.inl ⟨by rfl, fun wq hSw => by (try dsimp only at hSw); go_simp⟩) (by assumption) ?_
      try simp only [Act.put, List.setIfInBounds_toArray, List.set_cons_zero, List.set_cons_succ]
      refine wpAnyH_take (i := 4) (oi := { dst := some 17, op := .load 30 (.tmp 16), type := _, pos := _, after := _, guard := some (2, false) }) (v := .int .u32 lz.ip) rfl (by kernel_rfl) (by kernel_rfl) (by kernel_rfl) (fun _ _ _ h => h) (Or.inl ⟨by rfl, fun wq hSw => by (try dsimp only at hSw); go_simp⟩) (by assumption) ?_
      try simp only [Act.put, List.setIfInBounds_toArray, List.set_cons_zero, List.set_cons_succ]
      refine wpAnyH_take (i := 5) (oi := { dst := some 18, op := .move (.tmp 0), type := _, pos := _, after := _, guard := some (2, false) }) (v := .pointer (some ⟨p, 0, none⟩)) rfl (by kernel_rfl) (by kernel_rfl) (by kernel_rfl) (fun _ _ _ h => h) (Or.inl ⟨by rfl, fun wq hSw => by (try dsimp only at hSw); go_simp⟩) (by assumption) ?_
      try simp only [Act.put, List.setIfInBounds_toArray, List.set_cons_zero, List.set_cons_succ]
      refine wpAnyH_take (i := 6) (oi := { dst := some 19, op := .nilCheck (.tmp 18), type := _, pos := _, after := _, guard := some (2, false) }) (v := .pointer (some ⟨p, 0, none⟩)) rfl (by kernel_rfl) (by kernel_rfl) (by kernel_rfl) (fun _ _ _ h => h) (Or.inl ⟨by rfl, fun wq hSw => by (try dsimp only at hSw); go_simp⟩) (by assumption) ?_
      try simp only [Act.put, List.setIfInBounds_toArray, List.set_cons_zero, List.set_cons_succ]
      refine wpAnyH_take (i := 7) (oi := { dst := some 20, op := .fieldAddr 53 (.tmp 19) 6, type := _, pos := _, after := _, guard := some (2, false) }) (v := .pointer (some ⟨p, 11, none⟩)) rfl (by kernel_rfl) (by kernel_rfl) (by kernel_rfl) (fun _ _ _ h => h) (Or.inl ⟨by rfl, fun wq hSw => by (try dsimp only at hSw); go_simp⟩) (by assumption) ?_
      try simp only [Act.put, List.setIfInBounds_toArray, List.set_cons_zero, List.set_cons_succ]
      refine wpAnyH_take (i := 8) (oi := { dst := some 21, op := .fieldAddr 44 (.tmp 20) 0, type := _, pos := _, after := _, guard := some (2, false) }) (v := .pointer (some ⟨p, 11, none⟩)) rfl (by kernel_rfl) (by kernel_rfl) (by kernel_rfl) (fun _ _ _ h => h) (Or.inl ⟨by rfl, fun wq hSw => by (try dsimp only at hSw); go_simp⟩) (by assumption) ?_
      try simp only [Act.put, List.setIfInBounds_toArray, List.set_cons_zero, List.set_cons_succ]
      refine wpAnyH_take (i := 9) (oi := { dst := some 22, op := .load 30 (.tmp 21), type := _, pos := _, after := _, guard := some (2, false) }) (v := .int .u32 s.c.l.ip) rfl (by kernel_rfl) (by kernel_rfl) (by kernel_rfl) (fun _ _ _ h => h) (Or.inl ⟨by rfl, fun wq hSw => by (try dsimp only at hSw); go_simp⟩) (by assumption) ?_
      try simp only [Act.put, List.setIfInBounds_toArray, List.set_cons_zero, List.set_cons_succ]
      refine wpAnyH_take (i := 10) (oi := { dst := some 23, op := .binOp .neq 30 (.tmp 17) (.tmp 22) 30, type := _, pos := _, after := _, guard := some (2, false) }) (v := .bool false) rfl (by kernel_rfl) (by kernel_rfl) (by kernel_rfl) (fun _ _ _ h => h) (Or.inl ⟨by rfl, fun wq hSw => by (try dsimp only at hSw); go_simp⟩) (by assumption) ?_
      try simp only [Act.put, List.setIfInBounds_toArray, List.set_cons_zero, List.set_cons_succ]
      refine wpAnyH_take (i := 11) (oi := { dst := some 24, op := .pick (.tmp 15) (.const (.bool true)) (.tmp 23), type := _, pos := _, after := _, guard := none }) (v := .bool false) rfl (by kernel_rfl) (by kernel_rfl) (by kernel_rfl) (fun _ _ _ h => h) (Or.inl ⟨by rfl, fun wq hSw => by (try dsimp only at hSw); go_simp⟩) (by assumption) ?_
      try simp only [Act.put, List.setIfInBounds_toArray, List.set_cons_zero, List.set_cons_succ]
      refine wpAnyH_take (i := 12) (oi := { dst := some 25, op := .move (.tmp 24), type := _, pos := _, after := _, guard := none }) (v := .bool false) rfl (by kernel_rfl) (by kernel_rfl) (by kernel_rfl) (fun _ _ _ h => h) (Or.inl ⟨by rfl, fun wq hSw => by (try dsimp only at hSw); go_simp⟩) (by assumption) ?_
      try simp only [Act.put, List.setIfInBounds_toArray, List.set_cons_zero, List.set_cons_succ]
      refine wpAnyH_take (i := 13) (oi := { dst := some 26, op := .move (.tmp 0), type := _, pos := _, after := _, guard := some (12, false) }) (v := .pointer (some ⟨p, 0, none⟩)) rfl (by kernel_rfl) (by kernel_rfl) (by kernel_rfl) (fun _ _ _ h => h) (Or.inl ⟨by rfl, fun wq hSw => by (try dsimp only at hSw); go_simp⟩) (by assumption) ?_
      try simp only [Act.put, List.setIfInBounds_toArray, List.set_cons_zero, List.set_cons_succ]
      refine wpAnyH_take (i := 14) (oi := { dst := some 27, op := .fieldAddr 44 (.tmp 6) 3, type := _, pos := _, after := _, guard := some (12, false) }) (v := .pointer (some ⟨gl, 3, none⟩)) rfl (by kernel_rfl) (by kernel_rfl) (by kernel_rfl) (fun _ _ _ h => h) (Or.inl ⟨by rfl, fun wq hSw => by (try dsimp only at hSw); go_simp⟩) (by assumption) ?_
      try simp only [Act.put, List.setIfInBounds_toArray, List.set_cons_zero, List.set_cons_succ]
      refine wpAnyH_take (i := 15) (oi := { dst := some 28, op := .load 30 (.tmp 27), type := _, pos := _, after := _, guard := some (12, false) }) (v := .int .u32 lz.sv) rfl (by kernel_rfl) (by kernel_rfl) (by kernel_rfl) (fun _ _ _ h => h) (Or.inl ⟨by rfl, fun wq hSw => by (try dsimp only at hSw); go_simp⟩) (by assumption) ?_
      try simp only [Act.put, List.setIfInBounds_toArray, List.set_cons_zero, List.set_cons_succ]
      refine wpAnyH_ready (rs := [16]) (by kernel_rfl) (by simp) ?_
      refine AllReadyH.cons (o := { dst := some 29, op := .call { callee := .value (.func 34), args := #[.tmp 26, .tmp 28], argTypes := #[26, 30] }, type := _, pos := _, after := _, guard := some (12, false) }) rfl (fun K hK => ?_) AllReadyH.nil
      go_simp
      refine (HHE.out _ H4.out.drew).mono ?_
      rintro e w5 ⟨rfl, hw⟩
      subst w5
      rw [b1]
      refine hK _ _ xx (fun hHeld => ?_)
      clear hK
      try simp only [Act.put, List.setIfInBounds_toArray, List.set_cons_zero, List.set_cons_succ]
      refine wpAnyH_take (i := 17) (oi := { dst := some 30, op := .unOp .not 4 (.tmp 29), type := _, pos := _, after := _, guard := some (12, false) }) (v := .bool true) rfl (by kernel_rfl) (by kernel_rfl) (by kernel_rfl) (fun _ _ _ h => h) (Or.inl ⟨by rfl, fun wq hSw => by (try dsimp only at hSw); go_simp⟩) (by assumption) ?_
      try simp only [Act.put, List.setIfInBounds_toArray, List.set_cons_zero, List.set_cons_succ]
      refine wpAnyH_take (i := 18) (oi := { dst := some 31, op := .pick (.tmp 25) (.const (.bool true)) (.tmp 30), type := _, pos := _, after := _, guard := none }) (v := .bool true) rfl (by kernel_rfl) (by kernel_rfl) (by kernel_rfl) (fun _ _ _ h => h) (Or.inl ⟨by rfl, fun wq hSw => by (try dsimp only at hSw); go_simp⟩) (by assumption) ?_
      try simp only [Act.put, List.setIfInBounds_toArray, List.set_cons_zero, List.set_cons_succ]
      refine wpAnyH_done (by kernel_rfl) ?_ _
      refine NoPanic.normal ?_
      clear xx hHeld
      go_wp2
      refine bodyPost_ret (results_none rfl _ _ _) rfl ?_
      exact ⟨rfl, HL.out.trans H4.out.drew⟩
    rw [HG.out, if_pos ⟨hip, b1⟩]
    clear HG hip
    by_cases h4 : 4 ≤ s.c.st
    · rw [if_pos h4]
      rw [decide_eq_true h4] at HHO
      clear h4
      have HPA := HTOK.out _ HK.out HBB.out
      rw [← HTL.out] at HPA ⊢
      have HTO := hid HPA
      clear HPA
      rcases Bool.eq_false_or_eq_true (dueB tl.un s.c.now) with d1 | d1
      · rw [if_pos d1]
        go_enter Try.func24, Try.ntmps24
        go_upto_region 1 with (fail)
        rw [← hwm, ← hmb, ← htb, ← hwt]
        clear hwm hmb hwt htb
        go_upto_region 2 with (first
        | (refine wpList_load_row rfl 41 _ rfl mb rfl 41 #[.int .i64 m.op, .int .i64 m.hops, .int .u32 m.xid, .int .i64 m.secs, .bool m.all, .int .u32 m.ci, .int .u32 m.yi, .int .u32 m.si, .int .u32 m.gi, .int .u8 m.mac.b0, .int .u8 m.mac.b1, .int .u8 m.mac.b2, .int .u8 m.mac.b3, .int .u8 m.mac.b4, .int .u8 m.mac.b5, .string m.sname, .string m.file, .slice a n c] (0, 0) _ (by exact HM.out) Try.underlying41 rfl sizeBp ?_)
        | (go_at_call 33; refine HRD.out.mono ?_; rintro e w2 ⟨rfl, H2⟩)
        | (refine wpList_alloc_to rfl 44 rfl #[.int .u32 0, .int .u32 0, .int .u32 0, .int .u32 0, .int .u32 0, .string noText, .int .i64 0, .int .i64 0, .int .i64 0, .int .i64 0] zeroLs ?_)
        | (refine wpList_store_row rfl 44 _ _ rfl w2.heap.size #[.int .u32 lz.ip, .int .u32 lz.m, .int .u32 lz.r, .int .u32 lz.sv, .int .u32 lz.nx, .string lz.file, .int .i64 lz.frm, .int .i64 lz.t1, .int .i64 lz.t2, .int .i64 lz.un] rfl rfl 44 _ (heap_new w2 _) infoLs rfl (by simp [Value.oneCell']) ?_)
        | fail)
        obtain ⟨w4, hw4⟩ : ∃ W, W = (w2.alloc (.cells #[.int .u32 0, .int .u32 0, .int .u32 0, .int .u32 0, .int .u32 0, .string noText, .int .i64 0, .int .i64 0, .int .i64 0, .int .i64 0] 44)).setRow w2.heap.size #[.int .u32 lz.ip, .int .u32 lz.m, .int .u32 lz.r, .int .u32 lz.sv, .int .u32 lz.nx, .string lz.file, .int .i64 lz.frm, .int .i64 lz.t1, .int .i64 lz.t2, .int .i64 lz.un] := ⟨_, rfl⟩
        obtain ⟨gl, hgl⟩ : ∃ g, g = w2.heap.size := ⟨_, rfl⟩
        rw [← hgl] at hw4 ⊢
        have hown := own_laid H2.out.1 rfl hgl hw4
        rw [← hw4]
        have H4 := hid hown.1
        have HB4 := hid hown.2.1
        have HB24 := hid (bstep H2.out.2 hown.2.2)
        clear hw4 hgl hown
        have xx : w4.cell? ⟨gl, 0, none⟩ = some (.int .u32 lz.ip) ∧ w4.cell? ⟨gl, 3, none⟩ = some (.int .u32 lz.sv) ∧ w4.cell? ⟨p, 11, none⟩ = some (.int .u32 s.c.l.ip) := ⟨(cell_of_heap HB4.out.box 0).trans rfl, (cell_of_heap HB4.out.box 3).trans rfl, (HCC.out _ H4.out).1⟩
        refine wp_region_noPanic ?_
        refine wp_region_held_drew (S := fun w' => w'.cell? ⟨gl, 0, none⟩ = some (.int .u32 lz.ip) ∧ w'.cell? ⟨gl, 3, none⟩ = some (.int .u32 lz.sv) ∧ w'.cell? ⟨p, 11, none⟩ = some (.int .u32 s.c.l.ip)) (by kernel_rfl) xx (fun hHeld => ?_)
        refine wpAnyH_take (i := 0) (oi := { dst := some 13, op := .move (.tmp 7), type := _, pos := _, after := _, guard := none }) (v := .bool true) rfl (by kernel_rfl) (by kernel_rfl) (by kernel_rfl) (fun _ _ _ h => h) (Or.inl ⟨by rfl, fun wq hSw => by (try dsimp only at hSw); go_simp⟩) (by assumption) ?_
        try simp only [Act.put, List.setIfInBounds_toArray, List.set_cons_zero, List.set_cons_succ]
        refine wpAnyH_take (i := 1) (oi := { dst := some 14, op := .unOp .not 4 (.tmp 13), type := _, pos := _, after := _, guard := none }) (v := .bool false) rfl (by kernel_rfl) (by kernel_rfl) (by kernel_rfl) (fun _ _ _ h => h) (Or.inl ⟨by rfl, fun wq hSw => by (try dsimp only at hSw); go_simp⟩) (by assumption) ?_
        try simp only [Act.put, List.setIfInBounds_toArray, List.set_cons_zero, List.set_cons_succ]
        refine wpAnyH_take (i := 2) (oi := { dst := some 15, op := .move (.tmp 14), type := _, pos := _, after := _, guard := none }) (v := .bool false) rfl (by kernel_rfl) (by kernel_rfl) (by kernel_rfl) (fun _ _ _ h => h) (Or.inl ⟨by rfl, fun wq hSw => by (try dsimp only at hSw); go_simp⟩) (by assumption) ?_
        try simp only [Act.put, List.setIfInBounds_toArray, List.set_cons_zero, List.set_cons_succ]
        refine wpAnyH_take (i := 3) (oi := { dst := some 16, op := .fieldAddr 44 (.tmp 6) 0, type := _, pos := _, after := _, guard := some (2, false) }) (v := .pointer (some ⟨gl, 0, none⟩)) rfl (by kernel_rfl) (by kernel_rfl) (by kernel_rfl) (fun _ _ _ h => h) (Or.inl ⟨by rfl, fun wq hSw => by (try dsimp only at hSw); go_simp⟩) (by assumption) ?_
        try simp only [Act.put, List.setIfInBounds_toArray, List.set_cons_zero, List.set_cons_succ]
        refine wpAnyH_take (i := 4) (oi := { dst := some 17, op := .load 30 (.tmp 16), type := _, pos := _, after := _, guard := some (2, false) }) (v := .int .u32 lz.ip) rfl (by kernel_rfl) (by kernel_rfl) (by kernel_rfl) (fun _ _ _ h => h) (Or.inl ⟨by rfl, fun wq hSw => by (try dsimp only at hSw); go_simp⟩) (by assumption) ?_
        try simp only [Act.put, List.setIfInBounds_toArray, List.set_cons_zero, List.set_cons_succ]
        refine wpAnyH_take (i := 5) (oi := { dst := some 18, op := .move (.tmp 0), type := _, pos := _, after := _, guard := some (2, false) }) (v := .pointer (some ⟨p, 0, none⟩)) rfl (by kernel_rfl) (by kernel_rfl) (by kernel_rfl) (fun _ _ _ h => h) (Or.inl ⟨by rfl, fun wq hSw => by (try dsimp only at hSw); go_simp⟩) (by assumption) ?_
        try simp only [Act.put, List.setIfInBounds_toArray, List.set_cons_zero, List.set_cons_succ]
        refine wpAnyH_take (i := 6) (oi := { dst := some 19, op := .nilCheck (.tmp 18), type := _, pos := _, after := _, guard := some (2, false) }) (v := .pointer (some ⟨p, 0, none⟩)) rfl (by kernel_rfl) (by kernel_rfl) (by kernel_rfl) (fun _ _ _ h => h) (Or.inl ⟨by rfl, fun wq hSw => by (try dsimp only at hSw); go_simp⟩) (by assumption) ?_
        try simp only [Act.put, List.setIfInBounds_toArray, List.set_cons_zero, List.set_cons_succ]
        refine wpAnyH_take (i := 7) (oi := { dst := some 20, op := .fieldAddr 53 (.tmp 19) 6, type := _, pos := _, after := _, guard := some (2, false) }) (v := .pointer (some ⟨p, 11, none⟩)) rfl (by kernel_rfl) (by kernel_rfl) (by kernel_rfl) (fun _ _ _ h => h) (Or.inl ⟨by rfl, fun wq hSw => by (try dsimp only at hSw); go_simp⟩) (by assumption) ?_
        try simp only [Act.put, List.setIfInBounds_toArray, List.set_cons_zero, List.set_cons_succ]
        refine wpAnyH_take (i := 8) (oi := { dst := some 21, op := .fieldAddr 44 (.tmp 20) 0, type := _, pos := _, after := _, guard := some (2, false) }) (v := .pointer (some ⟨p, 11, none⟩)) rfl (by kernel_rfl) (by kernel_rfl) (by kernel_rfl) (fun _ _ _ h => h) (Or.inl ⟨by rfl, fun wq hSw => by (try dsimp only at hSw); go_simp⟩) (by assumption) ?_
        try simp only [Act.put, List.setIfInBounds_toArray, List.set_cons_zero, List.set_cons_succ]
        refine wpAnyH_take (i := 9) (oi := { dst := some 22, op := .load 30 (.tmp 21), type := _, pos := _, after := _, guard := some (2, false) }) (v := .int .u32 s.c.l.ip) rfl (by kernel_rfl) (by kernel_rfl) (by kernel_rfl) (fun _ _ _ h => h) (Or.inl ⟨by rfl, fun wq hSw => by (try dsimp only at hSw); go_simp⟩) (by assumption) ?_
        try simp only [Act.put, List.setIfInBounds_toArray, List.set_cons_zero, List.set_cons_succ]
        refine wpAnyH_take (i := 10) (oi := { dst := some 23, op := .binOp .neq 30 (.tmp 17) (.tmp 22) 30, type := _, pos := _, after := _, guard := some (2, false) }) (v := .bool false) rfl (by kernel_rfl) (by kernel_rfl) (by kernel_rfl) (fun _ _ _ h => h) (Or.inl ⟨by rfl, fun wq hSw => by (try dsimp only at hSw); go_simp⟩) (by assumption) ?_
        try simp only [Act.put, List.setIfInBounds_toArray, List.set_cons_zero, List.set_cons_succ]
        refine wpAnyH_take (i := 11) (oi := { dst := some 24, op := .pick (.tmp 15) (.const (.bool true)) (.tmp 23), type := _, pos := _, after := _, guard := none }) (v := .bool false) rfl (by kernel_rfl) (by kernel_rfl) (by kernel_rfl) (fun _ _ _ h => h) (Or.inl ⟨by rfl, fun wq hSw => by (try dsimp only at hSw); go_simp⟩) (by assumption) ?_
        try simp only [Act.put, List.setIfInBounds_toArray, List.set_cons_zero, List.set_cons_succ]
        refine wpAnyH_take (i := 12) (oi := { dst := some 25, op := .move (.tmp 24), type := _, pos := _, after := _, guard := none }) (v := .bool false) rfl (by kernel_rfl) (by kernel_rfl) (by kernel_rfl) (fun _ _ _ h => h) (Or.inl ⟨by rfl, fun wq hSw => by (try dsimp only at hSw); go_simp⟩) (by assumption) ?_
        try simp only [Act.put, List.setIfInBounds_toArray, List.set_cons_zero, List.set_cons_succ]
        refine wpAnyH_take (i := 13) (oi := { dst := some 26, op := .move (.tmp 0), type := _, pos := _, after := _, guard := some (12, false) }) (v := .pointer (some ⟨p, 0, none⟩)) rfl (by kernel_rfl) (by kernel_rfl) (by kernel_rfl) (fun _ _ _ h => h) (Or.inl ⟨by rfl, fun wq hSw => by (try dsimp only at hSw); go_simp⟩) (by assumption) ?_
        try simp only [Act.put, List.setIfInBounds_toArray, List.set_cons_zero, List.set_cons_succ]
        refine wpAnyH_take (i := 14) (oi := { dst := some 27, op := .fieldAddr 44 (.tmp 6) 3, type := _, pos := _, after := _, guard := some (12, false) }) (v := .pointer (some ⟨gl, 3, none⟩)) rfl (by kernel_rfl) (by kernel_rfl) (by kernel_rfl) (fun _ _ _ h => h) (Or.inl ⟨by rfl, fun wq hSw => by (try dsimp only at hSw); go_simp⟩) (by assumption) ?_
        try simp only [Act.put, List.setIfInBounds_toArray, List.set_cons_zero, List.set_cons_succ]
        refine wpAnyH_take (i := 15) (oi := { dst := some 28, op := .load 30 (.tmp 27), type := _, pos := _, after := _, guard := some (12, false) }) (v := .int .u32 lz.sv) rfl (by kernel_rfl) (by kernel_rfl) (by kernel_rfl) (fun _ _ _ h => h) (Or.inl ⟨by rfl, fun wq hSw => by (try dsimp only at hSw); go_simp⟩) (by assumption) ?_
        try simp only [Act.put, List.setIfInBounds_toArray, List.set_cons_zero, List.set_cons_succ]
        refine wpAnyH_ready (rs := [16]) (by kernel_rfl) (by simp) ?_
        refine AllReadyH.cons (o := { dst := some 29, op := .call { callee := .value (.func 34), args := #[.tmp 26, .tmp 28], argTypes := #[26, 30] }, type := _, pos := _, after := _, guard := some (12, false) }) rfl (fun K hK => ?_) AllReadyH.nil
        go_simp
        refine (HHE.out _ H4.out.drew).mono ?_
        rintro e w5 ⟨rfl, hw⟩
        subst w5
        rw [b1]
        refine hK _ _ xx (fun hHeld => ?_)
        clear hK
        try simp only [Act.put, List.setIfInBounds_toArray, List.set_cons_zero, List.set_cons_succ]
        refine wpAnyH_take (i := 17) (oi := { dst := some 30, op := .unOp .not 4 (.tmp 29), type := _, pos := _, after := _, guard := some (12, false) }) (v := .bool false) rfl (by kernel_rfl) (by kernel_rfl) (by kernel_rfl) (fun _ _ _ h => h) (Or.inl ⟨by rfl, fun wq hSw => by (try dsimp only at hSw); go_simp⟩) (by assumption) ?_
        try simp only [Act.put, List.setIfInBounds_toArray, List.set_cons_zero, List.set_cons_succ]
        refine wpAnyH_take (i := 18) (oi := { dst := some 31, op := .pick (.tmp 25) (.const (.bool true)) (.tmp 30), type := _, pos := _, after := _, guard := none }) (v := .bool false) rfl (by kernel_rfl) (by kernel_rfl) (by kernel_rfl) (fun _ _ _ h => h) (Or.inl ⟨by rfl, fun wq hSw => by (try dsimp only at hSw); go_simp⟩) (by assumption) ?_
        try simp only [Act.put, List.setIfInBounds_toArray, List.set_cons_zero, List.set_cons_succ]
        refine wpAnyH_done (by kernel_rfl) ?_ _
        refine NoPanic.normal ?_
        clear xx hHeld
        have H4d := hid H4.out.drew
        have HBE := hid (HB24.out.drew.drew)
        have HBE := hid (HB24.out.drew.drew)
        go_upto_region 5 with (first
          | (go_at_call 26; refine (HHO.out _ H4d.out).mono ?_; rintro e w5 ⟨rfl, hw⟩; subst w5)
          | fail)
        have HB4d : Hid (LbS wt gl #[.int .u32 lz.ip, .int .u32 lz.m, .int .u32 lz.r, .int .u32 lz.sv, .int .u32 lz.nx, .string lz.file, .int .i64 lz.frm, .int .i64 lz.t1, .int .i64 lz.t2, .int .i64 lz.un] w4.drew) := ⟨HB4.out.box, HB4.out.low⟩
        have HS5 : Hid (∀ W, LC W0 p pd gA ab s wt W → LbS wt gl #[.int .u32 lz.ip, .int .u32 lz.m, .int .u32 lz.r, .int .u32 lz.sv, .int .u32 lz.nx, .string lz.file, .int .i64 lz.frm, .int .i64 lz.t1, .int .i64 lz.t2, .int .i64 lz.un] W → W.rangeAt gl 0 [.int .u32 lz.ip, .int .u32 lz.m, .int .u32 lz.r, .int .u32 lz.sv, .int .u32 lz.nx, .string lz.file, .int .i64 lz.frm, .int .i64 lz.t1, .int .i64 lz.t2, .int .i64 lz.un] ∧ W.rangeAt mb 0 [.int .i64 m.op, .int .i64 m.hops, .int .u32 m.xid, .int .i64 m.secs, .bool m.all, .int .u32 m.ci, .int .u32 m.yi, .int .u32 m.si, .int .u32 m.gi, .int .u8 m.mac.b0, .int .u8 m.mac.b1, .int .u8 m.mac.b2, .int .u8 m.mac.b3, .int .u8 m.mac.b4, .int .u8 m.mac.b5, .string m.sname, .string m.file, .slice a n c] ∧ W.cell? ⟨p, 9, none⟩ = some (.int .i64 s.c.beg)) := fun W hW hB => ⟨fun j v hj => by rw [Nat.zero_add, cell_of_heap hB.box, ← Array.getElem?_toList]; exact hj, fun j v hj => by rw [Nat.zero_add, cell_of_heap (HMS.out _ _ hW), ← Array.getElem?_toList]; exact hj, (HCC.out _ hW).2.2⟩
        have xx := HS5.out _ H4d.out HB4d.out
        refine wp_region_noPanic ?_
        refine wp_region_last (S := fun w' => w'.rangeAt gl 0 [.int .u32 lz.ip, .int .u32 lz.m, .int .u32 lz.r, .int .u32 lz.sv, .int .u32 lz.nx, .string lz.file, .int .i64 lz.frm, .int .i64 lz.t1, .int .i64 lz.t2, .int .i64 lz.un] ∧ w'.rangeAt mb 0 [.int .i64 m.op, .int .i64 m.hops, .int .u32 m.xid, .int .i64 m.secs, .bool m.all, .int .u32 m.ci, .int .u32 m.yi, .int .u32 m.si, .int .u32 m.gi, .int .u8 m.mac.b0, .int .u8 m.mac.b1, .int .u8 m.mac.b2, .int .u8 m.mac.b3, .int .u8 m.mac.b4, .int .u8 m.mac.b5, .string m.sname, .string m.file, .slice a n c] ∧ w'.cell? ⟨p, 9, none⟩ = some (.int .i64 s.c.beg)) 7 (by kernel_rfl) xx (fun hHeld => ?_)
        refine wpLast_take (i := 0) (n := 12) (oi := { dst := some 45, op := .load 44 (.tmp 6), type := _, pos := _, after := _, guard := none }) (v := .agg #[.int .u32 lz.ip, .int .u32 lz.m, .int .u32 lz.r, .int .u32 lz.sv, .int .u32 lz.nx, .string lz.file, .int .i64 lz.frm, .int .i64 lz.t1, .int .i64 lz.t2, .int .i64 lz.un]) rfl (by kernel_rfl) (by kernel_rfl) (by kernel_rfl) (by kernel_rfl) (fun _ _ _ h => h) (yieldsIf_load_mid (by rfl) 44 (.tmp 6) rfl gl 0 rfl [.int .u32 lz.ip, .int .u32 lz.m, .int .u32 lz.r, .int .u32 lz.sv, .int .u32 lz.nx, .string lz.file, .int .i64 lz.frm, .int .i64 lz.t1, .int .i64 lz.t2, .int .i64 lz.un] _ (fun w hS => hS.1) Try.underlying44 rfl infoLs) (by assumption) ?_
        try simp only [Act.put, List.setIfInBounds_toArray, List.set_cons_zero, List.set_cons_succ]
        refine wpLast_take (i := 1) (n := 12) (oi := { dst := some 46, op := .load 41 (.tmp 4), type := _, pos := _, after := _, guard := none }) (v := .agg #[.int .i64 m.op, .int .i64 m.hops, .int .u32 m.xid, .int .i64 m.secs, .bool m.all, .int .u32 m.ci, .int .u32 m.yi, .int .u32 m.si, .int .u32 m.gi, .int .u8 m.mac.b0, .int .u8 m.mac.b1, .int .u8 m.mac.b2, .int .u8 m.mac.b3, .int .u8 m.mac.b4, .int .u8 m.mac.b5, .string m.sname, .string m.file, .slice a n c]) rfl (by kernel_rfl) (by kernel_rfl) (by kernel_rfl) (by kernel_rfl) (fun _ _ _ h => h) (yieldsIf_load_mid (by rfl) 41 (.tmp 4) rfl mb 0 rfl [.int .i64 m.op, .int .i64 m.hops, .int .u32 m.xid, .int .i64 m.secs, .bool m.all, .int .u32 m.ci, .int .u32 m.yi, .int .u32 m.si, .int .u32 m.gi, .int .u8 m.mac.b0, .int .u8 m.mac.b1, .int .u8 m.mac.b2, .int .u8 m.mac.b3, .int .u8 m.mac.b4, .int .u8 m.mac.b5, .string m.sname, .string m.file, .slice a n c] _ (fun w hS => hS.2.1) Try.underlying41 rfl sizeBp) (by assumption) ?_
        try simp only [Act.put, List.setIfInBounds_toArray, List.set_cons_zero, List.set_cons_succ]
        refine wpLast_take (i := 2) (n := 12) (oi := { dst := some 47, op := .move (.tmp 0), type := _, pos := _, after := _, guard := none }) (v := .pointer (some ⟨p, 0, none⟩)) rfl (by kernel_rfl) (by kernel_rfl) (by kernel_rfl) (by kernel_rfl) (fun _ _ _ h => h) (Or.inl ⟨by rfl, fun wq hSw => by (try dsimp only at hSw); go_simp⟩) (by assumption) ?_
        try simp only [Act.put, List.setIfInBounds_toArray, List.set_cons_zero, List.set_cons_succ]
        refine wpLast_take (i := 3) (n := 12) (oi := { dst := some 48, op := .nilCheck (.tmp 47), type := _, pos := _, after := _, guard := none }) (v := .pointer (some ⟨p, 0, none⟩)) rfl (by kernel_rfl) (by kernel_rfl) (by kernel_rfl) (by kernel_rfl) (fun _ _ _ h => h) (Or.inl ⟨by rfl, fun wq hSw => by (try dsimp only at hSw); go_simp⟩) (by assumption) ?_
        try simp only [Act.put, List.setIfInBounds_toArray, List.set_cons_zero, List.set_cons_succ]
        refine wpLast_take (i := 4) (n := 12) (oi := { dst := some 49, op := .fieldAddr 53 (.tmp 48) 4, type := _, pos := _, after := _, guard := none }) (v := .pointer (some ⟨p, 9, none⟩)) rfl (by kernel_rfl) (by kernel_rfl) (by kernel_rfl) (by kernel_rfl) (fun _ _ _ h => h) (Or.inl ⟨by rfl, fun wq hSw => by (try dsimp only at hSw); go_simp⟩) (by assumption) ?_
        try simp only [Act.put, List.setIfInBounds_toArray, List.set_cons_zero, List.set_cons_succ]
        refine wpLast_take (i := 5) (n := 12) (oi := { dst := some 50, op := .load 3 (.tmp 49), type := _, pos := _, after := _, guard := none }) (v := .int .i64 s.c.beg) rfl (by kernel_rfl) (by kernel_rfl) (by kernel_rfl) (by kernel_rfl) (fun _ _ _ h => h) (Or.inl ⟨by rfl, fun wq hSw => by (try dsimp only at hSw); go_simp⟩) (by assumption) ?_
        try simp only [Act.put, List.setIfInBounds_toArray, List.set_cons_zero, List.set_cons_succ]
        refine wpLast_one (i := 6) (o := { dst := some 51, op := .call { callee := .value (.func 36), args := #[.tmp 45, .tmp 46, .tmp 50], argTypes := #[44, 41, 3] }, type := _, pos := _, after := _, guard := none }) (by kernel_rfl) rfl (fun K hK => ?_)
        go_simp
        refine (HTD.out _ _ HBB.out H4d.out.drew HBE.out).mono ?_
        rw [← HTL.out]
        rintro e w6 ⟨rfl, H6, HB6⟩
        have HL6 := hid (HB4d.out.stay (Stay.of_below ((Below.refl _ _).drew.trans HB6.out)))
        refine hK _ _ (Or.inr (HS5.out _ H6.out HL6.out)) ?_
        clear hK
        try simp only [Act.put, List.setIfInBounds_toArray, List.set_cons_zero, List.set_cons_succ]
        refine wpLast_one (i := 7) (o := { dst := none, op := .store 44 (.tmp 6) (.tmp 51), type := _, pos := _, after := _, guard := none }) (by kernel_rfl) rfl (fun K hK => ?_)
        refine step_store_row rfl 44 _ _ rfl gl #[.int .u32 tl.ip, .int .u32 tl.m, .int .u32 tl.r, .int .u32 tl.sv, .int .u32 tl.nx, .string tl.file, .int .i64 tl.frm, .int .i64 tl.t1, .int .i64 tl.t2, .int .i64 tl.un] rfl rfl 44 _ HL6.out.box infoLs rfl (by simp [Value.oneCell']) ?_
        intro w8 HG8 HB8
        have H8 := hid (LC.own HZS.out H6.out HL6.out HB8.out)
        have HL8 : Hid (LbS wt gl #[.int .u32 tl.ip, .int .u32 tl.m, .int .u32 tl.r, .int .u32 tl.sv, .int .u32 tl.nx, .string tl.file, .int .i64 tl.frm, .int .i64 tl.t1, .int .i64 tl.t2, .int .i64 tl.un] w8) := ⟨HG8.out, HL6.out.low⟩
        refine hK _ _ (Or.inl rfl) ?_
        clear hK
        try simp only [Act.put, List.setIfInBounds_toArray, List.set_cons_zero, List.set_cons_succ]
        refine wpLast_done (by kernel_rfl) ?_ _
        refine NoPanic.normal ?_
        have c9 : w8.cell? ⟨gl, 9, none⟩ = some (.int .i64 tl.un) := (cell_of_heap HL8.out.box 9).trans rfl
        have ct := HCT.out _ _ H8.out
        clear HG8 HB8 HL6 HB6 HB4d HBE xx hHeld HS5
        go_wp2_with (first
          | (go_at_call 30; refine (HDU.out _ _ H8.out).mono ?_; rintro e w9 ⟨rfl, hw⟩; subst w9; rw [d1])
          | fail)
        go_end0
        exact ⟨rfl, HL.out.trans H8.out⟩
      · rw [if_neg (by simp [d1])]
        go_enter Try.func24, Try.ntmps24
        go_upto_region 1 with (fail)
        rw [← hwm, ← hmb, ← htb, ← hwt]
        clear hwm hmb hwt htb
        go_upto_region 2 with (first
        | (refine wpList_load_row rfl 41 _ rfl mb rfl 41 #[.int .i64 m.op, .int .i64 m.hops, .int .u32 m.xid, .int .i64 m.secs, .bool m.all, .int .u32 m.ci, .int .u32 m.yi, .int .u32 m.si, .int .u32 m.gi, .int .u8 m.mac.b0, .int .u8 m.mac.b1, .int .u8 m.mac.b2, .int .u8 m.mac.b3, .int .u8 m.mac.b4, .int .u8 m.mac.b5, .string m.sname, .string m.file, .slice a n c] (0, 0) _ (by exact HM.out) Try.underlying41 rfl sizeBp ?_)
        | (go_at_call 33; refine HRD.out.mono ?_; rintro e w2 ⟨rfl, H2⟩)
        | (refine wpList_alloc_to rfl 44 rfl #[.int .u32 0, .int .u32 0, .int .u32 0, .int .u32 0, .int .u32 0, .string noText, .int .i64 0, .int .i64 0, .int .i64 0, .int .i64 0] zeroLs ?_)
        | (refine wpList_store_row rfl 44 _ _ rfl w2.heap.size #[.int .u32 lz.ip, .int .u32 lz.m, .int .u32 lz.r, .int .u32 lz.sv, .int .u32 lz.nx, .string lz.file, .int .i64 lz.frm, .int .i64 lz.t1, .int .i64 lz.t2, .int .i64 lz.un] rfl rfl 44 _ (heap_new w2 _) infoLs rfl (by simp [Value.oneCell']) ?_)
        | fail)
        obtain ⟨w4, hw4⟩ : ∃ W, W = (w2.alloc (.cells #[.int .u32 0, .int .u32 0, .int .u32 0, .int .u32 0, .int .u32 0, .string noText, .int .i64 0, .int .i64 0, .int .i64 0, .int .i64 0] 44)).setRow w2.heap.size #[.int .u32 lz.ip, .int .u32 lz.m, .int .u32 lz.r, .int .u32 lz.sv, .int .u32 lz.nx, .string lz.file, .int .i64 lz.frm, .int .i64 lz.t1, .int .i64 lz.t2, .int .i64 lz.un] := ⟨_, rfl⟩
        obtain ⟨gl, hgl⟩ : ∃ g, g = w2.heap.size := ⟨_, rfl⟩
        rw [← hgl] at hw4 ⊢
        have hown := own_laid H2.out.1 rfl hgl hw4
        rw [← hw4]
        have H4 := hid hown.1
        have HB4 := hid hown.2.1
        have HB24 := hid (bstep H2.out.2 hown.2.2)
        clear hw4 hgl hown
        have xx : w4.cell? ⟨gl, 0, none⟩ = some (.int .u32 lz.ip) ∧ w4.cell? ⟨gl, 3, none⟩ = some (.int .u32 lz.sv) ∧ w4.cell? ⟨p, 11, none⟩ = some (.int .u32 s.c.l.ip) := ⟨(cell_of_heap HB4.out.box 0).trans rfl, (cell_of_heap HB4.out.box 3).trans rfl, (HCC.out _ H4.out).1⟩
        refine wp_region_noPanic ?_
        refine wp_region_held_drew (S := fun w' => w'.cell? ⟨gl, 0, none⟩ = some (.int .u32 lz.ip) ∧ w'.cell? ⟨gl, 3, none⟩ = some (.int .u32 lz.sv) ∧ w'.cell? ⟨p, 11, none⟩ = some (.int .u32 s.c.l.ip)) (by kernel_rfl) xx (fun hHeld => ?_)
        refine wpAnyH_take (i := 0) (oi := { dst := some 13, op := .move (.tmp 7), type := _, pos := _, after := _, guard := none }) (v := .bool true) rfl (by kernel_rfl) (by kernel_rfl) (by kernel_rfl) (fun _ _ _ h => h) (Or.inl ⟨by rfl, fun wq hSw => by (try dsimp only at hSw); go_simp⟩) (by assumption) ?_
        try simp only [Act.put, List.setIfInBounds_toArray, List.set_cons_zero, List.set_cons_succ]
        refine wpAnyH_take (i := 1) (oi := { dst := some 14, op := .unOp .not 4 (.tmp 13), type := _, pos := _, after := _, guard := none }) (v := .bool false) rfl (by kernel_rfl) (by kernel_rfl) (by kernel_rfl) (fun _ _ _ h => h) (Or.inl ⟨by rfl, fun wq hSw => by (try dsimp only at hSw); go_simp⟩) (by assumption) ?_
        try simp only [Act.put, List.setIfInBounds_toArray, List.set_cons_zero, List.set_cons_succ]
        refine wpAnyH_take (i := 2) (oi := { dst := some 15, op := .move (.tmp 14), type := _, pos := _, after := _, guard := none }) (v := .bool false) rfl (by kernel_rfl) (by kernel_rfl) (by kernel_rfl) (fun _ _ _ h => h) (Or.inl ⟨by rfl, fun wq hSw => by (try dsimp only at hSw); go_simp⟩) (by assumption) ?_
        try simp only [Act.put, List.setIfInBounds_toArray, List.set_cons_zero, List.set_cons_succ]
        refine wpAnyH_take (i := 3) (oi := { dst := some 16, op := .fieldAddr 44 (.tmp 6) 0, type := _, pos := _, after := _, guard := some (2, false) }) (v := .pointer (some ⟨gl, 0, none⟩)) rfl (by kernel_rfl) (by kernel_rfl) (by kernel_rfl) (fun _ _ _ h => h) (Or.inl ⟨by rfl, fun wq hSw => by (try dsimp only at hSw); go_simp⟩) (by assumption) ?_
        try simp only [Act.put, List.setIfInBounds_toArray, List.set_cons_zero, List.set_cons_succ]
        refine wpAnyH_take (i := 4) (oi := { dst := some 17, op := .load 30 (.tmp 16), type := _, pos := _, after := _, guard := some (2, false) }) (v := .int .u32 lz.ip) rfl (by kernel_rfl) (by kernel_rfl) (by kernel_rfl) (fun _ _ _ h => h) (Or.inl ⟨by rfl, fun wq hSw => by (try dsimp only at hSw); go_simp⟩) (by assumption) ?_
        try simp only [Act.put, List.setIfInBounds_toArray, List.set_cons_zero, List.set_cons_succ]
        refine wpAnyH_take (i := 5) (oi := { dst := some 18, op := .move (.tmp 0), type := _, pos := _, after := _, guard := some (2, false) }) (v := .pointer (some ⟨p, 0, none⟩)) rfl (by kernel_rfl) (by kernel_rfl) (by kernel_rfl) (fun _ _ _ h => h) (Or.inl ⟨by rfl, fun wq hSw => by (try dsimp only at hSw); go_simp⟩) (by assumption) ?_
        try simp only [Act.put, List.setIfInBounds_toArray, List.set_cons_zero, List.set_cons_succ]
        refine wpAnyH_take (i := 6) (oi := { dst := some 19, op := .nilCheck (.tmp 18), type := _, pos := _, after := _, guard := some (2, false) }) (v := .pointer (some ⟨p, 0, none⟩)) rfl (by kernel_rfl) (by kernel_rfl) (by kernel_rfl) (fun _ _ _ h => h) (Or.inl ⟨by rfl, fun wq hSw => by (try dsimp only at hSw); go_simp⟩) (by assumption) ?_
        try simp only [Act.put, List.setIfInBounds_toArray, List.set_cons_zero, List.set_cons_succ]
        refine wpAnyH_take (i := 7) (oi := { dst := some 20, op := .fieldAddr 53 (.tmp 19) 6, type := _, pos := _, after := _, guard := some (2, false) }) (v := .pointer (some ⟨p, 11, none⟩)) rfl (by kernel_rfl) (by kernel_rfl) (by kernel_rfl) (fun _ _ _ h => h) (Or.inl ⟨by rfl, fun wq hSw => by (try dsimp only at hSw); go_simp⟩) (by assumption) ?_
        try simp only [Act.put, List.setIfInBounds_toArray, List.set_cons_zero, List.set_cons_succ]
        refine wpAnyH_take (i := 8) (oi := { dst := some 21, op := .fieldAddr 44 (.tmp 20) 0, type := _, pos := _, after := _, guard := some (2, false) }) (v := .pointer (some ⟨p, 11, none⟩)) rfl (by kernel_rfl) (by kernel_rfl) (by kernel_rfl) (fun _ _ _ h => h) (Or.inl ⟨by rfl, fun wq hSw => by (try dsimp only at hSw); go_simp⟩) (by assumption) ?_
        try simp only [Act.put, List.setIfInBounds_toArray, List.set_cons_zero, List.set_cons_succ]
        refine wpAnyH_take (i := 9) (oi := { dst := some 22, op := .load 30 (.tmp 21), type := _, pos := _, after := _, guard := some (2, false) }) (v := .int .u32 s.c.l.ip) rfl (by kernel_rfl) (by kernel_rfl) (by kernel_rfl) (fun _ _ _ h => h) (Or.inl ⟨by rfl, fun wq hSw => by (try dsimp only at hSw); go_simp⟩) (by assumption) ?_
        try simp only [Act.put, List.setIfInBounds_toArray, List.set_cons_zero, List.set_cons_succ]
        refine wpAnyH_take (i := 10) (oi := { dst := some 23, op := .binOp .neq 30 (.tmp 17) (.tmp 22) 30, type := _, pos := _, after := _, guard := some (2, false) }) (v := .bool false) rfl (by kernel_rfl) (by kernel_rfl) (by kernel_rfl) (fun _ _ _ h => h) (Or.inl ⟨by rfl, fun wq hSw => by (try dsimp only at hSw); go_simp⟩) (by assumption) ?_
        try simp only [Act.put, List.setIfInBounds_toArray, List.set_cons_zero, List.set_cons_succ]
        refine wpAnyH_take (i := 11) (oi := { dst := some 24, op := .pick (.tmp 15) (.const (.bool true)) (.tmp 23), type := _, pos := _, after := _, guard := none }) (v := .bool false) rfl (by kernel_rfl) (by kernel_rfl) (by kernel_rfl) (fun _ _ _ h => h) (Or.inl ⟨by rfl, fun wq hSw => by (try dsimp only at hSw); go_simp⟩) (by assumption) ?_
        try simp only [Act.put, List.setIfInBounds_toArray, List.set_cons_zero, List.set_cons_succ]
        refine wpAnyH_take (i := 12) (oi := { dst := some 25, op := .move (.tmp 24), type := _, pos := _, after := _, guard := none }) (v := .bool false) rfl (by kernel_rfl) (by kernel_rfl) (by kernel_rfl) (fun _ _ _ h => h) (Or.inl ⟨by rfl, fun wq hSw => by (try dsimp only at hSw); go_simp⟩) (by assumption) ?_
        try simp only [Act.put, List.setIfInBounds_toArray, List.set_cons_zero, List.set_cons_succ]
        refine wpAnyH_take (i := 13) (oi := { dst := some 26, op := .move (.tmp 0), type := _, pos := _, after := _, guard := some (12, false) }) (v := .pointer (some ⟨p, 0, none⟩)) rfl (by kernel_rfl) (by kernel_rfl) (by kernel_rfl) (fun _ _ _ h => h) (Or.inl ⟨by rfl, fun wq hSw => by (try dsimp only at hSw); go_simp⟩) (by assumption) ?_
        try simp only [Act.put, List.setIfInBounds_toArray, List.set_cons_zero, List.set_cons_succ]
        refine wpAnyH_take (i := 14) (oi := { dst := some 27, op := .fieldAddr 44 (.tmp 6) 3, type := _, pos := _, after := _, guard := some (12, false) }) (v := .pointer (some ⟨gl, 3, none⟩)) rfl (by kernel_rfl) (by kernel_rfl) (by kernel_rfl) (fun _ _ _ h => h) (Or.inl ⟨by rfl, fun wq hSw => by (try dsimp only at hSw); go_simp⟩) (by assumption) ?_
        try simp only [Act.put, List.setIfInBounds_toArray, List.set_cons_zero, List.set_cons_succ]
        refine wpAnyH_take (i := 15) (oi := { dst := some 28, op := .load 30 (.tmp 27), type := _, pos := _, after := _, guard := some (12, false) }) (v := .int .u32 lz.sv) rfl (by kernel_rfl) (by kernel_rfl) (by kernel_rfl) (fun _ _ _ h => h) (Or.inl ⟨by rfl, fun wq hSw => by (try dsimp only at hSw); go_simp⟩) (by assumption) ?_
        try simp only [Act.put, List.setIfInBounds_toArray, List.set_cons_zero, List.set_cons_succ]
        refine wpAnyH_ready (rs := [16]) (by kernel_rfl) (by simp) ?_
        refine AllReadyH.cons (o := { dst := some 29, op := .call { callee := .value (.func 34), args := #[.tmp 26, .tmp 28], argTypes := #[26, 30] }, type := _, pos := _, after := _, guard := some (12, false) }) rfl (fun K hK => ?_) AllReadyH.nil
        go_simp
        refine (HHE.out _ H4.out.drew).mono ?_
        rintro e w5 ⟨rfl, hw⟩
        subst w5
        rw [b1]
        refine hK _ _ xx (fun hHeld => ?_)
        clear hK
        try simp only [Act.put, List.setIfInBounds_toArray, List.set_cons_zero, List.set_cons_succ]
        refine wpAnyH_take (i := 17) (oi := { dst := some 30, op := .unOp .not 4 (.tmp 29), type := _, pos := _, after := _, guard := some (12, false) }) (v := .bool false) rfl (by kernel_rfl) (by kernel_rfl) (by kernel_rfl) (fun _ _ _ h => h) (Or.inl ⟨by rfl, fun wq hSw => by (try dsimp only at hSw); go_simp⟩) (by assumption) ?_
        try simp only [Act.put, List.setIfInBounds_toArray, List.set_cons_zero, List.set_cons_succ]
        refine wpAnyH_take (i := 18) (oi := { dst := some 31, op := .pick (.tmp 25) (.const (.bool true)) (.tmp 30), type := _, pos := _, after := _, guard := none }) (v := .bool false) rfl (by kernel_rfl) (by kernel_rfl) (by kernel_rfl) (fun _ _ _ h => h) (Or.inl ⟨by rfl, fun wq hSw => by (try dsimp only at hSw); go_simp⟩) (by assumption) ?_
        try simp only [Act.put, List.setIfInBounds_toArray, List.set_cons_zero, List.set_cons_succ]
        refine wpAnyH_done (by kernel_rfl) ?_ _
        refine NoPanic.normal ?_
        clear xx hHeld
        have H4d := hid H4.out.drew
        have HBE := hid (HB24.out.drew.drew)
        have HBE := hid (HB24.out.drew.drew)
        go_upto_region 5 with (first
          | (go_at_call 26; refine (HHO.out _ H4d.out).mono ?_; rintro e w5 ⟨rfl, hw⟩; subst w5)
          | fail)
        have HB4d : Hid (LbS wt gl #[.int .u32 lz.ip, .int .u32 lz.m, .int .u32 lz.r, .int .u32 lz.sv, .int .u32 lz.nx, .string lz.file, .int .i64 lz.frm, .int .i64 lz.t1, .int .i64 lz.t2, .int .i64 lz.un] w4.drew) := ⟨HB4.out.box, HB4.out.low⟩
        have HS5 : Hid (∀ W, LC W0 p pd gA ab s wt W → LbS wt gl #[.int .u32 lz.ip, .int .u32 lz.m, .int .u32 lz.r, .int .u32 lz.sv, .int .u32 lz.nx, .string lz.file, .int .i64 lz.frm, .int .i64 lz.t1, .int .i64 lz.t2, .int .i64 lz.un] W → W.rangeAt gl 0 [.int .u32 lz.ip, .int .u32 lz.m, .int .u32 lz.r, .int .u32 lz.sv, .int .u32 lz.nx, .string lz.file, .int .i64 lz.frm, .int .i64 lz.t1, .int .i64 lz.t2, .int .i64 lz.un] ∧ W.rangeAt mb 0 [.int .i64 m.op, .int .i64 m.hops, .int .u32 m.xid, .int .i64 m.secs, .bool m.all, .int .u32 m.ci, .int .u32 m.yi, .int .u32 m.si, .int .u32 m.gi, .int .u8 m.mac.b0, .int .u8 m.mac.b1, .int .u8 m.mac.b2, .int .u8 m.mac.b3, .int .u8 m.mac.b4, .int .u8 m.mac.b5, .string m.sname, .string m.file, .slice a n c] ∧ W.cell? ⟨p, 9, none⟩ = some (.int .i64 s.c.beg)) := fun W hW hB => ⟨fun j v hj => by rw [Nat.zero_add, cell_of_heap hB.box, ← Array.getElem?_toList]; exact hj, fun j v hj => by rw [Nat.zero_add, cell_of_heap (HMS.out _ _ hW), ← Array.getElem?_toList]; exact hj, (HCC.out _ hW).2.2⟩
        have xx := HS5.out _ H4d.out HB4d.out
        refine wp_region_noPanic ?_
        refine wp_region_last (S := fun w' => w'.rangeAt gl 0 [.int .u32 lz.ip, .int .u32 lz.m, .int .u32 lz.r, .int .u32 lz.sv, .int .u32 lz.nx, .string lz.file, .int .i64 lz.frm, .int .i64 lz.t1, .int .i64 lz.t2, .int .i64 lz.un] ∧ w'.rangeAt mb 0 [.int .i64 m.op, .int .i64 m.hops, .int .u32 m.xid, .int .i64 m.secs, .bool m.all, .int .u32 m.ci, .int .u32 m.yi, .int .u32 m.si, .int .u32 m.gi, .int .u8 m.mac.b0, .int .u8 m.mac.b1, .int .u8 m.mac.b2, .int .u8 m.mac.b3, .int .u8 m.mac.b4, .int .u8 m.mac.b5, .string m.sname, .string m.file, .slice a n c] ∧ w'.cell? ⟨p, 9, none⟩ = some (.int .i64 s.c.beg)) 7 (by kernel_rfl) xx (fun hHeld => ?_)
        refine wpLast_take (i := 0) (n := 12) (oi := { dst := some 45, op := .load 44 (.tmp 6), type := _, pos := _, after := _, guard := none }) (v := .agg #[.int .u32 lz.ip, .int .u32 lz.m, .int .u32 lz.r, .int .u32 lz.sv, .int .u32 lz.nx, .string lz.file, .int .i64 lz.frm, .int .i64 lz.t1, .int .i64 lz.t2, .int .i64 lz.un]) rfl (by kernel_rfl) (by kernel_rfl) (by kernel_rfl) (by kernel_rfl) (fun _ _ _ h => h) (yieldsIf_load_mid (by rfl) 44 (.tmp 6) rfl gl 0 rfl [.int .u32 lz.ip, .int .u32 lz.m, .int .u32 lz.r, .int .u32 lz.sv, .int .u32 lz.nx, .string lz.file, .int .i64 lz.frm, .int .i64 lz.t1, .int .i64 lz.t2, .int .i64 lz.un] _ (fun w hS => hS.1) Try.underlying44 rfl infoLs) (by assumption) ?_
        try simp only [Act.put, List.setIfInBounds_toArray, List.set_cons_zero, List.set_cons_succ]
        refine wpLast_take (i := 1) (n := 12) (oi := { dst := some 46, op := .load 41 (.tmp 4), type := _, pos := _, after := _, guard := none }) (v := .agg #[.int .i64 m.op, .int .i64 m.hops, .int .u32 m.xid, .int .i64 m.secs, .bool m.all, .int .u32 m.ci, .int .u32 m.yi, .int .u32 m.si, .int .u32 m.gi, .int .u8 m.mac.b0, .int .u8 m.mac.b1, .int .u8 m.mac.b2, .int .u8 m.mac.b3, .int .u8 m.mac.b4, .int .u8 m.mac.b5, .string m.sname, .string m.file, .slice a n c]) rfl (by kernel_rfl) (by kernel_rfl) (by kernel_rfl) (by kernel_rfl) (fun _ _ _ h => h) (yieldsIf_load_mid (by rfl) 41 (.tmp 4) rfl mb 0 rfl [.int .i64 m.op, .int .i64 m.hops, .int .u32 m.xid, .int .i64 m.secs, .bool m.all, .int .u32 m.ci, .int .u32 m.yi, .int .u32 m.si, .int .u32 m.gi, .int .u8 m.mac.b0, .int .u8 m.mac.b1, .int .u8 m.mac.b2, .int .u8 m.mac.b3, .int .u8 m.mac.b4, .int .u8 m.mac.b5, .string m.sname, .string m.file, .slice a n c] _ (fun w hS => hS.2.1) Try.underlying41 rfl sizeBp) (by assumption) ?_
        try simp only [Act.put, List.setIfInBounds_toArray, List.set_cons_zero, List.set_cons_succ]
        refine wpLast_take (i := 2) (n := 12) (oi := { dst := some 47, op := .move (.tmp 0), type := _, pos := _, after := _, guard := none }) (v := .pointer (some ⟨p, 0, none⟩)) rfl (by kernel_rfl) (by kernel_rfl) (by kernel_rfl) (by kernel_rfl) (fun _ _ _ h => h) (Or.inl ⟨by rfl, fun wq hSw => by (try dsimp only at hSw); go_simp⟩) (by assumption) ?_
        try simp only [Act.put, List.setIfInBounds_toArray, List.set_cons_zero, List.set_cons_succ]
        refine wpLast_take (i := 3) (n := 12) (oi := { dst := some 48, op := .nilCheck (.tmp 47), type := _, pos := _, after := _, guard := none }) (v := .pointer (some ⟨p, 0, none⟩)) rfl (by kernel_rfl) (by kernel_rfl) (by kernel_rfl) (by kernel_rfl) (fun _ _ _ h => h) (Or.inl ⟨by rfl, fun wq hSw => by (try dsimp only at hSw); go_simp⟩) (by assumption) ?_
        try simp only [Act.put, List.setIfInBounds_toArray, List.set_cons_zero, List.set_cons_succ]
        refine wpLast_take (i := 4) (n := 12) (oi := { dst := some 49, op := .fieldAddr 53 (.tmp 48) 4, type := _, pos := _, after := _, guard := none }) (v := .pointer (some ⟨p, 9, none⟩)) rfl (by kernel_rfl) (by kernel_rfl) (by kernel_rfl) (by kernel_rfl) (fun _ _ _ h => h) (Or.inl ⟨by rfl, fun wq hSw => by (try dsimp only at hSw); go_simp⟩) (by assumption) ?_
        try simp only [Act.put, List.setIfInBounds_toArray, List.set_cons_zero, List.set_cons_succ]
        refine wpLast_take (i := 5) (n := 12) (oi := { dst := some 50, op := .load 3 (.tmp 49), type := _, pos := _, after := _, guard := none }) (v := .int .i64 s.c.beg) rfl (by kernel_rfl) (by kernel_rfl) (by kernel_rfl) (by kernel_rfl) (fun _ _ _ h => h) (Or.inl ⟨by rfl, fun wq hSw => by (try dsimp only at hSw); go_simp⟩) (by assumption) ?_
        try simp only [Act.put, List.setIfInBounds_toArray, List.set_cons_zero, List.set_cons_succ]
        refine wpLast_one (i := 6) (o := { dst := some 51, op := .call { callee := .value (.func 36), args := #[.tmp 45, .tmp 46, .tmp 50], argTypes := #[44, 41, 3] }, type := _, pos := _, after := _, guard := none }) (by kernel_rfl) rfl (fun K hK => ?_)
        go_simp
        refine (HTD.out _ _ HBB.out H4d.out.drew HBE.out).mono ?_
        rw [← HTL.out]
        rintro e w6 ⟨rfl, H6, HB6⟩
        have HL6 := hid (HB4d.out.stay (Stay.of_below ((Below.refl _ _).drew.trans HB6.out)))
        refine hK _ _ (Or.inr (HS5.out _ H6.out HL6.out)) ?_
        clear hK
        try simp only [Act.put, List.setIfInBounds_toArray, List.set_cons_zero, List.set_cons_succ]
        refine wpLast_one (i := 7) (o := { dst := none, op := .store 44 (.tmp 6) (.tmp 51), type := _, pos := _, after := _, guard := none }) (by kernel_rfl) rfl (fun K hK => ?_)
        refine step_store_row rfl 44 _ _ rfl gl #[.int .u32 tl.ip, .int .u32 tl.m, .int .u32 tl.r, .int .u32 tl.sv, .int .u32 tl.nx, .string tl.file, .int .i64 tl.frm, .int .i64 tl.t1, .int .i64 tl.t2, .int .i64 tl.un] rfl rfl 44 _ HL6.out.box infoLs rfl (by simp [Value.oneCell']) ?_
        intro w8 HG8 HB8
        have H8 := hid (LC.own HZS.out H6.out HL6.out HB8.out)
        have HL8 : Hid (LbS wt gl #[.int .u32 tl.ip, .int .u32 tl.m, .int .u32 tl.r, .int .u32 tl.sv, .int .u32 tl.nx, .string tl.file, .int .i64 tl.frm, .int .i64 tl.t1, .int .i64 tl.t2, .int .i64 tl.un] w8) := ⟨HG8.out, HL6.out.low⟩
        refine hK _ _ (Or.inl rfl) ?_
        clear hK
        try simp only [Act.put, List.setIfInBounds_toArray, List.set_cons_zero, List.set_cons_succ]
        refine wpLast_done (by kernel_rfl) ?_ _
        refine NoPanic.normal ?_
        have c9 : w8.cell? ⟨gl, 9, none⟩ = some (.int .i64 tl.un) := (cell_of_heap HL8.out.box 9).trans rfl
        have ct := HCT.out _ _ H8.out
        clear HG8 HB8 HL6 HB6 HB4d HBE xx hHeld HS5
        go_wp2_with (first
          | (go_at_call 30; refine (HDU.out _ _ H8.out).mono ?_; rintro e w9 ⟨rfl, hw⟩; subst w9; rw [d1])
          | (refine wpList_load_row rfl 44 _ rfl gl rfl 44 #[.int .u32 tl.ip, .int .u32 tl.m, .int .u32 tl.r, .int .u32 tl.sv, .int .u32 tl.nx, .string tl.file, .int .i64 tl.frm, .int .i64 tl.t1, .int .i64 tl.t2, .int .i64 tl.un] (0, 0) _ (by exact HL8.out.box) Try.underlying44 rfl infoLs ?_)
          | (go_at_call 37; refine (HAD.out _ tl HTO.out H8.out).mono ?_; rintro e w9 ⟨rfl, H9⟩)
          | fail)
        go_end0
        exact ⟨rfl, HL.out.trans H9.out⟩
    · rw [if_neg h4]
      rw [decide_eq_false h4] at HHO
      clear h4
      have HPA := HTOK.out _ HK.out HAB.out
      rw [← HTA.out] at HPA ⊢
      have HTO := hid HPA
      clear HPA
      go_enter Try.func24, Try.ntmps24
      go_upto_region 1 with (fail)
      rw [← hwm, ← hmb, ← htb, ← hwt]
      clear hwm hmb hwt htb
      go_upto_region 2 with (first
      | (refine wpList_load_row rfl 41 _ rfl mb rfl 41 #[.int .i64 m.op, .int .i64 m.hops, .int .u32 m.xid, .int .i64 m.secs, .bool m.all, .int .u32 m.ci, .int .u32 m.yi, .int .u32 m.si, .int .u32 m.gi, .int .u8 m.mac.b0, .int .u8 m.mac.b1, .int .u8 m.mac.b2, .int .u8 m.mac.b3, .int .u8 m.mac.b4, .int .u8 m.mac.b5, .string m.sname, .string m.file, .slice a n c] (0, 0) _ (by exact HM.out) Try.underlying41 rfl sizeBp ?_)
      | (go_at_call 33; refine HRD.out.mono ?_; rintro e w2 ⟨rfl, H2⟩)
      | (refine wpList_alloc_to rfl 44 rfl #[.int .u32 0, .int .u32 0, .int .u32 0, .int .u32 0, .int .u32 0, .string noText, .int .i64 0, .int .i64 0, .int .i64 0, .int .i64 0] zeroLs ?_)
      | (refine wpList_store_row rfl 44 _ _ rfl w2.heap.size #[.int .u32 lz.ip, .int .u32 lz.m, .int .u32 lz.r, .int .u32 lz.sv, .int .u32 lz.nx, .string lz.file, .int .i64 lz.frm, .int .i64 lz.t1, .int .i64 lz.t2, .int .i64 lz.un] rfl rfl 44 _ (heap_new w2 _) infoLs rfl (by simp [Value.oneCell']) ?_)
      | fail)
      obtain ⟨w4, hw4⟩ : ∃ W, W = (w2.alloc (.cells #[.int .u32 0, .int .u32 0, .int .u32 0, .int .u32 0, .int .u32 0, .string noText, .int .i64 0, .int .i64 0, .int .i64 0, .int .i64 0] 44)).setRow w2.heap.size #[.int .u32 lz.ip, .int .u32 lz.m, .int .u32 lz.r, .int .u32 lz.sv, .int .u32 lz.nx, .string lz.file, .int .i64 lz.frm, .int .i64 lz.t1, .int .i64 lz.t2, .int .i64 lz.un] := ⟨_, rfl⟩
      obtain ⟨gl, hgl⟩ : ∃ g, g = w2.heap.size := ⟨_, rfl⟩
      rw [← hgl] at hw4 ⊢
      have hown := own_laid H2.out.1 rfl hgl hw4
      rw [← hw4]
      have H4 := hid hown.1
      have HB4 := hid hown.2.1
      have HB24 := hid (bstep H2.out.2 hown.2.2)
      clear hw4 hgl hown
      have xx : w4.cell? ⟨gl, 0, none⟩ = some (.int .u32 lz.ip) ∧ w4.cell? ⟨gl, 3, none⟩ = some (.int .u32 lz.sv) ∧ w4.cell? ⟨p, 11, none⟩ = some (.int .u32 s.c.l.ip) := ⟨(cell_of_heap HB4.out.box 0).trans rfl, (cell_of_heap HB4.out.box 3).trans rfl, (HCC.out _ H4.out).1⟩
      refine wp_region_noPanic ?_
      refine wp_region_held_drew (S := fun w' => w'.cell? ⟨gl, 0, none⟩ = some (.int .u32 lz.ip) ∧ w'.cell? ⟨gl, 3, none⟩ = some (.int .u32 lz.sv) ∧ w'.cell? ⟨p, 11, none⟩ = some (.int .u32 s.c.l.ip)) (by kernel_rfl) xx (fun hHeld => ?_)
      refine wpAnyH_take (i := 0) (oi := { dst := some 13, op := .move (.tmp 7), type := _, pos := _, after := _, guard := none }) (v := .bool true) rfl (by kernel_rfl) (by kernel_rfl) (by kernel_rfl) (fun _ _ _ h => h) (Or.inl ⟨by rfl, fun wq hSw => by (try dsimp only at hSw); go_simp⟩) (by assumption) ?_
      try simp only [Act.put, List.setIfInBounds_toArray, List.set_cons_zero, List.set_cons_succ]
      refine wpAnyH_take (i := 1) (oi := { dst := some 14, op := .unOp .not 4 (.tmp 13), type := _, pos := _, after := _, guard := none }) (v := .bool false) rfl (by kernel_rfl) (by kernel_rfl) (by kernel_rfl) (fun _ _ _ h => h) (Or.inl ⟨by rfl, fun wq hSw => by (try dsimp only at hSw); go_simp⟩) (by assumption) ?_
      try simp only [Act.put, List.setIfInBounds_toArray, List.set_cons_zero, List.set_cons_succ]
      refine wpAnyH_take (i := 2) (oi := { dst := some 15, op := .move (.tmp 14), type := _, pos := _, after := _, guard := none }) (v := .bool false) rfl (by kernel_rfl) (by kernel_rfl) (by kernel_rfl) (fun _ _ _ h => h) (Or.inl ⟨by rfl, fun wq hSw => by (try dsimp only at hSw); go_simp⟩) (by assumption) ?_
      try simp only [Act.put, List.setIfInBounds_toArray, List.set_cons_zero, List.set_cons_succ]
      refine wpAnyH_take (i := 3) (oi := { dst := some 16, op := .fieldAddr 44 (.tmp 6) 0, type := _, pos := _, after := _, guard := some (2, false) }) (v := .pointer (some ⟨gl, 0, none⟩)) rfl (by kernel_rfl) (by kernel_rfl) (by kernel_rfl) (fun _ _ _ h => h) (Or.inl ⟨by rfl, fun wq hSw => by (try dsimp only at hSw); go_simp⟩) (by assumption) ?_
      try simp only [Act.put, List.setIfInBounds_toArray, List.set_cons_zero, List.set_cons_succ]
      refine wpAnyH_take (i := 4) (oi := { dst := some 17, op := .load 30 (.tmp 16), type := _, pos := _, after := _, guard := some (2, false) }) (v := .int .u32 lz.ip) rfl (by kernel_rfl) (by kernel_rfl) (by kernel_rfl) (fun _ _ _ h => h) (Or.inl ⟨by rfl, fun wq hSw => by (try dsimp only at hSw); go_simp⟩) (by assumption) ?_
      try simp only [Act.put, List.setIfInBounds_toArray, List.set_cons_zero, List.set_cons_succ]
      refine wpAnyH_take (i := 5) (oi := { dst := some 18, op := .move (.tmp 0), type := _, pos := _, after := _, guard := some (2, false) }) (v := .pointer (some ⟨p, 0, none⟩)) rfl (by kernel_rfl) (by kernel_rfl) (by kernel_rfl) (fun _ _ _ h => h) (Or.inl ⟨by rfl, fun wq hSw => by (try dsimp only at hSw); go_simp⟩) (by assumption) ?_
      try simp only [Act.put, List.setIfInBounds_toArray, List.set_cons_zero, List.set_cons_succ]
      refine wpAnyH_take (i := 6) (oi := { dst := some 19, op := .nilCheck (.tmp 18), type := _, pos := _, after := _, guard := some (2, false) }) (v := .pointer (some ⟨p, 0, none⟩)) rfl (by kernel_rfl) (by kernel_rfl) (by kernel_rfl) (fun _ _ _ h => h) (Or.inl ⟨by rfl, fun wq hSw => by (try dsimp only at hSw); go_simp⟩) (by assumption) ?_
      try simp only [Act.put, List.setIfInBounds_toArray, List.set_cons_zero, List.set_cons_succ]
      refine wpAnyH_take (i := 7) (oi := { dst := some 20, op := .fieldAddr 53 (.tmp 19) 6, type := _, pos := _, after := _, guard := some (2, false) }) (v := .pointer (some ⟨p, 11, none⟩)) rfl (by kernel_rfl) (by kernel_rfl) (by kernel_rfl) (fun _ _ _ h => h) (Or.inl ⟨by rfl, fun wq hSw => by (try dsimp only at hSw); go_simp⟩) (by assumption) ?_
      try simp only [Act.put, List.setIfInBounds_toArray, List.set_cons_zero, List.set_cons_succ]
      refine wpAnyH_take (i := 8) (oi := { dst := some 21, op := .fieldAddr 44 (.tmp 20) 0, type := _, pos := _, after := _, guard := some (2, false) }) (v := .pointer (some ⟨p, 11, none⟩)) rfl (by kernel_rfl) (by kernel_rfl) (by kernel_rfl) (fun _ _ _ h => h) (Or.inl ⟨by rfl, fun wq hSw => by (try dsimp only at hSw); go_simp⟩) (by assumption) ?_
      try simp only [Act.put, List.setIfInBounds_toArray, List.set_cons_zero, List.set_cons_succ]
      refine wpAnyH_take (i := 9) (oi := { dst := some 22, op := .load 30 (.tmp 21), type := _, pos := _, after := _, guard := some (2, false) }) (v := .int .u32 s.c.l.ip) rfl (by kernel_rfl) (by kernel_rfl) (by kernel_rfl) (fun _ _ _ h => h) (Or.inl ⟨by rfl, fun wq hSw => by (try dsimp only at hSw); go_simp⟩) (by assumption) ?_
      try simp only [Act.put, List.setIfInBounds_toArray, List.set_cons_zero, List.set_cons_succ]
      refine wpAnyH_take (i := 10) (oi := { dst := some 23, op := .binOp .neq 30 (.tmp 17) (.tmp 22) 30, type := _, pos := _, after := _, guard := some (2, false) }) (v := .bool false) rfl (by kernel_rfl) (by kernel_rfl) (by kernel_rfl) (fun _ _ _ h => h) (Or.inl ⟨by rfl, fun wq hSw => by (try dsimp only at hSw); go_simp⟩) (by assumption) ?_
      try simp only [Act.put, List.setIfInBounds_toArray, List.set_cons_zero, List.set_cons_succ]
      refine wpAnyH_take (i := 11) (oi := { dst := some 24, op := .pick (.tmp 15) (.const (.bool true)) (.tmp 23), type := _, pos := _, after := _, guard := none }) (v := .bool false) rfl (by kernel_rfl) (by kernel_rfl) (by kernel_rfl) (fun _ _ _ h => h) (Or.inl ⟨by rfl, fun wq hSw => by (try dsimp only at hSw); go_simp⟩) (by assumption) ?_
      try simp only [Act.put, List.setIfInBounds_toArray, List.set_cons_zero, List.set_cons_succ]
      refine wpAnyH_take (i := 12) (oi := { dst := some 25, op := .move (.tmp 24), type := _, pos := _, after := _, guard := none }) (v := .bool false) rfl (by kernel_rfl) (by kernel_rfl) (by kernel_rfl) (fun _ _ _ h => h) (Or.inl ⟨by rfl, fun wq hSw => by (try dsimp only at hSw); go_simp⟩) (by assumption) ?_
      try simp only [Act.put, List.setIfInBounds_toArray, List.set_cons_zero, List.set_cons_succ]
      refine wpAnyH_take (i := 13) (oi := { dst := some 26, op := .move (.tmp 0), type := _, pos := _, after := _, guard := some (12, false) }) (v := .pointer (some ⟨p, 0, none⟩)) rfl (by kernel_rfl) (by kernel_rfl) (by kernel_rfl) (fun _ _ _ h => h) (Or.inl ⟨by rfl, fun wq hSw => by (try dsimp only at hSw); go_simp⟩) (by assumption) ?_
      try simp only [Act.put, List.setIfInBounds_toArray, List.set_cons_zero, List.set_cons_succ]
      refine wpAnyH_take (i := 14) (oi := { dst := some 27, op := .fieldAddr 44 (.tmp 6) 3, type := _, pos := _, after := _, guard := some (12, false) }) (v := .pointer (some ⟨gl, 3, none⟩)) rfl (by kernel_rfl) (by kernel_rfl) (by kernel_rfl) (fun _ _ _ h => h) (Or.inl ⟨by rfl, fun wq hSw => by (try dsimp only at hSw); go_simp⟩) (by assumption) ?_
      try simp only [Act.put, List.setIfInBounds_toArray, List.set_cons_zero, List.set_cons_succ]
      refine wpAnyH_take (i := 15) (oi := { dst := some 28, op := .load 30 (.tmp 27), type := _, pos := _, after := _, guard := some (12, false) }) (v := .int .u32 lz.sv) rfl (by kernel_rfl) (by kernel_rfl) (by kernel_rfl) (fun _ _ _ h => h) (Or.inl ⟨by rfl, fun wq hSw => by (try dsimp only at hSw); go_simp⟩) (by assumption) ?_
      try simp only [Act.put, List.setIfInBounds_toArray, List.set_cons_zero, List.set_cons_succ]
      refine wpAnyH_ready (rs := [16]) (by kernel_rfl) (by simp) ?_
      refine AllReadyH.cons (o := { dst := some 29, op := .call { callee := .value (.func 34), args := #[.tmp 26, .tmp 28], argTypes := #[26, 30] }, type := _, pos := _, after := _, guard := some (12, false) }) rfl (fun K hK => ?_) AllReadyH.nil
      go_simp
      refine (HHE.out _ H4.out.drew).mono ?_
      rintro e w5 ⟨rfl, hw⟩
      subst w5
      rw [b1]
      refine hK _ _ xx (fun hHeld => ?_)
      clear hK
      try simp only [Act.put, List.setIfInBounds_toArray, List.set_cons_zero, List.set_cons_succ]
      refine wpAnyH_take (i := 17) (oi := { dst := some 30, op := .unOp .not 4 (.tmp 29), type := _, pos := _, after := _, guard := some (12, false) }) (v := .bool false) rfl (by kernel_rfl) (by kernel_rfl) (by kernel_rfl) (fun _ _ _ h => h) (Or.inl ⟨by rfl, fun wq hSw => by (try dsimp only at hSw); go_simp⟩) (by assumption) ?_
      try simp only [Act.put, List.setIfInBounds_toArray, List.set_cons_zero, List.set_cons_succ]
      refine wpAnyH_take (i := 18) (oi := { dst := some 31, op := .pick (.tmp 25) (.const (.bool true)) (.tmp 30), type := _, pos := _, after := _, guard := none }) (v := .bool false) rfl (by kernel_rfl) (by kernel_rfl) (by kernel_rfl) (fun _ _ _ h => h) (Or.inl ⟨by rfl, fun wq hSw => by (try dsimp only at hSw); go_simp⟩) (by assumption) ?_
      try simp only [Act.put, List.setIfInBounds_toArray, List.set_cons_zero, List.set_cons_succ]
      refine wpAnyH_done (by kernel_rfl) ?_ _
      refine NoPanic.normal ?_
      clear xx hHeld
      have H4d := hid H4.out.drew
      have HBE := hid (HB24.out.drew.drew)
      go_upto_region 4 with (first
        | (go_at_call 26; refine (HHO.out _ H4d.out).mono ?_; rintro e w5 ⟨rfl, hw⟩; subst w5)
        | fail)
      have HS4 : Hid (∀ W, LC W0 p pd gA ab s wt W → LbS wt gl #[.int .u32 lz.ip, .int .u32 lz.m, .int .u32 lz.r, .int .u32 lz.sv, .int .u32 lz.nx, .string lz.file, .int .i64 lz.frm, .int .i64 lz.t1, .int .i64 lz.t2, .int .i64 lz.un] W → W.rangeAt gl 0 [.int .u32 lz.ip, .int .u32 lz.m, .int .u32 lz.r, .int .u32 lz.sv, .int .u32 lz.nx, .string lz.file, .int .i64 lz.frm, .int .i64 lz.t1, .int .i64 lz.t2, .int .i64 lz.un] ∧ W.rangeAt mb 0 [.int .i64 m.op, .int .i64 m.hops, .int .u32 m.xid, .int .i64 m.secs, .bool m.all, .int .u32 m.ci, .int .u32 m.yi, .int .u32 m.si, .int .u32 m.gi, .int .u8 m.mac.b0, .int .u8 m.mac.b1, .int .u8 m.mac.b2, .int .u8 m.mac.b3, .int .u8 m.mac.b4, .int .u8 m.mac.b5, .string m.sname, .string m.file, .slice a n c] ∧ W.cell? ⟨p, 10, none⟩ = some (.int .i64 s.c.ask) ∧ (∀ q, W.cell? ⟨tb, q, none⟩ = (#[.pointer (some ⟨pd, 0, none⟩), .func (.func 27) #[] #[.pointer (some ⟨gA, 0, none⟩)]] : Array Value)[q]?)) := fun W hW hB => ⟨fun j v hj => by rw [Nat.zero_add, cell_of_heap hB.box, ← Array.getElem?_toList]; exact hj, fun j v hj => by rw [Nat.zero_add, cell_of_heap (HMS.out _ _ hW), ← Array.getElem?_toList]; exact hj, (HCC.out _ hW).2.1, HCT.out _ _ hW⟩
      have HB4d : Hid (LbS wt gl #[.int .u32 lz.ip, .int .u32 lz.m, .int .u32 lz.r, .int .u32 lz.sv, .int .u32 lz.nx, .string lz.file, .int .i64 lz.frm, .int .i64 lz.t1, .int .i64 lz.t2, .int .i64 lz.un] w4.drew) := ⟨HB4.out.box, HB4.out.low⟩
      have xx := HS4.out _ H4d.out HB4d.out
      refine wp_region_noPanic ?_
      refine wp_region_last (S := fun w' => w'.rangeAt gl 0 [.int .u32 lz.ip, .int .u32 lz.m, .int .u32 lz.r, .int .u32 lz.sv, .int .u32 lz.nx, .string lz.file, .int .i64 lz.frm, .int .i64 lz.t1, .int .i64 lz.t2, .int .i64 lz.un] ∧ w'.rangeAt mb 0 [.int .i64 m.op, .int .i64 m.hops, .int .u32 m.xid, .int .i64 m.secs, .bool m.all, .int .u32 m.ci, .int .u32 m.yi, .int .u32 m.si, .int .u32 m.gi, .int .u8 m.mac.b0, .int .u8 m.mac.b1, .int .u8 m.mac.b2, .int .u8 m.mac.b3, .int .u8 m.mac.b4, .int .u8 m.mac.b5, .string m.sname, .string m.file, .slice a n c] ∧ w'.cell? ⟨p, 10, none⟩ = some (.int .i64 s.c.ask) ∧ (∀ q, w'.cell? ⟨tb, q, none⟩ = (#[.pointer (some ⟨pd, 0, none⟩), .func (.func 27) #[] #[.pointer (some ⟨gA, 0, none⟩)]] : Array Value)[q]?)) 9 (by kernel_rfl) xx (fun hHeld => ?_)
      refine wpLast_take (i := 0) (n := 12) (oi := { dst := some 35, op := .move (.tmp 0), type := _, pos := _, after := _, guard := none }) (v := .pointer (some ⟨p, 0, none⟩)) rfl (by kernel_rfl) (by kernel_rfl) (by kernel_rfl) (by kernel_rfl) (fun _ _ _ h => h) (Or.inl ⟨by rfl, fun wq hSw => by (try dsimp only at hSw); go_simp⟩) (by assumption) ?_
      try simp only [Act.put, List.setIfInBounds_toArray, List.set_cons_zero, List.set_cons_succ]
      refine wpLast_take (i := 1) (n := 12) (oi := { dst := some 36, op := .load 44 (.tmp 6), type := _, pos := _, after := _, guard := none }) (v := .agg #[.int .u32 lz.ip, .int .u32 lz.m, .int .u32 lz.r, .int .u32 lz.sv, .int .u32 lz.nx, .string lz.file, .int .i64 lz.frm, .int .i64 lz.t1, .int .i64 lz.t2, .int .i64 lz.un]) rfl (by kernel_rfl) (by kernel_rfl) (by kernel_rfl) (by kernel_rfl) (fun _ _ _ h => h) (yieldsIf_load_mid (by rfl) 44 (.tmp 6) rfl gl 0 rfl [.int .u32 lz.ip, .int .u32 lz.m, .int .u32 lz.r, .int .u32 lz.sv, .int .u32 lz.nx, .string lz.file, .int .i64 lz.frm, .int .i64 lz.t1, .int .i64 lz.t2, .int .i64 lz.un] _ (fun w hS => hS.1) Try.underlying44 rfl infoLs) (by assumption) ?_
      try simp only [Act.put, List.setIfInBounds_toArray, List.set_cons_zero, List.set_cons_succ]
      refine wpLast_take (i := 2) (n := 12) (oi := { dst := some 37, op := .load 41 (.tmp 4), type := _, pos := _, after := _, guard := none }) (v := .agg #[.int .i64 m.op, .int .i64 m.hops, .int .u32 m.xid, .int .i64 m.secs, .bool m.all, .int .u32 m.ci, .int .u32 m.yi, .int .u32 m.si, .int .u32 m.gi, .int .u8 m.mac.b0, .int .u8 m.mac.b1, .int .u8 m.mac.b2, .int .u8 m.mac.b3, .int .u8 m.mac.b4, .int .u8 m.mac.b5, .string m.sname, .string m.file, .slice a n c]) rfl (by kernel_rfl) (by kernel_rfl) (by kernel_rfl) (by kernel_rfl) (fun _ _ _ h => h) (yieldsIf_load_mid (by rfl) 41 (.tmp 4) rfl mb 0 rfl [.int .i64 m.op, .int .i64 m.hops, .int .u32 m.xid, .int .i64 m.secs, .bool m.all, .int .u32 m.ci, .int .u32 m.yi, .int .u32 m.si, .int .u32 m.gi, .int .u8 m.mac.b0, .int .u8 m.mac.b1, .int .u8 m.mac.b2, .int .u8 m.mac.b3, .int .u8 m.mac.b4, .int .u8 m.mac.b5, .string m.sname, .string m.file, .slice a n c] _ (fun w hS => hS.2.1) Try.underlying41 rfl sizeBp) (by assumption) ?_
      try simp only [Act.put, List.setIfInBounds_toArray, List.set_cons_zero, List.set_cons_succ]
      refine wpLast_take (i := 3) (n := 12) (oi := { dst := some 38, op := .move (.tmp 0), type := _, pos := _, after := _, guard := none }) (v := .pointer (some ⟨p, 0, none⟩)) rfl (by kernel_rfl) (by kernel_rfl) (by kernel_rfl) (by kernel_rfl) (fun _ _ _ h => h) (Or.inl ⟨by rfl, fun wq hSw => by (try dsimp only at hSw); go_simp⟩) (by assumption) ?_
      try simp only [Act.put, List.setIfInBounds_toArray, List.set_cons_zero, List.set_cons_succ]
      refine wpLast_take (i := 4) (n := 12) (oi := { dst := some 39, op := .nilCheck (.tmp 38), type := _, pos := _, after := _, guard := none }) (v := .pointer (some ⟨p, 0, none⟩)) rfl (by kernel_rfl) (by kernel_rfl) (by kernel_rfl) (by kernel_rfl) (fun _ _ _ h => h) (Or.inl ⟨by rfl, fun wq hSw => by (try dsimp only at hSw); go_simp⟩) (by assumption) ?_
      try simp only [Act.put, List.setIfInBounds_toArray, List.set_cons_zero, List.set_cons_succ]
      refine wpLast_take (i := 5) (n := 12) (oi := { dst := some 40, op := .fieldAddr 53 (.tmp 39) 5, type := _, pos := _, after := _, guard := none }) (v := .pointer (some ⟨p, 10, none⟩)) rfl (by kernel_rfl) (by kernel_rfl) (by kernel_rfl) (by kernel_rfl) (fun _ _ _ h => h) (Or.inl ⟨by rfl, fun wq hSw => by (try dsimp only at hSw); go_simp⟩) (by assumption) ?_
      try simp only [Act.put, List.setIfInBounds_toArray, List.set_cons_zero, List.set_cons_succ]
      refine wpLast_take (i := 6) (n := 12) (oi := { dst := some 41, op := .load 3 (.tmp 40), type := _, pos := _, after := _, guard := none }) (v := .int .i64 s.c.ask) rfl (by kernel_rfl) (by kernel_rfl) (by kernel_rfl) (by kernel_rfl) (fun _ _ _ h => h) (Or.inl ⟨by rfl, fun wq hSw => by (try dsimp only at hSw); go_simp⟩) (by assumption) ?_
      try simp only [Act.put, List.setIfInBounds_toArray, List.set_cons_zero, List.set_cons_succ]
      refine wpLast_take (i := 8) (n := 12) (oi := { dst := some 43, op := .load 60 (.tmp 5), type := _, pos := _, after := _, guard := none }) (v := .agg (#[.pointer (some ⟨pd, 0, none⟩), .func (.func 27) #[] #[.pointer (some ⟨gA, 0, none⟩)]] : Array Value)) rfl (by kernel_rfl) (by kernel_rfl) (by kernel_rfl) (by kernel_rfl) (fun _ _ _ h => h) (Or.inl ⟨by rfl, fun wq hSw => by (try dsimp only at hSw); go_simp⟩) (by assumption) ?_
      try simp only [Act.put, List.setIfInBounds_toArray, List.set_cons_zero, List.set_cons_succ]
      refine wpLast_one (i := 7) (o := { dst := some 42, op := .call { callee := .value (.func 36), args := #[.tmp 36, .tmp 37, .tmp 41], argTypes := #[44, 41, 3] }, type := _, pos := _, after := _, guard := none }) (by kernel_rfl) rfl (fun K hK => ?_)
      go_simp
      refine (HTD.out _ _ HAB.out H4d.out.drew HBE.out).mono ?_
      rw [← HTA.out]
      rintro e w6 ⟨rfl, H6, HB6⟩
      have HL6 := hid (HB4d.out.stay (Stay.of_below ((Below.refl _ _).drew.trans HB6.out)))
      refine hK _ _ (Or.inr (HS4.out _ H6.out HL6.out)) ?_
      clear hK
      try simp only [Act.put, List.setIfInBounds_toArray, List.set_cons_zero, List.set_cons_succ]
      refine wpLast_one (i := 9) (o := { dst := some 44, op := .call { callee := .value (.func 35), args := #[.tmp 35, .tmp 42, .tmp 43], argTypes := #[26, 44, 60] }, type := _, pos := _, after := _, guard := none }) (by kernel_rfl) rfl (fun K hK => ?_)
      go_simp
      refine (HPR.out _ ta HTO.out H6.out).mono ?_
      rintro e w7 ⟨rfl, H7⟩
      refine hK _ _ (Or.inl rfl) ?_
      clear hK
      try simp only [Act.put, List.setIfInBounds_toArray, List.set_cons_zero, List.set_cons_succ]
      refine wpLast_done (by kernel_rfl) ?_ _
      refine NoPanic.normal ?_
      go_wp2
      refine bodyPost_ret (results_none rfl _ _ _) rfl ?_
      exact ⟨rfl, HL.out.trans H7.out⟩
end
end Go.Proofs.Ytgcpoanjjgbfjaa
