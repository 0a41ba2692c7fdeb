import Derived.Test.YtgcpoanjjgbfjaaLzJe
import Derived.Test.YtgcpoanjjgbfjaaBMem
import Derived.Deep.RegionHeld3
/-
  Lease: probe, renew, renewAs. Written by mklztim4.py.
-/
namespace Go.Proofs.Ytgcpoanjjgbfjaa
open Go.RowKit
set_option linter.all false

section
variable {W0 : World} {p pd gA : Nat} {ab : Option Nat} {s : LS}
set_option maxRecDepth 20000 in
set_option maxHeartbeats 1000000 in
theorem probe_any (l : Ls) (w : World) (h : LW W0 p pd gA ab s w) (hn : s.acts.length < 4000) (hlo : l.ok) :
    Calls Try.prog 35 #[.pointer (some ⟨p, 0, none⟩), l.val, turnV pd gA] w fun e w' => e = .returned (.tuple #[]) ∧ Hid (LC W0 p pd gA ab (probeS l s) w w') := by
  obtain ⟨wl, hwl⟩ : ∃ W, W = w.alloc (.cells #[.int .u32 l.ip, .int .u32 l.m, .int .u32 l.r, .int .u32 l.sv, .int .u32 l.nx, .string l.file, .int .i64 l.frm, .int .i64 l.t1, .int .i64 l.t2, .int .i64 l.un] 44) := ⟨_, rfl⟩
  obtain ⟨lb, hlb⟩ : ∃ g, g = w.heap.size := ⟨_, rfl⟩
  obtain ⟨wt, hwt⟩ : ∃ W, W = wl.alloc (.cells (#[.pointer (some ⟨pd, 0, none⟩), .func (.func 27) #[] #[.pointer (some ⟨gA, 0, none⟩)]] : Array Value) 60) := ⟨_, rfl⟩
  obtain ⟨tb, htb⟩ : ∃ g, g = wl.heap.size := ⟨_, rfl⟩
  have htb2 : tb = lb + 1 := by rw [htb, hwl, hlb]; simp
  obtain ⟨hl, ht, hlz⟩ := lease_laid h hwl hlb hwt htb
  have HL := hid hl
  have HT := hid ht
  have HZ := hid hlz
  have cl := hlz.at
  have HTH := hid (there_of hl.1.box 11 10 (by simp [Cl.cells]))
  have o := h.ok.c
  have HU : Hid (LC W0 p pd gA ab { s with c := { s.c with l := l, st := 3, tries := 0 } } wt (((wt.setCells p 11 l.cells.toList).setCell ⟨p, 7, none⟩ (.int .i64 3)).setCell ⟨p, 21, none⟩ (.int .i64 0))) := (LC.refl hl.1).upd (((But.setCells _ _ _ _).trans (But.setCell _ _ _ _)).trans (But.setCell _ _ _ _)) ((((LC.refl hl.1).box.l l).st 3).tries 0) ⟨o.own, o.now, by simp, o.xid, o.beg, o.ask, hlo, by simp, o.due⟩
  have hbx := (LC.refl hl.1).box.l l
  have c7 : (wt.setCells p 11 l.cells.toList).cell? ⟨p, 7, none⟩ = some (.int .i64 s.c.st) := (hbx.at 7).trans rfl
  have f7 := hbx.fr 7
  have hbx2 := hbx.st 3
  have c21 : ((wt.setCells p 11 l.cells.toList).setCell ⟨p, 7, none⟩ (.int .i64 3)).cell? ⟨p, 21, none⟩ = some (.int .i64 s.c.tries) := (hbx2.at 21).trans rfl
  have f21 := hbx2.fr 21
  have ct := (HT.out.stay HU.out.2).at
  have cl2 := (HZ.out.stay HU.out.2).at
  have HTE : Hid (∀ W, LC W0 p pd gA ab { s with c := { s.c with l := l, st := 3, tries := 0 } } wt W → Calls Try.prog 27 #[.agg #[.int .i64 2, .int .u32 0, .int .u32 0, .int .i64 0, .int .i64 0, .int .u32 0, .int .i64 0, .bool false, .int .u32 0, .int .u32 0, .int .u32 0, .int .u32 0, .int .u8 0, .int .u8 0, .int .u8 0, .int .u8 0, .int .u8 0, .int .u8 0, .string ⟨#[]⟩, .string ⟨#[]⟩, .slice none 0 0, .int .u32 l.ip, .int .u32 l.m, .int .u32 l.r, .int .u32 l.sv, .int .u32 l.nx, .string l.file, .int .i64 l.frm, .int .i64 l.t1, .int .i64 l.t2, .int .i64 l.un], .pointer (some ⟨gA, 0, none⟩)] W fun e w' => e = .returned (.tuple #[]) ∧ Hid (LC W0 p pd gA ab (tellS 2 l { s with c := { s.c with l := l, st := 3, tries := 0 } }) wt w')) := fun W hW => tell_l 2 l wt W hW (by show s.acts.length < 4096; omega)
  have HWA : Hid (∀ W, LC W0 p pd gA ab (tellS 2 l { s with c := { s.c with l := l, st := 3, tries := 0 } }) wt W → Calls Try.prog 43 #[.pointer (some ⟨p, 0, none⟩), .int .i64 10] W fun e w' => e = .returned (.tuple #[]) ∧ Hid (LC W0 p pd gA ab (probeS l s) wt w')) := fun W hW => wait_c 10 wt W hW (by decide)
  clear h hn ht hl o hbx hbx2 hlo hlz
  generalize probeS l s = sC at *
  generalize tellS 2 l { s with c := { s.c with l := l, st := 3, tries := 0 } } = sB at *
  generalize (LS.mk (Cl.mk s.c.own s.c.now 3 s.c.xid s.c.beg s.c.ask l 0 s.c.due) s.zs s.acts) = sA at *
  unfold turnV Ls.val Ls.cells at *
  go_enter Try.func35, Try.ntmps35
  go_upto_region 1 with (fail)
  rw [← hwl, ← hlb, ← hwt, ← htb2]
  clear hwl hlb hwt htb htb2
  go_wp2_with (first
    | (refine wpList_store_mid rfl 44 _ _ rfl p 11 #[.int .u32 l.ip, .int .u32 l.m, .int .u32 l.r, .int .u32 l.sv, .int .u32 l.nx, .string l.file, .int .i64 l.frm, .int .i64 l.t1, .int .i64 l.t2, .int .i64 l.un] rfl rfl HTH.out infoLs (ls_one l) ?_; intro w3 HW3; rw [← HW3.out] at c7 f7 c21 f21 ct cl2 HU; clear HW3 cl)
    | (go_at_call 27; refine (HTE.out _ HU.out).mono ?_; rintro e w4 ⟨rfl, H4⟩)
    | (go_at_call 43; refine (HWA.out _ H4.out).mono ?_; rintro e w5 ⟨rfl, H5⟩)
    | fail)
  go_end0
  exact ⟨rfl, HL.out.trans H5.out⟩
theorem requestS_c (s : LS) : (requestS s).c = s.c ∧ (requestS s).zs = s.zs := by
  unfold requestS sendS
  repeat (first | split | exact ⟨rfl, rfl⟩)
theorem requestS_len (s : LS) : (requestS s).acts.length ≤ s.acts.length + 1 := by
  unfold requestS sendS
  repeat (first | split | simp)
theorem endC_bd {c : Cl} (h : c.ok) : Tm (endC c) := by
  unfold endC
  split
  · exact h.l.un
  · exact h.l.t2
set_option maxRecDepth 20000 in
set_option maxHeartbeats 1000000 in
theorem renew_any (w : World) (h : LW W0 p pd gA ab s w) (hn : s.acts.length < 4000) :
    Calls Try.prog 66 #[.pointer (some ⟨p, 0, none⟩), turnV pd gA] w fun e w' => e = .returned (.tuple #[]) ∧ Hid (LC W0 p pd gA ab (renewS s) w w') := by
  obtain ⟨wt, hwt⟩ : ∃ W, W = w.alloc (.cells (#[.pointer (some ⟨pd, 0, none⟩), .func (.func 27) #[] #[.pointer (some ⟨gA, 0, none⟩)]] : Array Value) 60) := ⟨_, rfl⟩
  obtain ⟨tb, htb⟩ : ∃ g, g = w.heap.size := ⟨_, rfl⟩
  obtain ⟨hl, ht⟩ := turn_laid h hwt htb
  have HL := hid hl
  have HT := hid ht
  have ct := ht.at
  have hen := endC_bd h.ok.c
  have hno := h.ok.c.now
  have hrc := requestS_c s
  obtain ⟨N, hN⟩ : ∃ n, n = max ((endC s.c - s.c.now).tdiv 2) 600 := ⟨_, rfl⟩
  have htd : -1125899906842626 ≤ (endC s.c - s.c.now).tdiv 2 ∧ (endC s.c - s.c.now).tdiv 2 ≤ 1125899906842624 := by
    unfold Tm at hen
    rcases Int.le_total 0 (endC s.c - s.c.now) with h1 | h1
    · rw [Int.tdiv_eq_ediv_of_nonneg h1]; omega
    · have e := Int.neg_tdiv (endC s.c - s.c.now) 2
      have e2 : (-(endC s.c - s.c.now)).tdiv 2 = (-(endC s.c - s.c.now)) / 2 := Int.tdiv_eq_ediv_of_nonneg (by omega)
      omega
  have HRQ : Hid (Calls Try.prog 42 #[.pointer (some ⟨p, 0, none⟩), turnV pd gA] wt fun e w' => e = .returned (.tuple #[]) ∧ Hid (LC W0 p pd gA ab (requestS s) wt w')) := request_any wt hl.1 (by omega)
  have HWA : Hid (∀ W, LC W0 p pd gA ab (requestS s) wt W → Calls Try.prog 43 #[.pointer (some ⟨p, 0, none⟩), .int .i64 N] W fun e w' => e = .returned (.tuple #[]) ∧ Hid (LC W0 p pd gA ab (waitS N (requestS s)) wt w')) := fun W hW => wait_c N wt W hW (by omega)
  have HBX : Hid (∀ W, LC W0 p pd gA ab (requestS s) wt W → BoxC W p s.c) := fun W hW => by have := hW.box; rw [hrc.1] at this; exact this
  have HFI : Hid (∀ W, LC W0 p pd gA ab (waitS N (requestS s)) wt W → (W.cell? ⟨p, 22, none⟩ = some (.int .i64 (bhd s.c.now N)) ∧ W.frozen? ⟨p, 22, none⟩ = false) ∧ LC W0 p pd gA ab (renewS s) wt (W.setCell ⟨p, 22, none⟩ (.int .i64 (min (bhd s.c.now N) (endC s.c))))) := fun W hW => by
    have hb := hW.box
    refine ⟨⟨?_, hb.fr 22⟩, ?_⟩
    · have := hb.at 22
      rw [this]
      show some (Value.int .i64 (bhd (requestS s).c.now N)) = _
      rw [hrc.1]
    · have o := h.ok.c
      have hu := hW.upd (c' := { s.c with due := min (bhd s.c.now N) (endC s.c) }) (But.setCell p W 22 _) (by
        have h2 := hb.due (min (bhd s.c.now N) (endC s.c))
        have e : ({ (waitS N (requestS s)).c with due := min (bhd s.c.now N) (endC s.c) } : Cl) = { s.c with due := min (bhd s.c.now N) (endC s.c) } := by
          show ({ (requestS s).c with due := min (bhd s.c.now N) (endC s.c) } : Cl) = _
          rw [hrc.1]
        rw [e] at h2
        exact h2) ⟨o.own, o.now, o.st, o.xid, o.beg, o.ask, o.l, o.tries, by
          unfold Tm at hen
          show Tm (min (bhd s.c.now N) (endC s.c))
          unfold Tm bhd
          omega⟩
      have e2 : ({ waitS N (requestS s) with c := { s.c with due := min (bhd s.c.now N) (endC s.c) } } : LS) = renewS s := by
        unfold renewS waitS
        rw [hN]
      rw [e2] at hu
      exact hu
  have HEN : Hid (endC s.c = if s.c.st = 6 then s.c.l.un else s.c.l.t2) := rfl
  clear h hn ht hl hrc
  generalize renewS s = sC at *
  generalize waitS N (requestS s) = sB at *
  generalize requestS s = sA at *
  have e1 : IntKind.i64.wrap (endC s.c - s.c.now) = endC s.c - s.c.now := by unfold Tm at hen; simp only [IntKind.wrap_i64]; omega
  have e2 : IntKind.i64.wrap ((endC s.c - s.c.now).tdiv 2) = (endC s.c - s.c.now).tdiv 2 := by simp only [IntKind.wrap_i64]; omega
  have e3 : max ((endC s.c - s.c.now).tdiv 2) 600 = N := hN.symm
  clear hN htd hno hen
  have HC : Hid (∀ W, LC W0 p pd gA ab sA wt W → W.cell? ⟨p, 6, none⟩ = some (.int .i64 s.c.now) ∧ W.cell? ⟨p, 7, none⟩ = some (.int .i64 s.c.st) ∧ W.cell? ⟨p, 19, none⟩ = some (.int .i64 s.c.l.t2) ∧ W.cell? ⟨p, 20, none⟩ = some (.int .i64 s.c.l.un)) := fun W hW => ⟨((HBX.out W hW).at 6).trans rfl, ((HBX.out W hW).at 7).trans rfl, ((HBX.out W hW).at 19).trans rfl, ((HBX.out W hW).at 20).trans rfl⟩
  generalize bhd s.c.now N = D at *
  by_cases h6 : s.c.st = 6
  · have e6 : endC s.c = s.c.l.un := by rw [HEN.out, if_pos h6]
    have h6' : (s.c.st == 6) = true := by simpa using h6
    rw [e6] at e1 e2 e3 HFI
    clear HEN e6 h6 HBX
    generalize s.c.l.un = un at *
    generalize s.c.l.t2 = t2 at *
    generalize s.c.st = st at *
    generalize s.c.now = now at *
    unfold turnV at *
    go_enter Try.func66, Try.ntmps66
    go_upto_region 1 with (fail)
    rw [← hwt, ← htb]
    clear hwt htb
    go_wp2_with (first
      | (go_at_call 42; refine HRQ.out.mono ?_; rintro e w2 ⟨rfl, H2⟩; obtain ⟨c6, c7, c19, c20⟩ := HC.out _ H2.out; clear ct)
      | (go_at_call 43; refine (HWA.out _ H2.out).mono ?_; rintro e w3 ⟨rfl, H3⟩; obtain ⟨⟨c22, f22⟩, hfin⟩ := HFI.out _ H3.out; have HF := hid hfin; clear hfin c6 c7 c19 c20)
      | fail)
    go_end0
    exact ⟨rfl, HL.out.trans HF.out⟩
  · have e6 : endC s.c = s.c.l.t2 := by rw [HEN.out, if_neg h6]
    have h6' : (s.c.st == 6) = false := by simpa using h6
    rw [e6] at e1 e2 e3 HFI
    clear HEN e6 h6 HBX
    generalize s.c.l.un = un at *
    generalize s.c.l.t2 = t2 at *
    generalize s.c.st = st at *
    generalize s.c.now = now at *
    unfold turnV at *
    go_enter Try.func66, Try.ntmps66
    go_upto_region 1 with (fail)
    rw [← hwt, ← htb]
    clear hwt htb
    go_wp2_with (first
      | (go_at_call 42; refine HRQ.out.mono ?_; rintro e w2 ⟨rfl, H2⟩; obtain ⟨c6, c7, c19, c20⟩ := HC.out _ H2.out; clear ct)
      | (go_at_call 43; refine (HWA.out _ H2.out).mono ?_; rintro e w3 ⟨rfl, H3⟩; obtain ⟨⟨c22, f22⟩, hfin⟩ := HFI.out _ H3.out; have HF := hid hfin; clear hfin c6 c7 c19 c20)
      | fail)
    go_end0
    exact ⟨rfl, HL.out.trans HF.out⟩
set_option maxRecDepth 20000 in
set_option maxHeartbeats 1000000 in
theorem renewAs_any (st : Int) (hst : 0 ≤ st ∧ st ≤ 6) (w : World) (h : LW W0 p pd gA ab s w) (hn : s.acts.length < 4000) :
    Calls Try.prog 65 #[.pointer (some ⟨p, 0, none⟩), .int .i64 st, turnV pd gA] w fun e w' => e = .returned (.tuple #[]) ∧ Hid (LC W0 p pd gA ab (renewAsS st s) w w') := by
  obtain ⟨wt, hwt⟩ : ∃ W, W = w.alloc (.cells (#[.pointer (some ⟨pd, 0, none⟩), .func (.func 27) #[] #[.pointer (some ⟨gA, 0, none⟩)]] : Array Value) 60) := ⟨_, rfl⟩
  obtain ⟨tb, htb⟩ : ∃ g, g = w.heap.size := ⟨_, rfl⟩
  obtain ⟨hl, ht⟩ := turn_laid h hwt htb
  have HL := hid hl
  have HT := hid ht
  have c7 : wt.cell? ⟨p, 7, none⟩ = some (.int .i64 s.c.st) := (hl.box.at 7).trans rfl
  have f7 := hl.box.fr 7
  have HU : Hid (LC W0 p pd gA ab { s with c := { s.c with st := st } } wt (wt.setCell ⟨p, 7, none⟩ (.int .i64 st))) := (LC.refl hl.1).upd (But.setCell _ _ _ _) ((LC.refl hl.1).box.st st) (by have o := h.ok.c; exact ⟨o.own, o.now, hst, o.xid, o.beg, o.ask, o.l, o.tries, o.due⟩)
  have ct := (HT.out.stay HU.out.2).at
  have HQ : Hid (∀ W, LC W0 p pd gA ab { s with c := { s.c with st := st } } wt W → Calls Try.prog 28 #[.pointer (some ⟨p, 0, none⟩), turnV pd gA] W fun e w' => e = .returned (.tuple #[]) ∧ Hid (LC W0 p pd gA ab (questionS { s with c := { s.c with st := st } }) wt w') ∧ (∀ q, w'.cell? ⟨tb, q, none⟩ = (#[.pointer (some ⟨pd, 0, none⟩), .func (.func 27) #[] #[.pointer (some ⟨gA, 0, none⟩)]] : Array Value)[q]?)) := fun W hW => (question_any W hW.1 hn).mono fun e w' ⟨k1, k2⟩ => ⟨k1, hW.trans k2.out, (ht.stay (hW.trans k2.out).2).at⟩
  have HRN : Hid (∀ W, LC W0 p pd gA ab (questionS { s with c := { s.c with st := st } }) wt W → Calls Try.prog 66 #[.pointer (some ⟨p, 0, none⟩), turnV pd gA] W fun e w' => e = .returned (.tuple #[]) ∧ Hid (LC W0 p pd gA ab (renewAsS st s) wt w')) := fun W hW => (renew_any W hW.1 hn).mono fun e w' ⟨k1, k2⟩ => ⟨k1, hW.trans k2.out⟩
  clear h hn ht hl hst
  generalize renewAsS st s = sC at *
  generalize questionS { s with c := { s.c with st := st } } = sB at *
  generalize (LS.mk (Cl.mk s.c.own s.c.now st s.c.xid s.c.beg s.c.ask s.c.l s.c.tries s.c.due) s.zs s.acts) = sA at *
  generalize s.c.st = st0 at *
  unfold turnV at *
  go_enter Try.func65, Try.ntmps65
  go_upto_region 1 with (fail)
  rw [← hwt, ← htb]
  clear hwt htb
  go_wp2_with (first
    | (go_at_call 28; refine (HQ.out _ HU.out).mono ?_; rintro e w2 ⟨rfl, H2, ct2⟩; clear ct c7 f7)
    | (go_at_call 66; refine (HRN.out _ H2.out).mono ?_; rintro e w3 ⟨rfl, H3⟩)
    | fail)
  go_end0
  exact ⟨rfl, HL.out.trans H3.out⟩
end
end Go.Proofs.Ytgcpoanjjgbfjaa

/-
  Lease: holdOn. Written by mklztim4.py.
-/
namespace Go.Proofs.Ytgcpoanjjgbfjaa
open Go.RowKit
set_option linter.all false

section
variable {W0 : World} {p pd gA : Nat} {ab : Option Nat} {s : LS}
theorem letGoS_c (s : LS) : (letGoS s).c = s.c ∧ (letGoS s).zs = s.zs := by
  unfold letGoS tellS
  split <;> exact ⟨rfl, rfl⟩
theorem letGoS_len (s : LS) : (letGoS s).acts.length ≤ s.acts.length + 1 := by
  unfold letGoS tellS
  split <;> simp
set_option maxRecDepth 20000 in
set_option maxHeartbeats 1000000 in
theorem holdOn_any (w : World) (h : LW W0 p pd gA ab s w) (hn : s.acts.length < 3990) :
    Calls Try.prog 47 #[.pointer (some ⟨p, 0, none⟩), turnV pd gA] w fun e w' => e = .returned (.tuple #[]) ∧ Hid (LC W0 p pd gA ab (holdOnS s) w w') := by
  obtain ⟨wt, hwt⟩ : ∃ W, W = w.alloc (.cells (#[.pointer (some ⟨pd, 0, none⟩), .func (.func 27) #[] #[.pointer (some ⟨gA, 0, none⟩)]] : Array Value) 60) := ⟨_, rfl⟩
  obtain ⟨tb, htb⟩ : ∃ g, g = w.heap.size := ⟨_, rfl⟩
  obtain ⟨hl, ht⟩ := turn_laid h hwt htb
  have HL := hid hl
  have HT := hid ht
  have ct := ht.at
  have hb := hl.box
  have c7 : wt.cell? ⟨p, 7, none⟩ = some (.int .i64 s.c.st) := (hb.at 7).trans rfl
  have c18 : wt.cell? ⟨p, 18, none⟩ = some (.int .i64 s.c.l.t1) := (hb.at 18).trans rfl
  have c19 : wt.cell? ⟨p, 19, none⟩ = some (.int .i64 s.c.l.t2) := (hb.at 19).trans rfl
  have c20 : wt.cell? ⟨p, 20, none⟩ = some (.int .i64 s.c.l.un) := (hb.at 20).trans rfl
  have c22 : wt.cell? ⟨p, 22, none⟩ = some (.int .i64 s.c.due) := (hb.at 22).trans rfl
  have HDU : Hid (∀ t, Calls Try.prog 30 #[.pointer (some ⟨p, 0, none⟩), .int .i64 t] wt fun e w' => e = .returned (.bool (dueB t s.c.now)) ∧ w' = wt) := fun t => isDue_any t wt hb
  have HLG : Hid (Calls Try.prog 17 #[.pointer (some ⟨p, 0, none⟩), turnV pd gA] wt fun e w' => e = .returned (.tuple #[]) ∧ Hid (LC W0 p pd gA ab (letGoS s) wt w') ∧ (∀ q, w'.cell? ⟨tb, q, none⟩ = (#[.pointer (some ⟨pd, 0, none⟩), .func (.func 27) #[] #[.pointer (some ⟨gA, 0, none⟩)]] : Array Value)[q]?)) := (letGo_any wt hl.1 (by omega)).mono fun e w' ⟨k1, k2⟩ => ⟨k1, k2, (ht.stay k2.out.2).at⟩
  have HBG : Hid (∀ W, LC W0 p pd gA ab (letGoS s) wt W → Calls Try.prog 18 #[.pointer (some ⟨p, 0, none⟩), turnV pd gA] W fun e w' => e = .returned (.tuple #[]) ∧ Hid (LC W0 p pd gA ab (beginS (letGoS s)) wt w')) := fun W hW => (begin_any W hW.1 (by have := letGoS_len s; omega)).mono fun e w' ⟨k1, k2⟩ => ⟨k1, hW.trans k2.out⟩
  have HRA : Hid (∀ st, 0 ≤ st ∧ st ≤ 6 → Calls Try.prog 65 #[.pointer (some ⟨p, 0, none⟩), .int .i64 st, turnV pd gA] wt fun e w' => e = .returned (.tuple #[]) ∧ Hid (LC W0 p pd gA ab (renewAsS st s) wt w')) := fun st hst => renewAs_any st hst wt hl.1 (by omega)
  have HRN : Hid (Calls Try.prog 66 #[.pointer (some ⟨p, 0, none⟩), turnV pd gA] wt fun e w' => e = .returned (.tuple #[]) ∧ Hid (LC W0 p pd gA ab (renewS s) wt w')) := renew_any wt hl.1 (by omega)
  have HG : Hid (holdOnS s = if dueB s.c.l.un s.c.now = true then beginS (letGoS s) else if s.c.st ≠ 6 ∧ dueB s.c.l.t2 s.c.now = true then renewAsS 6 s else if s.c.st = 4 ∧ dueB s.c.l.t1 s.c.now = true then renewAsS 5 s else if dueB s.c.due s.c.now = true then renewS s else s) := rfl
  clear h hn ht hl hb
  generalize holdOnS s = R at *
  generalize beginS (letGoS s) = sB at *
  generalize letGoS s = sL at *
  generalize renewS s = sN at *
  generalize s.c.l.t1 = t1 at *
  generalize s.c.l.t2 = t2 at *
  generalize s.c.l.un = un at *
  generalize s.c.due = du at *
  generalize s.c.st = st at *
  generalize s.c.now = now at *
  unfold turnV at *
  rcases Bool.eq_false_or_eq_true (dueB un now) with d1 | d1
  · have d2 : True := trivial
    have d3 : True := trivial
    have d4 : True := trivial
    rw [HG.out, if_pos d1]
    clear HG
    go_enter Try.func47, Try.ntmps47
    go_upto_region 1 with (fail)
    rw [← hwt, ← htb]
    clear hwt htb
    go_wp2_with (first
      | (go_at_call 30; refine (HDU.out _).mono ?_; rintro e w2 ⟨rfl, hw⟩; subst w2; simp only [d1, d2, d3, d4])
      | (go_at_call 17; refine HLG.out.mono ?_; rintro e w3 ⟨rfl, H3, ct3⟩; clear ct c7 c18 c19 c20 c22)
      | (go_at_call 18; refine (HBG.out _ H3.out).mono ?_; rintro e w4 ⟨rfl, H4⟩)
      | (go_at_call 65; refine (HRA.out _ (by decide)).mono ?_; rintro e w4 ⟨rfl, H4⟩)
      | (go_at_call 66; refine HRN.out.mono ?_; rintro e w4 ⟨rfl, H4⟩)
      | fail)
    go_end0
    exact ⟨rfl, HL.out.trans H4.out⟩
  rcases Bool.eq_false_or_eq_true (dueB t2 now) with d2 | d2
  · by_cases h6 : st = 6
    · have h6' : (st != 6) = false := by simpa using h6
      have h4' : (st == 4) = false := by simp; omega
      have d3 : True := trivial
      rcases Bool.eq_false_or_eq_true (dueB du now) with d4 | d4
      · rw [HG.out, if_neg (by simp [d1]), if_neg (by omega), if_neg (by omega), if_pos d4]
        clear HG h6
        go_enter Try.func47, Try.ntmps47
        go_upto_region 1 with (fail)
        rw [← hwt, ← htb]
        clear hwt htb
        go_wp2_with (first
          | (go_at_call 30; refine (HDU.out _).mono ?_; rintro e w2 ⟨rfl, hw⟩; subst w2; simp only [d1, d2, d3, d4])
          | (go_at_call 17; refine HLG.out.mono ?_; rintro e w3 ⟨rfl, H3, ct3⟩; clear ct c7 c18 c19 c20 c22)
          | (go_at_call 18; refine (HBG.out _ H3.out).mono ?_; rintro e w4 ⟨rfl, H4⟩)
          | (go_at_call 65; refine (HRA.out _ (by decide)).mono ?_; rintro e w4 ⟨rfl, H4⟩)
          | (go_at_call 66; refine HRN.out.mono ?_; rintro e w4 ⟨rfl, H4⟩)
          | fail)
        go_end0
        exact ⟨rfl, HL.out.trans H4.out⟩
      · rw [HG.out, if_neg (by simp [d1]), if_neg (by omega), if_neg (by omega), if_neg (by simp [d4])]
        clear HG h6
        go_enter Try.func47, Try.ntmps47
        go_upto_region 1 with (fail)
        rw [← hwt, ← htb]
        clear hwt htb
        go_wp2_with (first
          | (go_at_call 30; refine (HDU.out _).mono ?_; rintro e w2 ⟨rfl, hw⟩; subst w2; simp only [d1, d2, d3, d4])
          | (go_at_call 17; refine HLG.out.mono ?_; rintro e w3 ⟨rfl, H3, ct3⟩; clear ct c7 c18 c19 c20 c22)
          | (go_at_call 18; refine (HBG.out _ H3.out).mono ?_; rintro e w4 ⟨rfl, H4⟩)
          | (go_at_call 65; refine (HRA.out _ (by decide)).mono ?_; rintro e w4 ⟨rfl, H4⟩)
          | (go_at_call 66; refine HRN.out.mono ?_; rintro e w4 ⟨rfl, H4⟩)
          | fail)
        go_end0
        exact ⟨rfl, HL.out⟩
    · have h6' : (st != 6) = true := by simpa using h6
      have d3 : True := trivial
      have d4 : True := trivial
      rw [HG.out, if_neg (by simp [d1]), if_pos ⟨h6, d2⟩]
      clear HG h6
      go_enter Try.func47, Try.ntmps47
      go_upto_region 1 with (fail)
      rw [← hwt, ← htb]
      clear hwt htb
      go_wp2_with (first
        | (go_at_call 30; refine (HDU.out _).mono ?_; rintro e w2 ⟨rfl, hw⟩; subst w2; simp only [d1, d2, d3, d4])
        | (go_at_call 17; refine HLG.out.mono ?_; rintro e w3 ⟨rfl, H3, ct3⟩; clear ct c7 c18 c19 c20 c22)
        | (go_at_call 18; refine (HBG.out _ H3.out).mono ?_; rintro e w4 ⟨rfl, H4⟩)
        | (go_at_call 65; refine (HRA.out _ (by decide)).mono ?_; rintro e w4 ⟨rfl, H4⟩)
        | (go_at_call 66; refine HRN.out.mono ?_; rintro e w4 ⟨rfl, H4⟩)
        | fail)
      go_end0
      exact ⟨rfl, HL.out.trans H4.out⟩
  have h62 : ¬ (st ≠ 6 ∧ dueB t2 now = true) := by simp [d2]
  by_cases h4 : st = 4
  · have h6' : (st != 6) = true := by simp; omega
    have h4' : (st == 4) = true := by simpa using h4
    rcases Bool.eq_false_or_eq_true (dueB t1 now) with d3 | d3
    · have d4 : True := trivial
      rw [HG.out, if_neg (by simp [d1]), if_neg h62, if_pos ⟨h4, d3⟩]
      clear HG h4 h62
      go_enter Try.func47, Try.ntmps47
      go_upto_region 1 with (fail)
      rw [← hwt, ← htb]
      clear hwt htb
      go_wp2_with (first
        | (go_at_call 30; refine (HDU.out _).mono ?_; rintro e w2 ⟨rfl, hw⟩; subst w2; simp only [d1, d2, d3, d4])
        | (go_at_call 17; refine HLG.out.mono ?_; rintro e w3 ⟨rfl, H3, ct3⟩; clear ct c7 c18 c19 c20 c22)
        | (go_at_call 18; refine (HBG.out _ H3.out).mono ?_; rintro e w4 ⟨rfl, H4⟩)
        | (go_at_call 65; refine (HRA.out _ (by decide)).mono ?_; rintro e w4 ⟨rfl, H4⟩)
        | (go_at_call 66; refine HRN.out.mono ?_; rintro e w4 ⟨rfl, H4⟩)
        | fail)
      go_end0
      exact ⟨rfl, HL.out.trans H4.out⟩
    · rcases Bool.eq_false_or_eq_true (dueB du now) with d4 | d4
      · rw [HG.out, if_neg (by simp [d1]), if_neg h62, if_neg (by simp [d3]), if_pos d4]
        clear HG h4 h62
        go_enter Try.func47, Try.ntmps47
        go_upto_region 1 with (fail)
        rw [← hwt, ← htb]
        clear hwt htb
        go_wp2_with (first
          | (go_at_call 30; refine (HDU.out _).mono ?_; rintro e w2 ⟨rfl, hw⟩; subst w2; simp only [d1, d2, d3, d4])
          | (go_at_call 17; refine HLG.out.mono ?_; rintro e w3 ⟨rfl, H3, ct3⟩; clear ct c7 c18 c19 c20 c22)
          | (go_at_call 18; refine (HBG.out _ H3.out).mono ?_; rintro e w4 ⟨rfl, H4⟩)
          | (go_at_call 65; refine (HRA.out _ (by decide)).mono ?_; rintro e w4 ⟨rfl, H4⟩)
          | (go_at_call 66; refine HRN.out.mono ?_; rintro e w4 ⟨rfl, H4⟩)
          | fail)
        go_end0
        exact ⟨rfl, HL.out.trans H4.out⟩
      · rw [HG.out, if_neg (by simp [d1]), if_neg h62, if_neg (by simp [d3]), if_neg (by simp [d4])]
        clear HG h4 h62
        go_enter Try.func47, Try.ntmps47
        go_upto_region 1 with (fail)
        rw [← hwt, ← htb]
        clear hwt htb
        go_wp2_with (first
          | (go_at_call 30; refine (HDU.out _).mono ?_; rintro e w2 ⟨rfl, hw⟩; subst w2; simp only [d1, d2, d3, d4])
          | (go_at_call 17; refine HLG.out.mono ?_; rintro e w3 ⟨rfl, H3, ct3⟩; clear ct c7 c18 c19 c20 c22)
          | (go_at_call 18; refine (HBG.out _ H3.out).mono ?_; rintro e w4 ⟨rfl, H4⟩)
          | (go_at_call 65; refine (HRA.out _ (by decide)).mono ?_; rintro e w4 ⟨rfl, H4⟩)
          | (go_at_call 66; refine HRN.out.mono ?_; rintro e w4 ⟨rfl, H4⟩)
          | fail)
        go_end0
        exact ⟨rfl, HL.out⟩
  · have h4' : (st == 4) = false := by simpa using h4
    have d3 : True := trivial
    rcases Bool.eq_false_or_eq_true (dueB du now) with d4 | d4
    · rw [HG.out, if_neg (by simp [d1]), if_neg h62, if_neg (by simp [h4]), if_pos d4]
      clear HG h4 h62
      rcases Bool.eq_false_or_eq_true (st != 6) with h6' | h6'
      · go_enter Try.func47, Try.ntmps47
        go_upto_region 1 with (fail)
        rw [← hwt, ← htb]
        clear hwt htb
        go_wp2_with (first
          | (go_at_call 30; refine (HDU.out _).mono ?_; rintro e w2 ⟨rfl, hw⟩; subst w2; simp only [d1, d2, d3, d4])
          | (go_at_call 17; refine HLG.out.mono ?_; rintro e w3 ⟨rfl, H3, ct3⟩; clear ct c7 c18 c19 c20 c22)
          | (go_at_call 18; refine (HBG.out _ H3.out).mono ?_; rintro e w4 ⟨rfl, H4⟩)
          | (go_at_call 65; refine (HRA.out _ (by decide)).mono ?_; rintro e w4 ⟨rfl, H4⟩)
          | (go_at_call 66; refine HRN.out.mono ?_; rintro e w4 ⟨rfl, H4⟩)
          | fail)
        go_end0
        exact ⟨rfl, HL.out.trans H4.out⟩
      · go_enter Try.func47, Try.ntmps47
        go_upto_region 1 with (fail)
        rw [← hwt, ← htb]
        clear hwt htb
        go_wp2_with (first
          | (go_at_call 30; refine (HDU.out _).mono ?_; rintro e w2 ⟨rfl, hw⟩; subst w2; simp only [d1, d2, d3, d4])
          | (go_at_call 17; refine HLG.out.mono ?_; rintro e w3 ⟨rfl, H3, ct3⟩; clear ct c7 c18 c19 c20 c22)
          | (go_at_call 18; refine (HBG.out _ H3.out).mono ?_; rintro e w4 ⟨rfl, H4⟩)
          | (go_at_call 65; refine (HRA.out _ (by decide)).mono ?_; rintro e w4 ⟨rfl, H4⟩)
          | (go_at_call 66; refine HRN.out.mono ?_; rintro e w4 ⟨rfl, H4⟩)
          | fail)
        go_end0
        exact ⟨rfl, HL.out.trans H4.out⟩
    · rw [HG.out, if_neg (by simp [d1]), if_neg h62, if_neg (by simp [h4]), if_neg (by simp [d4])]
      clear HG h4 h62
      rcases Bool.eq_false_or_eq_true (st != 6) with h6' | h6'
      · go_enter Try.func47, Try.ntmps47
        go_upto_region 1 with (fail)
        rw [← hwt, ← htb]
        clear hwt htb
        go_wp2_with (first
          | (go_at_call 30; refine (HDU.out _).mono ?_; rintro e w2 ⟨rfl, hw⟩; subst w2; simp only [d1, d2, d3, d4])
          | (go_at_call 17; refine HLG.out.mono ?_; rintro e w3 ⟨rfl, H3, ct3⟩; clear ct c7 c18 c19 c20 c22)
          | (go_at_call 18; refine (HBG.out _ H3.out).mono ?_; rintro e w4 ⟨rfl, H4⟩)
          | (go_at_call 65; refine (HRA.out _ (by decide)).mono ?_; rintro e w4 ⟨rfl, H4⟩)
          | (go_at_call 66; refine HRN.out.mono ?_; rintro e w4 ⟨rfl, H4⟩)
          | fail)
        go_end0
        exact ⟨rfl, HL.out⟩
      · go_enter Try.func47, Try.ntmps47
        go_upto_region 1 with (fail)
        rw [← hwt, ← htb]
        clear hwt htb
        go_wp2_with (first
          | (go_at_call 30; refine (HDU.out _).mono ?_; rintro e w2 ⟨rfl, hw⟩; subst w2; simp only [d1, d2, d3, d4])
          | (go_at_call 17; refine HLG.out.mono ?_; rintro e w3 ⟨rfl, H3, ct3⟩; clear ct c7 c18 c19 c20 c22)
          | (go_at_call 18; refine (HBG.out _ H3.out).mono ?_; rintro e w4 ⟨rfl, H4⟩)
          | (go_at_call 65; refine (HRA.out _ (by decide)).mono ?_; rintro e w4 ⟨rfl, H4⟩)
          | (go_at_call 66; refine HRN.out.mono ?_; rintro e w4 ⟨rfl, H4⟩)
          | fail)
        go_end0
        exact ⟨rfl, HL.out⟩
end
end Go.Proofs.Ytgcpoanjjgbfjaa

/-
  Drawn regions whose last operation (f) may turn what the loads before it read. For every seat.
-/
namespace Go.Proofs.Ytgcpoanjjgbfjaa
open Go.RowKit
set_option linter.all false

section
variable {P : Program} {md : Region.Mode} {ops : Array Oper} {Q : Exit → Act → World → Prop} {S : World → Prop} {f : Nat}
/-- whatever order is picked, S holds behind every operation but f. -/
def wpAnyF (P : Program) (md : Region.Mode) (ops : Array Oper) (Q : Exit → Act → World → Prop) (S : World → Prop) (f : Nat) : Nat → Array Bool → Act → World → Prop
  | 0, listed, a, w => Region.ready md ops listed = [] ∧ Q .normal a w
  | fuel + 1, listed, a, w =>
    (Region.ready md ops listed = [] → Q .normal a w) ∧
    ∀ i ∈ Region.ready md ops listed, wpOp P ops Q i (fun a' w' => (i = f ∨ S w') ∧ wpAnyF P md ops Q S f fuel (listed.setIfInBounds i true) a' w') a w
theorem wpAny_of_F : ∀ (fuel : Nat) (listed : Array Bool) (a : Act) (w : World), wpAnyF P md ops Q S f fuel listed a w → wpAny P md ops Q fuel listed a w
  | 0, _, _, _, h => h
  | fuel + 1, _, _, _, h => ⟨h.1, fun i hi => wpOp_mono (fun a' w' h' => wpAny_of_F fuel _ a' w' h'.2) (h.2 i hi)⟩
/-- what came up waited for nothing that has not. -/
def Closed (md : Region.Mode) (ops : Array Oper) (L : Array Bool) : Prop := ∀ (k : Nat) (o : Oper), ops[k]? = some o → L.getD k false = true → ∀ e ∈ o.after, Region.binds md e = true → L.getD e.on false = true
theorem closed_set {L : Array Bool} (h : Closed md ops L) {j : Nat} (hj : j ∈ Region.ready md ops L) : Closed md ops (L.setIfInBounds j true) := fun k o ho hk e he hb => by
  obtain ⟨_, oj, hoj, hall⟩ := mem_ready.1 hj
  by_cases hjk : j = k
  · subst hjk
    rw [hoj] at ho
    simp only [Option.some.injEq] at ho
    subst ho
    exact getD_set_true (hall e he hb)
  · rw [getD_set_ne false hjk] at hk
    exact getD_set_true (h k o ho hk e he hb)
/-- f waits for i. -/
def waits (md : Region.Mode) (ops : Array Oper) : Nat → Nat → Nat → Bool
  | 0, _, _ => false
  | n + 1, f, i => match ops[f]? with
    | none => false
    | some o => o.after.toList.any fun e => Region.binds md e && (e.on == i || waits md ops n e.on i)
theorem waits_listed : ∀ (n f i : Nat) (L : Array Bool), Closed md ops L → waits md ops n f i = true → L.getD f false = true → L.getD i false = true
  | 0, f, i, L, _, h, _ => by simp [waits] at h
  | n + 1, f, i, L, hc, h, hf => by
    unfold waits at h
    cases ho : ops[f]? with
    | none => rw [ho] at h; simp at h
    | some o =>
      rw [ho] at h
      simp only [List.any_eq_true, Bool.and_eq_true, Bool.or_eq_true, beq_iff_eq] at h
      obtain ⟨e, he, hb, h1 | h1⟩ := h
      · rw [← h1]; exact hc f o ho hf e (by simpa using he) hb
      · exact waits_listed n e.on i L hc h1 (hc f o ho hf e (by simpa using he) hb)
theorem waits_ready {n f i : Nat} {L : Array Bool} (hc : Closed md ops L) (h : waits md ops (n + 1) f i = true) (hr : f ∈ Region.ready md ops L) : L.getD i false = true := by
  obtain ⟨_, o, ho, hall⟩ := mem_ready.1 hr
  unfold waits at h
  rw [ho] at h
  simp only [List.any_eq_true, Bool.and_eq_true, Bool.or_eq_true, beq_iff_eq] at h
  obtain ⟨e, he, hb, h1 | h1⟩ := h
  · rw [← h1]; exact hall e (by simpa using he) hb
  · exact waits_listed n e.on i L hc h1 (hall e (by simpa using he) hb)
theorem wpAnyF_first {i n : Nat} {oi : Oper} {v : Value} (hi : ops[i]? = some oi) (hsel : ∀ (j : Nat) (o : Oper) cs b, ops[j]? = some o → o.op ≠ .select cs b)
    (hQ : ∀ c a w, Q (.panic c) (a.put oi.dst v) w → Q (.panic c) a w) (hfw : waits md ops (n + 1) f i = true) :
    ∀ (fuel : Nat) (listed : Array Bool) (a : Act) (w : World), Closed md ops listed →
      (∀ j oj, ops[j]? = some oj → j ≠ i → listed.getD j true = false → (∀ e ∈ oj.after, Region.binds md e = true → e.on ≠ i) → oi.apart ops oj = true) →
      i ∈ Region.ready md ops listed → YieldsIf P ops S oi v a → S w →
      wpAnyF P md ops Q S f fuel (listed.setIfInBounds i true) (a.put oi.dst v) w → wpAnyF P md ops Q S f (fuel + 1) listed a w := by
  intro fuel
  induction fuel with
  | zero =>
    intro listed a w hcl _ hr hy hS H
    refine ⟨fun h => (by rw [h] at hr; cases hr), fun j hj => ?_⟩
    by_cases hji : j = i
    · subst hji; exact hy.wpOp hi hS ⟨Or.inr hS, H⟩
    · have := ready_mono hj hji
      rw [H.1] at this
      cases this
  | succ fuel ih =>
    intro listed a w hcl hfree hr hy hS H
    refine ⟨fun h => (by rw [h] at hr; cases hr), fun j hj => ?_⟩
    by_cases hji : j = i
    · subst hji; exact hy.wpOp hi hS ⟨Or.inr hS, H⟩
    · have h1 := H.2 j (ready_mono hj hji)
      obtain ⟨hjun, oj, hoj, hall⟩ := mem_ready.1 hj
      have hun : listed.getD i false = false := by
        have h0 := (mem_ready.1 hr).1
        rcases Nat.lt_or_ge i listed.size with h' | h'
        · simpa [h'] using h0
        · simp [Array.getElem?_eq_none h'] at h0
      have hjf : j ≠ f := fun e => by
        subst e
        rw [waits_ready hcl hfw hj] at hun
        cases hun
      have hnot : ∀ e ∈ oj.after, Region.binds md e = true → e.on ≠ i := fun e he hb heq => by
        have h1 := hall e he hb
        rw [heq, hun] at h1
        cases h1
      have h2 := wpOp_putIf hoj (hfree j oj hoj hji hjun hnot) (fun cs b => hsel i oi cs b hi) (fun cs b => hsel j oj cs b hoj) hQ hy h1
      have hfree' : ∀ k ok, ops[k]? = some ok → k ≠ i → (listed.setIfInBounds j true).getD k true = false →
          (∀ e ∈ ok.after, Region.binds md e = true → e.on ≠ i) → oi.apart ops ok = true := fun k ok hk hki hun hno => by
        refine hfree k ok hk hki ?_ hno
        by_cases hjk : j = k
        · subst hjk; exact hjun
        · rw [getD_set_ne true hjk] at hun; exact hun
      refine wpOp_mono (fun a' w' h3 => ?_) h2
      have hs3 : S w' := h3.2.1.resolve_left hjf
      refine ⟨Or.inr hs3, ih (listed.setIfInBounds j true) a' w' (closed_set hcl hj) hfree' (ready_mono hr (Ne.symm hji)) h3.1 hs3 ?_⟩
      rw [Array.setIfInBounds_comm _ _ hji]
      exact h3.2.2
/-- the way of the walk. -/
def wpLast (P : Program) (md : Region.Mode) (ops : Array Oper) (Q : Exit → Act → World → Prop) (S : World → Prop) (f fuel : Nat) (listed : Array Bool) (a : Act) (w : World) : Prop := Closed md ops listed → wpAnyF P md ops Q S f fuel listed a w
theorem wpLast_take {i n : Nat} {oi : Oper} {v : Value} {fuel : Nat} {listed : Array Bool} {a : Act} {w : World} (hi : ops[i]? = some oi)
    (hs : Region.noSelect ops = true) (hf : Region.free md ops listed i = true) (hr : (Region.ready md ops listed).contains i = true) (hfw : waits md ops (n + 1) f i = true)
    (hQ : ∀ c a w, Q (.panic c) (a.put oi.dst v) w → Q (.panic c) a w) (hy : YieldsIf P ops S oi v a) (hS : S w)
    (h : wpLast P md ops Q S f fuel (listed.setIfInBounds i true) (a.put oi.dst v) w) : wpLast P md ops Q S f (fuel + 1) listed a w := fun hcl =>
  wpAnyF_first hi (Region.noSelect_spec hs) hQ hfw fuel listed a w hcl (Region.free_spec hi hf) (by simpa using hr) hy hS (h (closed_set hcl (by simpa using hr)))
/-- the one operation that may come up. -/
theorem wpLast_one {i : Nat} {o : Oper} {fuel : Nat} {listed : Array Bool} {a : Act} {w : World} (hr : Region.ready md ops listed = [i]) (ho : ops[i]? = some o)
    (h : ∀ K' : Act → World → Prop, Shut (∀ a w, (i = f ∨ S w) → wpLast P md ops Q S f fuel (listed.setIfInBounds i true) a w → K' a w) → if Region.wanted o (yielded ops a.tmps) = true then Oper.wp P o a w K' Q else K' (a.put o.dst undef) w) :
    wpLast P md ops Q S f (fuel + 1) listed a w := fun hcl => by
  have hi : i ∈ Region.ready md ops listed := by rw [hr]; simp
  refine ⟨fun h0 => (by rw [hr] at h0; cases h0), fun j hj => ?_⟩
  have hj' : j = i := by rw [hr] at hj; simpa using hj
  subst hj'
  exact wpOp_step ho (fun K' hK => h K' (fun a w hS hW => hK a w ⟨hS, hW (closed_set hcl hi)⟩))
theorem wpLast_done {listed : Array Bool} {a : Act} {w : World} (hr : Region.ready md ops listed = []) (h : Q .normal a w) : ∀ fuel, wpLast P md ops Q S f fuel listed a w
  | 0 => fun _ => ⟨hr, h⟩
  | _ + 1 => fun _ => ⟨fun _ => h, by rw [hr]; simp⟩
theorem wp_region_last {id : Nat} {a : Act} {w : World} (f : Nat) (hm : P.follows .mixedOrders = true) (hS : S w.drew)
    (h : S w.drew → wpLast P .any ops Q S f ops.size (Array.replicate ops.size false) a w.drew) : (Code.region id ops true).wp P Q a w :=
  wp_region_any hm (wpAny_of_F _ _ _ _ (h hS (fun k o ho hk => by
    rcases Nat.lt_or_ge k ops.size with h' | h'
    · simp [h'] at hk
    · rw [Array.getElem?_eq_none h'] at ho; cases ho)))
end
end Go.Proofs.Ytgcpoanjjgbfjaa
