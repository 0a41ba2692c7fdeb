import Derived.Test.YtgcpoanjjgbfjaaLzJf
/-
  Lease: adopt, probed, atDue, goOn. Written by mklztim6.py.
-/
namespace Go.Proofs.Ytgcpoanjjgbfjaa
open Go.RowKit
set_option linter.all false

section
variable {W0 : World} {p pd gA : Nat} {ab : Option Nat} {s : LS}
set_option maxRecDepth 20000 in
set_option maxHeartbeats 1000000 in
theorem adopt_any (l : Ls) (w : World) (h : LW W0 p pd gA ab s w) (hn : s.acts.length < 3980) (hlo : l.ok) :
    Calls Try.prog 37 #[.pointer (some ⟨p, 0, none⟩), l.val, turnV pd gA] w fun e w' => e = .returned (.tuple #[]) ∧ Hid (LC W0 p pd gA ab (adoptS l s) w w') := by
  obtain ⟨wl, hwl⟩ : ∃ W, W = w.alloc (.cells #[.int .u32 l.ip, .int .u32 l.m, .int .u32 l.r, .int .u32 l.sv, .int .u32 l.nx, .string l.file, .int .i64 l.frm, .int .i64 l.t1, .int .i64 l.t2, .int .i64 l.un] 44) := ⟨_, rfl⟩
  obtain ⟨lb, hlb⟩ : ∃ g, g = w.heap.size := ⟨_, rfl⟩
  obtain ⟨wt, hwt⟩ : ∃ W, W = wl.alloc (.cells (#[.pointer (some ⟨pd, 0, none⟩), .func (.func 27) #[] #[.pointer (some ⟨gA, 0, none⟩)]] : Array Value) 60) := ⟨_, rfl⟩
  obtain ⟨tb, htb⟩ : ∃ g, g = wl.heap.size := ⟨_, rfl⟩
  have htb2 : tb = lb + 1 := by rw [htb, hwl, hlb]; simp
  obtain ⟨hl, ht, hlz⟩ := lease_laid h hwl hlb hwt htb
  have HL := hid hl
  have HT := hid ht
  have HZ := hid hlz
  have cl := hlz.at
  have HTH := hid (there_of hl.1.box 11 10 (by simp [Cl.cells]))
  have o := h.ok.c
  obtain ⟨w3, hw3⟩ : ∃ W, W = wt.setCells p 11 l.cells.toList := ⟨_, rfl⟩
  have hbx : BoxC w3 p { s.c with l := l } := by rw [hw3]; exact (LC.refl hl.1).box.l l
  have hb3 : But p wt w3 := by rw [hw3]; exact But.setCells _ _ _ _
  have hNEW : ({ s with c := { s.c with l := l, st := 4, tries := 0, due := l.t1 } } : LS).c.ok := ⟨o.own, o.now, by simp, o.xid, o.beg, o.ask, hlo, by simp, hlo.t1⟩
  have HU : Hid (LC W0 p pd gA ab { s with c := { s.c with l := l, st := 4, tries := 0, due := l.t1 } } wt (((w3.setCell ⟨p, 7, none⟩ (.int .i64 4)).setCell ⟨p, 21, none⟩ (.int .i64 0)).setCell ⟨p, 22, none⟩ (.int .i64 l.t1)).drew) := ((LC.refl hl.1).upd (((hb3.trans (But.setCell _ _ _ _)).trans (But.setCell _ _ _ _)).trans (But.setCell _ _ _ _)) (((hbx.st 4).tries 0).due l.t1) hNEW).drew
  have ct := (HT.out.stay HU.out.2).at
  have cl2 := (HZ.out.stay HU.out.2).at
  have c7 : w3.cell? ⟨p, 7, none⟩ = some (.int .i64 s.c.st) := (hbx.at 7).trans rfl
  have f7 := hbx.fr 7
  have c21 : w3.cell? ⟨p, 21, none⟩ = some (.int .i64 s.c.tries) := (hbx.at 21).trans rfl
  have f21 := hbx.fr 21
  have c22 : w3.cell? ⟨p, 22, none⟩ = some (.int .i64 s.c.due) := (hbx.at 22).trans rfl
  have f22 := hbx.fr 22
  have hne : p ≠ lb := ne_of_ty hl.1.box hlz (by decide)
  have xx : w3.cell? ⟨lb, 7, none⟩ = some (.int .i64 l.t1) := by
    have := hb3.block lb (Ne.symm hne) (heap_lt hlz)
    rw [World.cell?_of_block (w := wt) this]
    exact (hlz.at 7).trans rfl
  have HSS : Hid (∀ (W : World) (k : Nat) (v : Value), W.cell? ⟨lb, 7, none⟩ = some (.int .i64 l.t1) → (W.setCell ⟨p, k, none⟩ v).cell? ⟨lb, 7, none⟩ = some (.int .i64 l.t1)) := fun W k v a => (World.cell?_setCell_other _ ⟨p, k, none⟩ ⟨lb, 7, none⟩ _ (by simp [hne])).trans a
  have HTE : Hid (∀ W, LC W0 p pd gA ab { s with c := { s.c with l := l, st := 4, tries := 0, due := l.t1 } } wt W → Calls Try.prog 27 #[.agg #[.int .i64 3, .int .u32 0, .int .u32 0, .int .i64 0, .int .i64 0, .int .u32 0, .int .i64 0, .bool false, .int .u32 0, .int .u32 0, .int .u32 0, .int .u32 0, .int .u8 0, .int .u8 0, .int .u8 0, .int .u8 0, .int .u8 0, .int .u8 0, .string ⟨#[]⟩, .string ⟨#[]⟩, .slice none 0 0, .int .u32 l.ip, .int .u32 l.m, .int .u32 l.r, .int .u32 l.sv, .int .u32 l.nx, .string l.file, .int .i64 l.frm, .int .i64 l.t1, .int .i64 l.t2, .int .i64 l.un], .pointer (some ⟨gA, 0, none⟩)] W fun e w' => e = .returned (.tuple #[]) ∧ Hid (LC W0 p pd gA ab (tellS 3 l { s with c := { s.c with l := l, st := 4, tries := 0, due := l.t1 } }) wt w') ∧ (∀ q, w'.cell? ⟨tb, q, none⟩ = (#[.pointer (some ⟨pd, 0, none⟩), .func (.func 27) #[] #[.pointer (some ⟨gA, 0, none⟩)]] : Array Value)[q]?)) := fun W hW => (tell_l 3 l wt W hW (by show s.acts.length < 4096; omega)).mono fun e w' ⟨k1, k2⟩ => ⟨k1, k2, (ht.stay k2.out.2).at⟩
  have HHO : Hid (∀ W, LC W0 p pd gA ab (tellS 3 l { s with c := { s.c with l := l, st := 4, tries := 0, due := l.t1 } }) wt W → Calls Try.prog 47 #[.pointer (some ⟨p, 0, none⟩), turnV pd gA] W fun e w' => e = .returned (.tuple #[]) ∧ Hid (LC W0 p pd gA ab (adoptS l s) wt w')) := fun W hW => (holdOn_any W hW.1 (by show (s.acts ++ _).length < 3990; simp; omega)).mono fun e w' ⟨k1, k2⟩ => ⟨k1, hW.trans k2.out⟩
  clear h hn ht hl o hNEW hbx hb3 hlo hlz hne
  generalize adoptS l s = sC at *
  generalize tellS 3 l { s with c := { s.c with l := l, st := 4, tries := 0, due := l.t1 } } = sB at *
  generalize (LS.mk (Cl.mk s.c.own s.c.now 4 s.c.xid s.c.beg s.c.ask l 0 l.t1) s.zs s.acts) = sA at *
  unfold turnV Ls.val Ls.cells at *
  go_enter Try.func37, Try.ntmps37
  go_upto_region 1 with (fail)
  rw [← hwl, ← hlb, ← hwt, ← htb2]
  clear hwl hlb hwt htb htb2
  go_upto_region 2 with (first
    | (refine wpList_store_mid rfl 44 _ _ rfl p 11 #[.int .u32 l.ip, .int .u32 l.m, .int .u32 l.r, .int .u32 l.sv, .int .u32 l.nx, .string l.file, .int .i64 l.frm, .int .i64 l.t1, .int .i64 l.t2, .int .i64 l.un] rfl rfl HTH.out infoLs (ls_one l) ?_; intro w3b HW3; have e3 := HW3.out.trans hw3.symm; subst e3; clear HW3 cl hw3)
    | fail)
  have xy : w3b.drew.cell? ⟨lb, 7, none⟩ = some (.int .i64 l.t1) := xx
  go_region_held_law (fun s' => s'.cell? ⟨lb, 7, none⟩ = some (.int .i64 l.t1)) (first
    | assumption
    | exact xx
    | exact HSS.out _ _ _ xx
    | exact HSS.out _ _ _ (HSS.out _ _ _ xx)
    | exact HSS.out _ _ _ (HSS.out _ _ _ (HSS.out _ _ _ xx))) (first
    | fail)
  all_goals clear c7 f7 c21 f21 c22 f22 xx xy HSS
  all_goals go_wp2_with (first
    | (go_at_call 27; refine (HTE.out _ HU.out).mono ?_; rintro e w4 ⟨rfl, H4, ct4⟩)
    | (go_at_call 47; refine (HHO.out _ H4.out).mono ?_; rintro e w5 ⟨rfl, H5⟩)
    | fail)
  all_goals go_end0
  all_goals exact ⟨rfl, HL.out.trans H5.out⟩
end
end Go.Proofs.Ytgcpoanjjgbfjaa

/-
  Lease: probed, atDue, goOn. Written by mklztim6.py.
-/
namespace Go.Proofs.Ytgcpoanjjgbfjaa
open Go.RowKit
set_option linter.all false

section
variable {W0 : World} {p pd gA : Nat} {ab : Option Nat} {s : LS}
set_option maxRecDepth 20000 in
set_option maxHeartbeats 1000000 in
theorem probed_any (w : World) (h : LW W0 p pd gA ab s w) (hn : s.acts.length < 3980) :
    Calls Try.prog 46 #[.pointer (some ⟨p, 0, none⟩), turnV pd gA] w fun e w' => e = .returned (.tuple #[]) ∧ Hid (LC W0 p pd gA ab (probedS s) w w') := by
  obtain ⟨wt, hwt⟩ : ∃ W, W = w.alloc (.cells (#[.pointer (some ⟨pd, 0, none⟩), .func (.func 27) #[] #[.pointer (some ⟨gA, 0, none⟩)]] : Array Value) 60) := ⟨_, rfl⟩
  obtain ⟨tb, htb⟩ : ∃ g, g = w.heap.size := ⟨_, rfl⟩
  obtain ⟨hl, ht⟩ := turn_laid h hwt htb
  have HL := hid hl
  have HT := hid ht
  have ct := ht.at
  have hb := hl.box
  have c20 : wt.cell? ⟨p, 20, none⟩ = some (.int .i64 s.c.l.un) := (hb.at 20).trans rfl
  have xx : (∀ q, wt.cell? ⟨tb, q, none⟩ = (#[.pointer (some ⟨pd, 0, none⟩), .func (.func 27) #[] #[.pointer (some ⟨gA, 0, none⟩)]] : Array Value)[q]?) ∧ (∀ q, wt.cell? ⟨p, q, none⟩ = (#[.int .u8 s.c.own.b0, .int .u8 s.c.own.b1, .int .u8 s.c.own.b2, .int .u8 s.c.own.b3, .int .u8 s.c.own.b4, .int .u8 s.c.own.b5, .int .i64 s.c.now, .int .i64 s.c.st, .int .u32 s.c.xid, .int .i64 s.c.beg, .int .i64 s.c.ask, .int .u32 s.c.l.ip, .int .u32 s.c.l.m, .int .u32 s.c.l.r, .int .u32 s.c.l.sv, .int .u32 s.c.l.nx, .string s.c.l.file, .int .i64 s.c.l.frm, .int .i64 s.c.l.t1, .int .i64 s.c.l.t2, .int .i64 s.c.l.un, .int .i64 s.c.tries, .int .i64 s.c.due] : Array Value)[q]?) := ⟨ht.at, fun q => hb.at q⟩
  have HDU : Hid (Calls Try.prog 30 #[.pointer (some ⟨p, 0, none⟩), .int .i64 s.c.l.un] wt fun e w' => e = .returned (.bool (dueB s.c.l.un s.c.now)) ∧ w' = wt) := isDue_any _ wt hb
  have HBG : Hid (Calls Try.prog 18 #[.pointer (some ⟨p, 0, none⟩), turnV pd gA] wt fun e w' => e = .returned (.tuple #[]) ∧ Hid (LC W0 p pd gA ab (beginS s) wt w')) := begin_any wt hl.1 (by omega)
  have HAD : Hid (∀ W, LC W0 p pd gA ab s wt W → Calls Try.prog 37 #[.pointer (some ⟨p, 0, none⟩), .agg #[.int .u32 s.c.l.ip, .int .u32 s.c.l.m, .int .u32 s.c.l.r, .int .u32 s.c.l.sv, .int .u32 s.c.l.nx, .string s.c.l.file, .int .i64 s.c.l.frm, .int .i64 s.c.l.t1, .int .i64 s.c.l.t2, .int .i64 s.c.l.un], turnV pd gA] W fun e w' => e = .returned (.tuple #[]) ∧ Hid (LC W0 p pd gA ab (adoptS s.c.l s) wt w')) := fun W hW => (adopt_any s.c.l W hW.1 hn h.ok.c.l).mono fun e w' ⟨k1, k2⟩ => ⟨k1, hW.trans k2.out⟩
  have H0 := hid (LC.refl hl.1)
  have HG : Hid (probedS s = if dueB s.c.l.un s.c.now = true then beginS s else adoptS s.c.l s) := rfl
  clear h hn ht hl hb
  generalize probedS s = sR at *
  rcases Bool.eq_false_or_eq_true (dueB s.c.l.un s.c.now) with d1 | d1
  · rw [HG.out, if_pos d1]
    rw [d1] at HDU
    clear HG HAD xx d1
    unfold turnV at *
    go_enter Try.func46, Try.ntmps46
    go_upto_region 1 with (fail)
    rw [← hwt, ← htb]
    clear hwt htb
    go_wp2_with (first
      | (go_at_call 30; refine HDU.out.mono ?_; rintro e w2 ⟨rfl, rfl⟩)
      | (go_at_call 18; refine HBG.out.mono ?_; rintro e w3 ⟨rfl, H3⟩)
      | fail)
    refine bodyPost_ret (results_none rfl _ _ _) rfl ?_
    exact ⟨rfl, HL.out.trans H3.out⟩
  · rw [HG.out, if_neg (by simp [d1])]
    rw [d1] at HDU
    clear HG HBG d1
    unfold turnV at *
    go_enter Try.func46, Try.ntmps46
    go_upto_region 1 with (fail)
    rw [← hwt, ← htb]
    clear hwt htb
    go_upto_region 3 with (first
      | (go_at_call 30; refine HDU.out.mono ?_; rintro e w2 ⟨rfl, rfl⟩)
      | fail)
    clear ct c20 HDU
    refine wp_region_noPanic ?_
    refine wp_region_last (S := fun w' => (∀ q, w'.cell? ⟨tb, q, none⟩ = (#[.pointer (some ⟨pd, 0, none⟩), .func (.func 27) #[] #[.pointer (some ⟨gA, 0, none⟩)]] : Array Value)[q]?) ∧ (∀ q, w'.cell? ⟨p, q, none⟩ = (#[.int .u8 s.c.own.b0, .int .u8 s.c.own.b1, .int .u8 s.c.own.b2, .int .u8 s.c.own.b3, .int .u8 s.c.own.b4, .int .u8 s.c.own.b5, .int .i64 s.c.now, .int .i64 s.c.st, .int .u32 s.c.xid, .int .i64 s.c.beg, .int .i64 s.c.ask, .int .u32 s.c.l.ip, .int .u32 s.c.l.m, .int .u32 s.c.l.r, .int .u32 s.c.l.sv, .int .u32 s.c.l.nx, .string s.c.l.file, .int .i64 s.c.l.frm, .int .i64 s.c.l.t1, .int .i64 s.c.l.t2, .int .i64 s.c.l.un, .int .i64 s.c.tries, .int .i64 s.c.due] : Array Value)[q]?)) 6 (by kernel_rfl) xx (fun hHeld => ?_)
    refine wpLast_take (i := 0) (n := 12) (oi := { dst := some 14, op := .move (.tmp 0), type := _, pos := _, after := _, guard := none }) (v := .pointer (some ⟨p, 0, none⟩)) rfl (by kernel_rfl) (by kernel_rfl) (by kernel_rfl) (by kernel_rfl) (fun _ _ _ h => h) (Or.inl ⟨by rfl, fun wq hSw => by (try dsimp only at hSw); go_simp⟩) (by assumption) ?_
    try simp only [Act.put, List.setIfInBounds_toArray, List.set_cons_zero, List.set_cons_succ]
    refine wpLast_take (i := 1) (n := 12) (oi := { dst := some 15, op := .move (.tmp 0), type := _, pos := _, after := _, guard := none }) (v := .pointer (some ⟨p, 0, none⟩)) rfl (by kernel_rfl) (by kernel_rfl) (by kernel_rfl) (by kernel_rfl) (fun _ _ _ h => h) (Or.inl ⟨by rfl, fun wq hSw => by (try dsimp only at hSw); go_simp⟩) (by assumption) ?_
    try simp only [Act.put, List.setIfInBounds_toArray, List.set_cons_zero, List.set_cons_succ]
    refine wpLast_take (i := 2) (n := 12) (oi := { dst := some 16, op := .nilCheck (.tmp 15), type := _, pos := _, after := _, guard := none }) (v := .pointer (some ⟨p, 0, none⟩)) rfl (by kernel_rfl) (by kernel_rfl) (by kernel_rfl) (by kernel_rfl) (fun _ _ _ h => h) (Or.inl ⟨by rfl, fun wq hSw => by (try dsimp only at hSw); go_simp⟩) (by assumption) ?_
    try simp only [Act.put, List.setIfInBounds_toArray, List.set_cons_zero, List.set_cons_succ]
    refine wpLast_take (i := 3) (n := 12) (oi := { dst := some 17, op := .fieldAddr 53 (.tmp 16) 6, type := _, pos := _, after := _, guard := none }) (v := .pointer (some ⟨p, 11, none⟩)) rfl (by kernel_rfl) (by kernel_rfl) (by kernel_rfl) (by kernel_rfl) (fun _ _ _ h => h) (Or.inl ⟨by rfl, fun wq hSw => by (try dsimp only at hSw); go_simp⟩) (by assumption) ?_
    try simp only [Act.put, List.setIfInBounds_toArray, List.set_cons_zero, List.set_cons_succ]
    refine wpLast_take (i := 4) (n := 12) (oi := { dst := some 18, op := .load 44 (.tmp 17), type := _, pos := _, after := _, guard := none }) (v := .agg #[.int .u32 s.c.l.ip, .int .u32 s.c.l.m, .int .u32 s.c.l.r, .int .u32 s.c.l.sv, .int .u32 s.c.l.nx, .string s.c.l.file, .int .i64 s.c.l.frm, .int .i64 s.c.l.t1, .int .i64 s.c.l.t2, .int .i64 s.c.l.un]) rfl (by kernel_rfl) (by kernel_rfl) (by kernel_rfl) (by kernel_rfl) (fun _ _ _ h => h) (Or.inl ⟨by rfl, fun wq hSw => by (try dsimp only at hSw); go_simp⟩) (by assumption) ?_
    try simp only [Act.put, List.setIfInBounds_toArray, List.set_cons_zero, List.set_cons_succ]
    refine wpLast_take (i := 5) (n := 12) (oi := { dst := some 19, op := .load 60 (.tmp 3), type := _, pos := _, after := _, guard := none }) (v := .agg (#[.pointer (some ⟨pd, 0, none⟩), .func (.func 27) #[] #[.pointer (some ⟨gA, 0, none⟩)]] : Array Value)) rfl (by kernel_rfl) (by kernel_rfl) (by kernel_rfl) (by kernel_rfl) (fun _ _ _ h => h) (Or.inl ⟨by rfl, fun wq hSw => by (try dsimp only at hSw); go_simp⟩) (by assumption) ?_
    try simp only [Act.put, List.setIfInBounds_toArray, List.set_cons_zero, List.set_cons_succ]
    refine wpLast_one (i := 6) (o := { dst := some 20, op := .call { callee := .value (.func 37), args := #[.tmp 14, .tmp 18, .tmp 19], argTypes := #[26, 44, 60] }, type := _, pos := _, after := _, guard := none }) (by kernel_rfl) rfl (fun K hK => ?_)
    go_simp
    refine (HAD.out _ H0.out.drew).mono ?_
    rintro e w3 ⟨rfl, H3⟩
    refine hK _ _ (Or.inl rfl) ?_
    clear hK
    try simp only [Act.put, List.setIfInBounds_toArray, List.set_cons_zero, List.set_cons_succ]
    refine wpLast_done (by kernel_rfl) ?_ _
    refine NoPanic.normal ?_
    go_wp2
    go_end0
    exact ⟨rfl, HL.out.trans H3.out⟩
end
end Go.Proofs.Ytgcpoanjjgbfjaa

/-
  Lease: atDue, goOn. Written by mklztim8.py.
-/
namespace Go.Proofs.Ytgcpoanjjgbfjaa
open Go.RowKit
set_option linter.all false

section
variable {W0 : World} {p pd gA : Nat} {ab : Option Nat} {s : LS}
/-- what is done at each state's time. -/
def atDueV (p : Nat) : Array Value := #[.func (.func 18) #[.pointer (some ⟨p, 0, none⟩)] #[], .func (.func 45) #[.pointer (some ⟨p, 0, none⟩)] #[], .func (.func 45) #[.pointer (some ⟨p, 0, none⟩)] #[], .func (.func 46) #[.pointer (some ⟨p, 0, none⟩)] #[], .func (.func 47) #[.pointer (some ⟨p, 0, none⟩)] #[], .func (.func 47) #[.pointer (some ⟨p, 0, none⟩)] #[], .func (.func 47) #[.pointer (some ⟨p, 0, none⟩)] #[]]
theorem info7 : (Try.prog.info? 67).map (·.size) = some 7 := by kernel_rfl
theorem zero7 : (Try.prog.info? 67).map (·.zero) = some (some (.agg #[.nilFunc, .nilFunc, .nilFunc, .nilFunc, .nilFunc, .nilFunc, .nilFunc])) := by kernel_rfl
set_option maxRecDepth 20000 in
set_option maxHeartbeats 1000000 in
theorem atDue_any (p : Nat) (w : World) :
    Calls Try.prog 31 #[.pointer (some ⟨p, 0, none⟩)] w fun e w' => e = .returned (.agg (atDueV p)) ∧ Hid (Below w.heap.size w w') := by
  obtain ⟨w1, hw1⟩ : ∃ W, W = w.alloc (.cells #[.nilFunc, .nilFunc, .nilFunc, .nilFunc, .nilFunc, .nilFunc, .nilFunc] 67) := ⟨_, rfl⟩
  have HX : Hid (w1.heap[w.heap.size]? = some (.cells #[.nilFunc, .nilFunc, .nilFunc, .nilFunc, .nilFunc, .nilFunc, .nilFunc] 67 (0, 0))) := by rw [hw1]; exact heap_new _ _
  have HB : Hid (Below w.heap.size w w1) := by rw [hw1]; exact bpush (Below.refl _ _) _
  have mf : ∀ (fn : Fn) (first cap : Array Value) (w : World), (Instr.makeFunc fn first cap).run Try.prog w = .ok (.func fn first cap) w := fun _ _ _ _ => rfl
  obtain ⟨g, hg⟩ : ∃ g, g = w.heap.size := ⟨_, rfl⟩
  rw [← hg] at HX
  unfold atDueV
  go_enter Try.func31, Try.ntmps31
  go_upto_region 1 with (first
    | (refine wpList_alloc_to rfl 67 rfl #[.nilFunc, .nilFunc, .nilFunc, .nilFunc, .nilFunc, .nilFunc, .nilFunc] zero7 ?_)
    | fail)
  rw [← hw1, ← hg]
  have HGG := hid hg
  clear hw1 hg
  go_wp2_with (first
    | (refine wpList_store_row rfl 67 _ _ rfl g #[.func (.func 18) #[.pointer (some ⟨p, 0, none⟩)] #[], .func (.func 45) #[.pointer (some ⟨p, 0, none⟩)] #[], .func (.func 45) #[.pointer (some ⟨p, 0, none⟩)] #[], .func (.func 46) #[.pointer (some ⟨p, 0, none⟩)] #[], .func (.func 47) #[.pointer (some ⟨p, 0, none⟩)] #[], .func (.func 47) #[.pointer (some ⟨p, 0, none⟩)] #[], .func (.func 47) #[.pointer (some ⟨p, 0, none⟩)] #[]] rfl rfl 67 _ HX.out info7 rfl (by first | rfl | kernel_rfl | simp [Value.oneCell', Array.all]) ?_)
    | fail)

  refine bodyPost_ret (v := .agg #[.func (.func 18) #[.pointer (some ⟨p, 0, none⟩)] #[], .func (.func 45) #[.pointer (some ⟨p, 0, none⟩)] #[], .func (.func 45) #[.pointer (some ⟨p, 0, none⟩)] #[], .func (.func 46) #[.pointer (some ⟨p, 0, none⟩)] #[], .func (.func 47) #[.pointer (some ⟨p, 0, none⟩)] #[], .func (.func 47) #[.pointer (some ⟨p, 0, none⟩)] #[], .func (.func 47) #[.pointer (some ⟨p, 0, none⟩)] #[]]) ?_ (by rfl) ⟨rfl, ?_⟩
  · exact results_row1 Try.results31 _ _ g 67 _ (0, 0) _ rfl (setRow_heap _ _ _ _ _ _ HX.out) Try.underlying67 rfl info7
  · exact bbut HB.out (But.setRow _ _ _) (Nat.le_of_eq HGG.out.symm)
set_option maxRecDepth 20000 in
set_option maxHeartbeats 1000000 in
theorem goOn_any (n : Int) (w : World) (h : LW W0 p pd gA ab s w) (hn : s.acts.length < 3970) :
    Calls Try.prog 20 #[.pointer (some ⟨p, 0, none⟩), .int .i64 n, turnV pd gA] w fun e w' => e = .returned (.tuple #[]) ∧ Hid (LC W0 p pd gA ab (goOnS n s) w w') := by
  obtain ⟨wt, hwt⟩ : ∃ W, W = w.alloc (.cells (#[.pointer (some ⟨pd, 0, none⟩), .func (.func 27) #[] #[.pointer (some ⟨gA, 0, none⟩)]] : Array Value) 60) := ⟨_, rfl⟩
  obtain ⟨tb, htb⟩ : ∃ g, g = w.heap.size := ⟨_, rfl⟩
  obtain ⟨hl, ht⟩ := turn_laid h hwt htb
  have HL := hid hl
  have HT := hid ht
  have ct := ht.at
  have HHE : Hid (Calls Try.prog 16 #[.pointer (some ⟨p, 0, none⟩), .int .i64 n] wt fun e w' => e = .returned (.tuple #[]) ∧ Hid (LC W0 p pd gA ab (hearS n s) wt w')) := (hear_any n wt hl.box).mono fun e w' ⟨k1, k2⟩ => ⟨k1, (LC.refl hl.1).upd k2.out.2 k2.out.1 (by
    have o := h.ok.c
    have o1 := o.now
    have o2 := o.beg
    have o3 := o.ask
    refine ⟨o.own, ?_, o.st, o.xid, ?_, ?_, o.l, o.tries, o.due⟩
    · show 0 ≤ min (max s.c.now n) 1125899906842624 ∧ min (max s.c.now n) 1125899906842624 ≤ 1125899906842624
      omega
    · show 0 ≤ s.c.beg ∧ s.c.beg ≤ min (max s.c.now n) 1125899906842624
      omega
    · show 0 ≤ s.c.ask ∧ s.c.ask ≤ min (max s.c.now n) 1125899906842624
      omega)⟩
  obtain ⟨s1, hs1⟩ : ∃ x, x = hearS n s := ⟨_, rfl⟩
  have hsl : s1.acts = s.acts := by rw [hs1]; rfl
  have HG : Hid (goOnS n s = if dueB s1.c.due s1.c.now = true then atDueS s1 else s1) := by rw [hs1]; rfl
  rw [← hs1] at HHE
  clear hs1
  obtain ⟨st, hst⟩ : ∃ x, x = s1.c.st := ⟨_, rfl⟩
  have HDU : Hid (∀ W, LC W0 p pd gA ab s1 wt W → Calls Try.prog 30 #[.pointer (some ⟨p, 0, none⟩), .int .i64 s1.c.due] W fun e w' => e = .returned (.bool (dueB s1.c.due s1.c.now)) ∧ w' = W) := fun W hW => isDue_any _ W hW.box
  have HX : Hid (∀ W, LC W0 p pd gA ab s1 wt W → (∀ q, W.cell? ⟨tb, q, none⟩ = (#[.pointer (some ⟨pd, 0, none⟩), .func (.func 27) #[] #[.pointer (some ⟨gA, 0, none⟩)]] : Array Value)[q]?) ∧ W.cell? ⟨p, 7, none⟩ = some (.int .i64 st)) := fun W hW => ⟨(ht.stay hW.2).at, by rw [hst]; exact (hW.box.at 7).trans rfl⟩
  have HAT : Hid (∀ W, LC W0 p pd gA ab s1 wt W → Calls Try.prog 31 #[.pointer (some ⟨p, 0, none⟩)] W fun e w' => e = .returned (.agg (atDueV p)) ∧ Hid (LC W0 p pd gA ab s1 wt w')) := fun W hW => (atDue_any p W).mono fun e w' ⟨k1, k2⟩ => ⟨k1, hW.below k2.out⟩
  have HD1 : Hid (∀ W, LC W0 p pd gA ab s1 wt W → W.cell? ⟨p, 22, none⟩ = some (.int .i64 s1.c.due)) := fun W hW => (hW.box.at 22).trans rfl
  have HCA : Hid (∀ W, LC W0 p pd gA ab s1 wt W → (st = 0 → Calls Try.prog 18 #[.pointer (some ⟨p, 0, none⟩), turnV pd gA] W fun e w' => e = .returned (.tuple #[]) ∧ Hid (LC W0 p pd gA ab (atDueS s1) wt w')) ∧ (st = 1 ∨ st = 2 → Calls Try.prog 45 #[.pointer (some ⟨p, 0, none⟩), turnV pd gA] W fun e w' => e = .returned (.tuple #[]) ∧ Hid (LC W0 p pd gA ab (atDueS s1) wt w')) ∧ (st = 3 → Calls Try.prog 46 #[.pointer (some ⟨p, 0, none⟩), turnV pd gA] W fun e w' => e = .returned (.tuple #[]) ∧ Hid (LC W0 p pd gA ab (atDueS s1) wt w')) ∧ (4 ≤ st → Calls Try.prog 47 #[.pointer (some ⟨p, 0, none⟩), turnV pd gA] W fun e w' => e = .returned (.tuple #[]) ∧ Hid (LC W0 p pd gA ab (atDueS s1) wt w'))) := fun W hW => by
    have hl1 : s1.acts.length < 3970 := by rw [hsl]; exact hn
    refine ⟨fun e => (begin_any W hW.1 (by omega)).mono fun e' w' ⟨k1, k2⟩ => ⟨k1, ?_⟩, fun e => (askAgain_any W hW.1 (by omega)).mono fun e' w' ⟨k1, k2⟩ => ⟨k1, ?_⟩, fun e => (probed_any W hW.1 (by omega)).mono fun e' w' ⟨k1, k2⟩ => ⟨k1, ?_⟩, fun e => (holdOn_any W hW.1 (by omega)).mono fun e' w' ⟨k1, k2⟩ => ⟨k1, ?_⟩⟩
    · have := hW.trans k2.out
      unfold atDueS
      rw [if_pos (by omega)]
      exact this
    · have := hW.trans k2.out
      unfold atDueS
      rw [if_neg (by omega), if_pos (by omega)]
      exact this
    · have := hW.trans k2.out
      unfold atDueS
      rw [if_neg (by omega), if_neg (by omega), if_pos (by omega)]
      exact this
    · have := hW.trans k2.out
      unfold atDueS
      rw [if_neg (by omega), if_neg (by omega), if_neg (by omega)]
      exact this
  have HST : Hid (∀ W, LC W0 p pd gA ab s1 wt W → 0 ≤ st ∧ st ≤ 6) := fun W hW => by rw [hst]; exact hW.1.ok.c.st
  clear h hn ht hl hsl hst
  generalize goOnS n s = sR at *
  generalize atDueS s1 = sA at *
  unfold turnV atDueV at *
  rcases Bool.eq_false_or_eq_true (dueB s1.c.due s1.c.now) with d1 | d1
  · rw [HG.out, if_pos d1]
    rw [d1] at HDU
    clear HG d1
    generalize s1.c.due = du at *
    go_enter Try.func20, Try.ntmps20
    go_upto_region 1 with (fail)
    rw [← hwt, ← htb]
    clear hwt htb
    go_upto_region 3 with (first
      | (go_at_call 16; refine HHE.out.mono ?_; rintro e w2 ⟨rfl, H2⟩; have c22 := HD1.out _ H2.out; clear ct)
      | (go_at_call 30; refine (HDU.out _ H2.out).mono ?_; rintro e w3 ⟨rfl, rfl⟩)
      | fail)
    clear c22 HHE HDU HD1
    have xx := HX.out _ H2.out
    have hb := HST.out _ H2.out
    have hcases : st = 0 ∨ st = 1 ∨ st = 2 ∨ st = 3 ∨ st = 4 ∨ st = 5 ∨ st = 6 := by omega
    clear hb HST
    rcases hcases with rfl | rfl | rfl | rfl | rfl | rfl | rfl
    · refine wp_region_noPanic ?_
      refine wp_region_last (S := fun w' => (∀ q, w'.cell? ⟨tb, q, none⟩ = (#[.pointer (some ⟨pd, 0, none⟩), .func (.func 27) #[] #[.pointer (some ⟨gA, 0, none⟩)]] : Array Value)[q]?) ∧ w'.cell? ⟨p, 7, none⟩ = some (.int .i64 0)) 8 (by kernel_rfl) xx (fun hHeld => ?_)
      refine wpLast_take (i := 0) (n := 12) (oi := { dst := some 15, op := .move (.tmp 0), type := _, pos := _, after := _, guard := none }) (v := .pointer (some ⟨p, 0, none⟩)) rfl (by kernel_rfl) (by kernel_rfl) (by kernel_rfl) (by kernel_rfl) (fun _ _ _ h => h) (Or.inl ⟨by rfl, fun wq hSw => by (try dsimp only at hSw); go_simp⟩) (by assumption) ?_
      try simp only [Act.put, List.setIfInBounds_toArray, List.set_cons_zero, List.set_cons_succ]
      refine wpLast_take (i := 2) (n := 12) (oi := { dst := some 17, op := .move (.tmp 0), type := _, pos := _, after := _, guard := none }) (v := .pointer (some ⟨p, 0, none⟩)) rfl (by kernel_rfl) (by kernel_rfl) (by kernel_rfl) (by kernel_rfl) (fun _ _ _ h => h) (Or.inl ⟨by rfl, fun wq hSw => by (try dsimp only at hSw); go_simp⟩) (by assumption) ?_
      try simp only [Act.put, List.setIfInBounds_toArray, List.set_cons_zero, List.set_cons_succ]
      refine wpLast_take (i := 3) (n := 12) (oi := { dst := some 18, op := .nilCheck (.tmp 17), type := _, pos := _, after := _, guard := none }) (v := .pointer (some ⟨p, 0, none⟩)) rfl (by kernel_rfl) (by kernel_rfl) (by kernel_rfl) (by kernel_rfl) (fun _ _ _ h => h) (Or.inl ⟨by rfl, fun wq hSw => by (try dsimp only at hSw); go_simp⟩) (by assumption) ?_
      try simp only [Act.put, List.setIfInBounds_toArray, List.set_cons_zero, List.set_cons_succ]
      refine wpLast_take (i := 4) (n := 12) (oi := { dst := some 19, op := .fieldAddr 53 (.tmp 18) 2, type := _, pos := _, after := _, guard := none }) (v := .pointer (some ⟨p, 7, none⟩)) rfl (by kernel_rfl) (by kernel_rfl) (by kernel_rfl) (by kernel_rfl) (fun _ _ _ h => h) (Or.inl ⟨by rfl, fun wq hSw => by (try dsimp only at hSw); go_simp⟩) (by assumption) ?_
      try simp only [Act.put, List.setIfInBounds_toArray, List.set_cons_zero, List.set_cons_succ]
      refine wpLast_take (i := 5) (n := 12) (oi := { dst := some 20, op := .load 3 (.tmp 19), type := _, pos := _, after := _, guard := none }) (v := .int .i64 0) rfl (by kernel_rfl) (by kernel_rfl) (by kernel_rfl) (by kernel_rfl) (fun _ _ _ h => h) (Or.inl ⟨by rfl, fun wq hSw => by (try dsimp only at hSw); go_simp⟩) (by assumption) ?_
      try simp only [Act.put, List.setIfInBounds_toArray, List.set_cons_zero, List.set_cons_succ]
      refine wpLast_take (i := 7) (n := 12) (oi := { dst := some 22, op := .load 60 (.tmp 5), type := _, pos := _, after := _, guard := none }) (v := .agg (#[.pointer (some ⟨pd, 0, none⟩), .func (.func 27) #[] #[.pointer (some ⟨gA, 0, none⟩)]] : Array Value)) rfl (by kernel_rfl) (by kernel_rfl) (by kernel_rfl) (by kernel_rfl) (fun _ _ _ h => h) (Or.inl ⟨by rfl, fun wq hSw => by (try dsimp only at hSw); go_simp⟩) (by assumption) ?_
      try simp only [Act.put, List.setIfInBounds_toArray, List.set_cons_zero, List.set_cons_succ]
      refine wpLast_one (i := 1) (o := { dst := some 16, op := .call { callee := .value (.func 31), args := #[.tmp 15], argTypes := #[26] }, type := _, pos := _, after := _, guard := none }) (by kernel_rfl) rfl (fun K hK => ?_)
      go_simp
      refine (HAT.out _ H2.out.drew).mono ?_
      rintro e w4 ⟨rfl, H4⟩
      refine hK _ _ (Or.inr (HX.out _ H4.out)) ?_
      clear hK
      have xz := HX.out _ H4.out
      try simp only [Act.put, List.setIfInBounds_toArray, List.set_cons_zero, List.set_cons_succ]
      refine wpLast_take (i := 6) (n := 12) (oi := { dst := some 21, op := .index 67 (.tmp 16) (.tmp 20), type := _, pos := _, after := _, guard := none }) (v := .func (.func 18) #[.pointer (some ⟨p, 0, none⟩)] #[]) rfl (by kernel_rfl) (by kernel_rfl) (by kernel_rfl) (by kernel_rfl) (fun _ _ _ h => h) (Or.inl ⟨by rfl, fun wq hSw => by (try dsimp only at hSw); (go_simp; try rfl)⟩) (by assumption) ?_
      try simp only [Act.put, List.setIfInBounds_toArray, List.set_cons_zero, List.set_cons_succ]
      refine wpLast_one (i := 8) (o := { dst := some 23, op := .call { callee := .value (.tmp 21), args := #[.tmp 22], argTypes := #[60] }, type := _, pos := _, after := _, guard := none }) (by kernel_rfl) rfl (fun K hK => ?_)
      go_simp
      refine ((HCA.out _ H4.out).1 rfl).mono ?_
      rintro e w5 ⟨rfl, H5⟩
      refine hK _ _ (Or.inl rfl) ?_
      clear hK
      try simp only [Act.put, List.setIfInBounds_toArray, List.set_cons_zero, List.set_cons_succ]
      refine wpLast_done (by kernel_rfl) ?_ _
      refine NoPanic.normal ?_
      go_wp2
      go_end0
      exact ⟨rfl, HL.out.trans H5.out⟩
    · refine wp_region_noPanic ?_
      refine wp_region_last (S := fun w' => (∀ q, w'.cell? ⟨tb, q, none⟩ = (#[.pointer (some ⟨pd, 0, none⟩), .func (.func 27) #[] #[.pointer (some ⟨gA, 0, none⟩)]] : Array Value)[q]?) ∧ w'.cell? ⟨p, 7, none⟩ = some (.int .i64 1)) 8 (by kernel_rfl) xx (fun hHeld => ?_)
      refine wpLast_take (i := 0) (n := 12) (oi := { dst := some 15, op := .move (.tmp 0), type := _, pos := _, after := _, guard := none }) (v := .pointer (some ⟨p, 0, none⟩)) rfl (by kernel_rfl) (by kernel_rfl) (by kernel_rfl) (by kernel_rfl) (fun _ _ _ h => h) (Or.inl ⟨by rfl, fun wq hSw => by (try dsimp only at hSw); go_simp⟩) (by assumption) ?_
      try simp only [Act.put, List.setIfInBounds_toArray, List.set_cons_zero, List.set_cons_succ]
      refine wpLast_take (i := 2) (n := 12) (oi := { dst := some 17, op := .move (.tmp 0), type := _, pos := _, after := _, guard := none }) (v := .pointer (some ⟨p, 0, none⟩)) rfl (by kernel_rfl) (by kernel_rfl) (by kernel_rfl) (by kernel_rfl) (fun _ _ _ h => h) (Or.inl ⟨by rfl, fun wq hSw => by (try dsimp only at hSw); go_simp⟩) (by assumption) ?_
      try simp only [Act.put, List.setIfInBounds_toArray, List.set_cons_zero, List.set_cons_succ]
      refine wpLast_take (i := 3) (n := 12) (oi := { dst := some 18, op := .nilCheck (.tmp 17), type := _, pos := _, after := _, guard := none }) (v := .pointer (some ⟨p, 0, none⟩)) rfl (by kernel_rfl) (by kernel_rfl) (by kernel_rfl) (by kernel_rfl) (fun _ _ _ h => h) (Or.inl ⟨by rfl, fun wq hSw => by (try dsimp only at hSw); go_simp⟩) (by assumption) ?_
      try simp only [Act.put, List.setIfInBounds_toArray, List.set_cons_zero, List.set_cons_succ]
      refine wpLast_take (i := 4) (n := 12) (oi := { dst := some 19, op := .fieldAddr 53 (.tmp 18) 2, type := _, pos := _, after := _, guard := none }) (v := .pointer (some ⟨p, 7, none⟩)) rfl (by kernel_rfl) (by kernel_rfl) (by kernel_rfl) (by kernel_rfl) (fun _ _ _ h => h) (Or.inl ⟨by rfl, fun wq hSw => by (try dsimp only at hSw); go_simp⟩) (by assumption) ?_
      try simp only [Act.put, List.setIfInBounds_toArray, List.set_cons_zero, List.set_cons_succ]
      refine wpLast_take (i := 5) (n := 12) (oi := { dst := some 20, op := .load 3 (.tmp 19), type := _, pos := _, after := _, guard := none }) (v := .int .i64 1) rfl (by kernel_rfl) (by kernel_rfl) (by kernel_rfl) (by kernel_rfl) (fun _ _ _ h => h) (Or.inl ⟨by rfl, fun wq hSw => by (try dsimp only at hSw); go_simp⟩) (by assumption) ?_
      try simp only [Act.put, List.setIfInBounds_toArray, List.set_cons_zero, List.set_cons_succ]
      refine wpLast_take (i := 7) (n := 12) (oi := { dst := some 22, op := .load 60 (.tmp 5), type := _, pos := _, after := _, guard := none }) (v := .agg (#[.pointer (some ⟨pd, 0, none⟩), .func (.func 27) #[] #[.pointer (some ⟨gA, 0, none⟩)]] : Array Value)) rfl (by kernel_rfl) (by kernel_rfl) (by kernel_rfl) (by kernel_rfl) (fun _ _ _ h => h) (Or.inl ⟨by rfl, fun wq hSw => by (try dsimp only at hSw); go_simp⟩) (by assumption) ?_
      try simp only [Act.put, List.setIfInBounds_toArray, List.set_cons_zero, List.set_cons_succ]
      refine wpLast_one (i := 1) (o := { dst := some 16, op := .call { callee := .value (.func 31), args := #[.tmp 15], argTypes := #[26] }, type := _, pos := _, after := _, guard := none }) (by kernel_rfl) rfl (fun K hK => ?_)
      go_simp
      refine (HAT.out _ H2.out.drew).mono ?_
      rintro e w4 ⟨rfl, H4⟩
      refine hK _ _ (Or.inr (HX.out _ H4.out)) ?_
      clear hK
      have xz := HX.out _ H4.out
      try simp only [Act.put, List.setIfInBounds_toArray, List.set_cons_zero, List.set_cons_succ]
      refine wpLast_take (i := 6) (n := 12) (oi := { dst := some 21, op := .index 67 (.tmp 16) (.tmp 20), type := _, pos := _, after := _, guard := none }) (v := .func (.func 45) #[.pointer (some ⟨p, 0, none⟩)] #[]) rfl (by kernel_rfl) (by kernel_rfl) (by kernel_rfl) (by kernel_rfl) (fun _ _ _ h => h) (Or.inl ⟨by rfl, fun wq hSw => by (try dsimp only at hSw); (go_simp; try rfl)⟩) (by assumption) ?_
      try simp only [Act.put, List.setIfInBounds_toArray, List.set_cons_zero, List.set_cons_succ]
      refine wpLast_one (i := 8) (o := { dst := some 23, op := .call { callee := .value (.tmp 21), args := #[.tmp 22], argTypes := #[60] }, type := _, pos := _, after := _, guard := none }) (by kernel_rfl) rfl (fun K hK => ?_)
      go_simp
      refine ((HCA.out _ H4.out).2.1 (Or.inl rfl)).mono ?_
      rintro e w5 ⟨rfl, H5⟩
      refine hK _ _ (Or.inl rfl) ?_
      clear hK
      try simp only [Act.put, List.setIfInBounds_toArray, List.set_cons_zero, List.set_cons_succ]
      refine wpLast_done (by kernel_rfl) ?_ _
      refine NoPanic.normal ?_
      go_wp2
      go_end0
      exact ⟨rfl, HL.out.trans H5.out⟩
    · refine wp_region_noPanic ?_
      refine wp_region_last (S := fun w' => (∀ q, w'.cell? ⟨tb, q, none⟩ = (#[.pointer (some ⟨pd, 0, none⟩), .func (.func 27) #[] #[.pointer (some ⟨gA, 0, none⟩)]] : Array Value)[q]?) ∧ w'.cell? ⟨p, 7, none⟩ = some (.int .i64 2)) 8 (by kernel_rfl) xx (fun hHeld => ?_)
      refine wpLast_take (i := 0) (n := 12) (oi := { dst := some 15, op := .move (.tmp 0), type := _, pos := _, after := _, guard := none }) (v := .pointer (some ⟨p, 0, none⟩)) rfl (by kernel_rfl) (by kernel_rfl) (by kernel_rfl) (by kernel_rfl) (fun _ _ _ h => h) (Or.inl ⟨by rfl, fun wq hSw => by (try dsimp only at hSw); go_simp⟩) (by assumption) ?_
      try simp only [Act.put, List.setIfInBounds_toArray, List.set_cons_zero, List.set_cons_succ]
      refine wpLast_take (i := 2) (n := 12) (oi := { dst := some 17, op := .move (.tmp 0), type := _, pos := _, after := _, guard := none }) (v := .pointer (some ⟨p, 0, none⟩)) rfl (by kernel_rfl) (by kernel_rfl) (by kernel_rfl) (by kernel_rfl) (fun _ _ _ h => h) (Or.inl ⟨by rfl, fun wq hSw => by (try dsimp only at hSw); go_simp⟩) (by assumption) ?_
      try simp only [Act.put, List.setIfInBounds_toArray, List.set_cons_zero, List.set_cons_succ]
      refine wpLast_take (i := 3) (n := 12) (oi := { dst := some 18, op := .nilCheck (.tmp 17), type := _, pos := _, after := _, guard := none }) (v := .pointer (some ⟨p, 0, none⟩)) rfl (by kernel_rfl) (by kernel_rfl) (by kernel_rfl) (by kernel_rfl) (fun _ _ _ h => h) (Or.inl ⟨by rfl, fun wq hSw => by (try dsimp only at hSw); go_simp⟩) (by assumption) ?_
      try simp only [Act.put, List.setIfInBounds_toArray, List.set_cons_zero, List.set_cons_succ]
      refine wpLast_take (i := 4) (n := 12) (oi := { dst := some 19, op := .fieldAddr 53 (.tmp 18) 2, type := _, pos := _, after := _, guard := none }) (v := .pointer (some ⟨p, 7, none⟩)) rfl (by kernel_rfl) (by kernel_rfl) (by kernel_rfl) (by kernel_rfl) (fun _ _ _ h => h) (Or.inl ⟨by rfl, fun wq hSw => by (try dsimp only at hSw); go_simp⟩) (by assumption) ?_
      try simp only [Act.put, List.setIfInBounds_toArray, List.set_cons_zero, List.set_cons_succ]
      refine wpLast_take (i := 5) (n := 12) (oi := { dst := some 20, op := .load 3 (.tmp 19), type := _, pos := _, after := _, guard := none }) (v := .int .i64 2) rfl (by kernel_rfl) (by kernel_rfl) (by kernel_rfl) (by kernel_rfl) (fun _ _ _ h => h) (Or.inl ⟨by rfl, fun wq hSw => by (try dsimp only at hSw); go_simp⟩) (by assumption) ?_
      try simp only [Act.put, List.setIfInBounds_toArray, List.set_cons_zero, List.set_cons_succ]
      refine wpLast_take (i := 7) (n := 12) (oi := { dst := some 22, op := .load 60 (.tmp 5), type := _, pos := _, after := _, guard := none }) (v := .agg (#[.pointer (some ⟨pd, 0, none⟩), .func (.func 27) #[] #[.pointer (some ⟨gA, 0, none⟩)]] : Array Value)) rfl (by kernel_rfl) (by kernel_rfl) (by kernel_rfl) (by kernel_rfl) (fun _ _ _ h => h) (Or.inl ⟨by rfl, fun wq hSw => by (try dsimp only at hSw); go_simp⟩) (by assumption) ?_
      try simp only [Act.put, List.setIfInBounds_toArray, List.set_cons_zero, List.set_cons_succ]
      refine wpLast_one (i := 1) (o := { dst := some 16, op := .call { callee := .value (.func 31), args := #[.tmp 15], argTypes := #[26] }, type := _, pos := _, after := _, guard := none }) (by kernel_rfl) rfl (fun K hK => ?_)
      go_simp
      refine (HAT.out _ H2.out.drew).mono ?_
      rintro e w4 ⟨rfl, H4⟩
      refine hK _ _ (Or.inr (HX.out _ H4.out)) ?_
      clear hK
      have xz := HX.out _ H4.out
      try simp only [Act.put, List.setIfInBounds_toArray, List.set_cons_zero, List.set_cons_succ]
      refine wpLast_take (i := 6) (n := 12) (oi := { dst := some 21, op := .index 67 (.tmp 16) (.tmp 20), type := _, pos := _, after := _, guard := none }) (v := .func (.func 45) #[.pointer (some ⟨p, 0, none⟩)] #[]) rfl (by kernel_rfl) (by kernel_rfl) (by kernel_rfl) (by kernel_rfl) (fun _ _ _ h => h) (Or.inl ⟨by rfl, fun wq hSw => by (try dsimp only at hSw); (go_simp; try rfl)⟩) (by assumption) ?_
      try simp only [Act.put, List.setIfInBounds_toArray, List.set_cons_zero, List.set_cons_succ]
      refine wpLast_one (i := 8) (o := { dst := some 23, op := .call { callee := .value (.tmp 21), args := #[.tmp 22], argTypes := #[60] }, type := _, pos := _, after := _, guard := none }) (by kernel_rfl) rfl (fun K hK => ?_)
      go_simp
      refine ((HCA.out _ H4.out).2.1 (Or.inr rfl)).mono ?_
      rintro e w5 ⟨rfl, H5⟩
      refine hK _ _ (Or.inl rfl) ?_
      clear hK
      try simp only [Act.put, List.setIfInBounds_toArray, List.set_cons_zero, List.set_cons_succ]
      refine wpLast_done (by kernel_rfl) ?_ _
      refine NoPanic.normal ?_
      go_wp2
      go_end0
      exact ⟨rfl, HL.out.trans H5.out⟩
    · refine wp_region_noPanic ?_
      refine wp_region_last (S := fun w' => (∀ q, w'.cell? ⟨tb, q, none⟩ = (#[.pointer (some ⟨pd, 0, none⟩), .func (.func 27) #[] #[.pointer (some ⟨gA, 0, none⟩)]] : Array Value)[q]?) ∧ w'.cell? ⟨p, 7, none⟩ = some (.int .i64 3)) 8 (by kernel_rfl) xx (fun hHeld => ?_)
      refine wpLast_take (i := 0) (n := 12) (oi := { dst := some 15, op := .move (.tmp 0), type := _, pos := _, after := _, guard := none }) (v := .pointer (some ⟨p, 0, none⟩)) rfl (by kernel_rfl) (by kernel_rfl) (by kernel_rfl) (by kernel_rfl) (fun _ _ _ h => h) (Or.inl ⟨by rfl, fun wq hSw => by (try dsimp only at hSw); go_simp⟩) (by assumption) ?_
      try simp only [Act.put, List.setIfInBounds_toArray, List.set_cons_zero, List.set_cons_succ]
      refine wpLast_take (i := 2) (n := 12) (oi := { dst := some 17, op := .move (.tmp 0), type := _, pos := _, after := _, guard := none }) (v := .pointer (some ⟨p, 0, none⟩)) rfl (by kernel_rfl) (by kernel_rfl) (by kernel_rfl) (by kernel_rfl) (fun _ _ _ h => h) (Or.inl ⟨by rfl, fun wq hSw => by (try dsimp only at hSw); go_simp⟩) (by assumption) ?_
      try simp only [Act.put, List.setIfInBounds_toArray, List.set_cons_zero, List.set_cons_succ]
      refine wpLast_take (i := 3) (n := 12) (oi := { dst := some 18, op := .nilCheck (.tmp 17), type := _, pos := _, after := _, guard := none }) (v := .pointer (some ⟨p, 0, none⟩)) rfl (by kernel_rfl) (by kernel_rfl) (by kernel_rfl) (by kernel_rfl) (fun _ _ _ h => h) (Or.inl ⟨by rfl, fun wq hSw => by (try dsimp only at hSw); go_simp⟩) (by assumption) ?_
      try simp only [Act.put, List.setIfInBounds_toArray, List.set_cons_zero, List.set_cons_succ]
      refine wpLast_take (i := 4) (n := 12) (oi := { dst := some 19, op := .fieldAddr 53 (.tmp 18) 2, type := _, pos := _, after := _, guard := none }) (v := .pointer (some ⟨p, 7, none⟩)) rfl (by kernel_rfl) (by kernel_rfl) (by kernel_rfl) (by kernel_rfl) (fun _ _ _ h => h) (Or.inl ⟨by rfl, fun wq hSw => by (try dsimp only at hSw); go_simp⟩) (by assumption) ?_
      try simp only [Act.put, List.setIfInBounds_toArray, List.set_cons_zero, List.set_cons_succ]
      refine wpLast_take (i := 5) (n := 12) (oi := { dst := some 20, op := .load 3 (.tmp 19), type := _, pos := _, after := _, guard := none }) (v := .int .i64 3) rfl (by kernel_rfl) (by kernel_rfl) (by kernel_rfl) (by kernel_rfl) (fun _ _ _ h => h) (Or.inl ⟨by rfl, fun wq hSw => by (try dsimp only at hSw); go_simp⟩) (by assumption) ?_
      try simp only [Act.put, List.setIfInBounds_toArray, List.set_cons_zero, List.set_cons_succ]
      refine wpLast_take (i := 7) (n := 12) (oi := { dst := some 22, op := .load 60 (.tmp 5), type := _, pos := _, after := _, guard := none }) (v := .agg (#[.pointer (some ⟨pd, 0, none⟩), .func (.func 27) #[] #[.pointer (some ⟨gA, 0, none⟩)]] : Array Value)) rfl (by kernel_rfl) (by kernel_rfl) (by kernel_rfl) (by kernel_rfl) (fun _ _ _ h => h) (Or.inl ⟨by rfl, fun wq hSw => by (try dsimp only at hSw); go_simp⟩) (by assumption) ?_
      try simp only [Act.put, List.setIfInBounds_toArray, List.set_cons_zero, List.set_cons_succ]
      refine wpLast_one (i := 1) (o := { dst := some 16, op := .call { callee := .value (.func 31), args := #[.tmp 15], argTypes := #[26] }, type := _, pos := _, after := _, guard := none }) (by kernel_rfl) rfl (fun K hK => ?_)
      go_simp
      refine (HAT.out _ H2.out.drew).mono ?_
      rintro e w4 ⟨rfl, H4⟩
      refine hK _ _ (Or.inr (HX.out _ H4.out)) ?_
      clear hK
      have xz := HX.out _ H4.out
      try simp only [Act.put, List.setIfInBounds_toArray, List.set_cons_zero, List.set_cons_succ]
      refine wpLast_take (i := 6) (n := 12) (oi := { dst := some 21, op := .index 67 (.tmp 16) (.tmp 20), type := _, pos := _, after := _, guard := none }) (v := .func (.func 46) #[.pointer (some ⟨p, 0, none⟩)] #[]) rfl (by kernel_rfl) (by kernel_rfl) (by kernel_rfl) (by kernel_rfl) (fun _ _ _ h => h) (Or.inl ⟨by rfl, fun wq hSw => by (try dsimp only at hSw); (go_simp; try rfl)⟩) (by assumption) ?_
      try simp only [Act.put, List.setIfInBounds_toArray, List.set_cons_zero, List.set_cons_succ]
      refine wpLast_one (i := 8) (o := { dst := some 23, op := .call { callee := .value (.tmp 21), args := #[.tmp 22], argTypes := #[60] }, type := _, pos := _, after := _, guard := none }) (by kernel_rfl) rfl (fun K hK => ?_)
      go_simp
      refine ((HCA.out _ H4.out).2.2.1 rfl).mono ?_
      rintro e w5 ⟨rfl, H5⟩
      refine hK _ _ (Or.inl rfl) ?_
      clear hK
      try simp only [Act.put, List.setIfInBounds_toArray, List.set_cons_zero, List.set_cons_succ]
      refine wpLast_done (by kernel_rfl) ?_ _
      refine NoPanic.normal ?_
      go_wp2
      go_end0
      exact ⟨rfl, HL.out.trans H5.out⟩
    · refine wp_region_noPanic ?_
      refine wp_region_last (S := fun w' => (∀ q, w'.cell? ⟨tb, q, none⟩ = (#[.pointer (some ⟨pd, 0, none⟩), .func (.func 27) #[] #[.pointer (some ⟨gA, 0, none⟩)]] : Array Value)[q]?) ∧ w'.cell? ⟨p, 7, none⟩ = some (.int .i64 4)) 8 (by kernel_rfl) xx (fun hHeld => ?_)
      refine wpLast_take (i := 0) (n := 12) (oi := { dst := some 15, op := .move (.tmp 0), type := _, pos := _, after := _, guard := none }) (v := .pointer (some ⟨p, 0, none⟩)) rfl (by kernel_rfl) (by kernel_rfl) (by kernel_rfl) (by kernel_rfl) (fun _ _ _ h => h) (Or.inl ⟨by rfl, fun wq hSw => by (try dsimp only at hSw); go_simp⟩) (by assumption) ?_
      try simp only [Act.put, List.setIfInBounds_toArray, List.set_cons_zero, List.set_cons_succ]
      refine wpLast_take (i := 2) (n := 12) (oi := { dst := some 17, op := .move (.tmp 0), type := _, pos := _, after := _, guard := none }) (v := .pointer (some ⟨p, 0, none⟩)) rfl (by kernel_rfl) (by kernel_rfl) (by kernel_rfl) (by kernel_rfl) (fun _ _ _ h => h) (Or.inl ⟨by rfl, fun wq hSw => by (try dsimp only at hSw); go_simp⟩) (by assumption) ?_
      try simp only [Act.put, List.setIfInBounds_toArray, List.set_cons_zero, List.set_cons_succ]
      refine wpLast_take (i := 3) (n := 12) (oi := { dst := some 18, op := .nilCheck (.tmp 17), type := _, pos := _, after := _, guard := none }) (v := .pointer (some ⟨p, 0, none⟩)) rfl (by kernel_rfl) (by kernel_rfl) (by kernel_rfl) (by kernel_rfl) (fun _ _ _ h => h) (Or.inl ⟨by rfl, fun wq hSw => by (try dsimp only at hSw); go_simp⟩) (by assumption) ?_
      try simp only [Act.put, List.setIfInBounds_toArray, List.set_cons_zero, List.set_cons_succ]
      refine wpLast_take (i := 4) (n := 12) (oi := { dst := some 19, op := .fieldAddr 53 (.tmp 18) 2, type := _, pos := _, after := _, guard := none }) (v := .pointer (some ⟨p, 7, none⟩)) rfl (by kernel_rfl) (by kernel_rfl) (by kernel_rfl) (by kernel_rfl) (fun _ _ _ h => h) (Or.inl ⟨by rfl, fun wq hSw => by (try dsimp only at hSw); go_simp⟩) (by assumption) ?_
      try simp only [Act.put, List.setIfInBounds_toArray, List.set_cons_zero, List.set_cons_succ]
      refine wpLast_take (i := 5) (n := 12) (oi := { dst := some 20, op := .load 3 (.tmp 19), type := _, pos := _, after := _, guard := none }) (v := .int .i64 4) rfl (by kernel_rfl) (by kernel_rfl) (by kernel_rfl) (by kernel_rfl) (fun _ _ _ h => h) (Or.inl ⟨by rfl, fun wq hSw => by (try dsimp only at hSw); go_simp⟩) (by assumption) ?_
      try simp only [Act.put, List.setIfInBounds_toArray, List.set_cons_zero, List.set_cons_succ]
      refine wpLast_take (i := 7) (n := 12) (oi := { dst := some 22, op := .load 60 (.tmp 5), type := _, pos := _, after := _, guard := none }) (v := .agg (#[.pointer (some ⟨pd, 0, none⟩), .func (.func 27) #[] #[.pointer (some ⟨gA, 0, none⟩)]] : Array Value)) rfl (by kernel_rfl) (by kernel_rfl) (by kernel_rfl) (by kernel_rfl) (fun _ _ _ h => h) (Or.inl ⟨by rfl, fun wq hSw => by (try dsimp only at hSw); go_simp⟩) (by assumption) ?_
      try simp only [Act.put, List.setIfInBounds_toArray, List.set_cons_zero, List.set_cons_succ]
      refine wpLast_one (i := 1) (o := { dst := some 16, op := .call { callee := .value (.func 31), args := #[.tmp 15], argTypes := #[26] }, type := _, pos := _, after := _, guard := none }) (by kernel_rfl) rfl (fun K hK => ?_)
      go_simp
      refine (HAT.out _ H2.out.drew).mono ?_
      rintro e w4 ⟨rfl, H4⟩
      refine hK _ _ (Or.inr (HX.out _ H4.out)) ?_
      clear hK
      have xz := HX.out _ H4.out
      try simp only [Act.put, List.setIfInBounds_toArray, List.set_cons_zero, List.set_cons_succ]
      refine wpLast_take (i := 6) (n := 12) (oi := { dst := some 21, op := .index 67 (.tmp 16) (.tmp 20), type := _, pos := _, after := _, guard := none }) (v := .func (.func 47) #[.pointer (some ⟨p, 0, none⟩)] #[]) rfl (by kernel_rfl) (by kernel_rfl) (by kernel_rfl) (by kernel_rfl) (fun _ _ _ h => h) (Or.inl ⟨by rfl, fun wq hSw => by (try dsimp only at hSw); (go_simp; try rfl)⟩) (by assumption) ?_
      try simp only [Act.put, List.setIfInBounds_toArray, List.set_cons_zero, List.set_cons_succ]
      refine wpLast_one (i := 8) (o := { dst := some 23, op := .call { callee := .value (.tmp 21), args := #[.tmp 22], argTypes := #[60] }, type := _, pos := _, after := _, guard := none }) (by kernel_rfl) rfl (fun K hK => ?_)
      go_simp
      refine ((HCA.out _ H4.out).2.2.2 (by decide)).mono ?_
      rintro e w5 ⟨rfl, H5⟩
      refine hK _ _ (Or.inl rfl) ?_
      clear hK
      try simp only [Act.put, List.setIfInBounds_toArray, List.set_cons_zero, List.set_cons_succ]
      refine wpLast_done (by kernel_rfl) ?_ _
      refine NoPanic.normal ?_
      go_wp2
      go_end0
      exact ⟨rfl, HL.out.trans H5.out⟩
    · refine wp_region_noPanic ?_
      refine wp_region_last (S := fun w' => (∀ q, w'.cell? ⟨tb, q, none⟩ = (#[.pointer (some ⟨pd, 0, none⟩), .func (.func 27) #[] #[.pointer (some ⟨gA, 0, none⟩)]] : Array Value)[q]?) ∧ w'.cell? ⟨p, 7, none⟩ = some (.int .i64 5)) 8 (by kernel_rfl) xx (fun hHeld => ?_)
      refine wpLast_take (i := 0) (n := 12) (oi := { dst := some 15, op := .move (.tmp 0), type := _, pos := _, after := _, guard := none }) (v := .pointer (some ⟨p, 0, none⟩)) rfl (by kernel_rfl) (by kernel_rfl) (by kernel_rfl) (by kernel_rfl) (fun _ _ _ h => h) (Or.inl ⟨by rfl, fun wq hSw => by (try dsimp only at hSw); go_simp⟩) (by assumption) ?_
      try simp only [Act.put, List.setIfInBounds_toArray, List.set_cons_zero, List.set_cons_succ]
      refine wpLast_take (i := 2) (n := 12) (oi := { dst := some 17, op := .move (.tmp 0), type := _, pos := _, after := _, guard := none }) (v := .pointer (some ⟨p, 0, none⟩)) rfl (by kernel_rfl) (by kernel_rfl) (by kernel_rfl) (by kernel_rfl) (fun _ _ _ h => h) (Or.inl ⟨by rfl, fun wq hSw => by (try dsimp only at hSw); go_simp⟩) (by assumption) ?_
      try simp only [Act.put, List.setIfInBounds_toArray, List.set_cons_zero, List.set_cons_succ]
      refine wpLast_take (i := 3) (n := 12) (oi := { dst := some 18, op := .nilCheck (.tmp 17), type := _, pos := _, after := _, guard := none }) (v := .pointer (some ⟨p, 0, none⟩)) rfl (by kernel_rfl) (by kernel_rfl) (by kernel_rfl) (by kernel_rfl) (fun _ _ _ h => h) (Or.inl ⟨by rfl, fun wq hSw => by (try dsimp only at hSw); go_simp⟩) (by assumption) ?_
      try simp only [Act.put, List.setIfInBounds_toArray, List.set_cons_zero, List.set_cons_succ]
      refine wpLast_take (i := 4) (n := 12) (oi := { dst := some 19, op := .fieldAddr 53 (.tmp 18) 2, type := _, pos := _, after := _, guard := none }) (v := .pointer (some ⟨p, 7, none⟩)) rfl (by kernel_rfl) (by kernel_rfl) (by kernel_rfl) (by kernel_rfl) (fun _ _ _ h => h) (Or.inl ⟨by rfl, fun wq hSw => by (try dsimp only at hSw); go_simp⟩) (by assumption) ?_
      try simp only [Act.put, List.setIfInBounds_toArray, List.set_cons_zero, List.set_cons_succ]
      refine wpLast_take (i := 5) (n := 12) (oi := { dst := some 20, op := .load 3 (.tmp 19), type := _, pos := _, after := _, guard := none }) (v := .int .i64 5) rfl (by kernel_rfl) (by kernel_rfl) (by kernel_rfl) (by kernel_rfl) (fun _ _ _ h => h) (Or.inl ⟨by rfl, fun wq hSw => by (try dsimp only at hSw); go_simp⟩) (by assumption) ?_
      try simp only [Act.put, List.setIfInBounds_toArray, List.set_cons_zero, List.set_cons_succ]
      refine wpLast_take (i := 7) (n := 12) (oi := { dst := some 22, op := .load 60 (.tmp 5), type := _, pos := _, after := _, guard := none }) (v := .agg (#[.pointer (some ⟨pd, 0, none⟩), .func (.func 27) #[] #[.pointer (some ⟨gA, 0, none⟩)]] : Array Value)) rfl (by kernel_rfl) (by kernel_rfl) (by kernel_rfl) (by kernel_rfl) (fun _ _ _ h => h) (Or.inl ⟨by rfl, fun wq hSw => by (try dsimp only at hSw); go_simp⟩) (by assumption) ?_
      try simp only [Act.put, List.setIfInBounds_toArray, List.set_cons_zero, List.set_cons_succ]
      refine wpLast_one (i := 1) (o := { dst := some 16, op := .call { callee := .value (.func 31), args := #[.tmp 15], argTypes := #[26] }, type := _, pos := _, after := _, guard := none }) (by kernel_rfl) rfl (fun K hK => ?_)
      go_simp
      refine (HAT.out _ H2.out.drew).mono ?_
      rintro e w4 ⟨rfl, H4⟩
      refine hK _ _ (Or.inr (HX.out _ H4.out)) ?_
      clear hK
      have xz := HX.out _ H4.out
      try simp only [Act.put, List.setIfInBounds_toArray, List.set_cons_zero, List.set_cons_succ]
      refine wpLast_take (i := 6) (n := 12) (oi := { dst := some 21, op := .index 67 (.tmp 16) (.tmp 20), type := _, pos := _, after := _, guard := none }) (v := .func (.func 47) #[.pointer (some ⟨p, 0, none⟩)] #[]) rfl (by kernel_rfl) (by kernel_rfl) (by kernel_rfl) (by kernel_rfl) (fun _ _ _ h => h) (Or.inl ⟨by rfl, fun wq hSw => by (try dsimp only at hSw); (go_simp; try rfl)⟩) (by assumption) ?_
      try simp only [Act.put, List.setIfInBounds_toArray, List.set_cons_zero, List.set_cons_succ]
      refine wpLast_one (i := 8) (o := { dst := some 23, op := .call { callee := .value (.tmp 21), args := #[.tmp 22], argTypes := #[60] }, type := _, pos := _, after := _, guard := none }) (by kernel_rfl) rfl (fun K hK => ?_)
      go_simp
      refine ((HCA.out _ H4.out).2.2.2 (by decide)).mono ?_
      rintro e w5 ⟨rfl, H5⟩
      refine hK _ _ (Or.inl rfl) ?_
      clear hK
      try simp only [Act.put, List.setIfInBounds_toArray, List.set_cons_zero, List.set_cons_succ]
      refine wpLast_done (by kernel_rfl) ?_ _
      refine NoPanic.normal ?_
      go_wp2
      go_end0
      exact ⟨rfl, HL.out.trans H5.out⟩
    · refine wp_region_noPanic ?_
      refine wp_region_last (S := fun w' => (∀ q, w'.cell? ⟨tb, q, none⟩ = (#[.pointer (some ⟨pd, 0, none⟩), .func (.func 27) #[] #[.pointer (some ⟨gA, 0, none⟩)]] : Array Value)[q]?) ∧ w'.cell? ⟨p, 7, none⟩ = some (.int .i64 6)) 8 (by kernel_rfl) xx (fun hHeld => ?_)
      refine wpLast_take (i := 0) (n := 12) (oi := { dst := some 15, op := .move (.tmp 0), type := _, pos := _, after := _, guard := none }) (v := .pointer (some ⟨p, 0, none⟩)) rfl (by kernel_rfl) (by kernel_rfl) (by kernel_rfl) (by kernel_rfl) (fun _ _ _ h => h) (Or.inl ⟨by rfl, fun wq hSw => by (try dsimp only at hSw); go_simp⟩) (by assumption) ?_
      try simp only [Act.put, List.setIfInBounds_toArray, List.set_cons_zero, List.set_cons_succ]
      refine wpLast_take (i := 2) (n := 12) (oi := { dst := some 17, op := .move (.tmp 0), type := _, pos := _, after := _, guard := none }) (v := .pointer (some ⟨p, 0, none⟩)) rfl (by kernel_rfl) (by kernel_rfl) (by kernel_rfl) (by kernel_rfl) (fun _ _ _ h => h) (Or.inl ⟨by rfl, fun wq hSw => by (try dsimp only at hSw); go_simp⟩) (by assumption) ?_
      try simp only [Act.put, List.setIfInBounds_toArray, List.set_cons_zero, List.set_cons_succ]
      refine wpLast_take (i := 3) (n := 12) (oi := { dst := some 18, op := .nilCheck (.tmp 17), type := _, pos := _, after := _, guard := none }) (v := .pointer (some ⟨p, 0, none⟩)) rfl (by kernel_rfl) (by kernel_rfl) (by kernel_rfl) (by kernel_rfl) (fun _ _ _ h => h) (Or.inl ⟨by rfl, fun wq hSw => by (try dsimp only at hSw); go_simp⟩) (by assumption) ?_
      try simp only [Act.put, List.setIfInBounds_toArray, List.set_cons_zero, List.set_cons_succ]
      refine wpLast_take (i := 4) (n := 12) (oi := { dst := some 19, op := .fieldAddr 53 (.tmp 18) 2, type := _, pos := _, after := _, guard := none }) (v := .pointer (some ⟨p, 7, none⟩)) rfl (by kernel_rfl) (by kernel_rfl) (by kernel_rfl) (by kernel_rfl) (fun _ _ _ h => h) (Or.inl ⟨by rfl, fun wq hSw => by (try dsimp only at hSw); go_simp⟩) (by assumption) ?_
      try simp only [Act.put, List.setIfInBounds_toArray, List.set_cons_zero, List.set_cons_succ]
      refine wpLast_take (i := 5) (n := 12) (oi := { dst := some 20, op := .load 3 (.tmp 19), type := _, pos := _, after := _, guard := none }) (v := .int .i64 6) rfl (by kernel_rfl) (by kernel_rfl) (by kernel_rfl) (by kernel_rfl) (fun _ _ _ h => h) (Or.inl ⟨by rfl, fun wq hSw => by (try dsimp only at hSw); go_simp⟩) (by assumption) ?_
      try simp only [Act.put, List.setIfInBounds_toArray, List.set_cons_zero, List.set_cons_succ]
      refine wpLast_take (i := 7) (n := 12) (oi := { dst := some 22, op := .load 60 (.tmp 5), type := _, pos := _, after := _, guard := none }) (v := .agg (#[.pointer (some ⟨pd, 0, none⟩), .func (.func 27) #[] #[.pointer (some ⟨gA, 0, none⟩)]] : Array Value)) rfl (by kernel_rfl) (by kernel_rfl) (by kernel_rfl) (by kernel_rfl) (fun _ _ _ h => h) (Or.inl ⟨by rfl, fun wq hSw => by (try dsimp only at hSw); go_simp⟩) (by assumption) ?_
      try simp only [Act.put, List.setIfInBounds_toArray, List.set_cons_zero, List.set_cons_succ]
      refine wpLast_one (i := 1) (o := { dst := some 16, op := .call { callee := .value (.func 31), args := #[.tmp 15], argTypes := #[26] }, type := _, pos := _, after := _, guard := none }) (by kernel_rfl) rfl (fun K hK => ?_)
      go_simp
      refine (HAT.out _ H2.out.drew).mono ?_
      rintro e w4 ⟨rfl, H4⟩
      refine hK _ _ (Or.inr (HX.out _ H4.out)) ?_
      clear hK
      have xz := HX.out _ H4.out
      try simp only [Act.put, List.setIfInBounds_toArray, List.set_cons_zero, List.set_cons_succ]
      refine wpLast_take (i := 6) (n := 12) (oi := { dst := some 21, op := .index 67 (.tmp 16) (.tmp 20), type := _, pos := _, after := _, guard := none }) (v := .func (.func 47) #[.pointer (some ⟨p, 0, none⟩)] #[]) rfl (by kernel_rfl) (by kernel_rfl) (by kernel_rfl) (by kernel_rfl) (fun _ _ _ h => h) (Or.inl ⟨by rfl, fun wq hSw => by (try dsimp only at hSw); (go_simp; try rfl)⟩) (by assumption) ?_
      try simp only [Act.put, List.setIfInBounds_toArray, List.set_cons_zero, List.set_cons_succ]
      refine wpLast_one (i := 8) (o := { dst := some 23, op := .call { callee := .value (.tmp 21), args := #[.tmp 22], argTypes := #[60] }, type := _, pos := _, after := _, guard := none }) (by kernel_rfl) rfl (fun K hK => ?_)
      go_simp
      refine ((HCA.out _ H4.out).2.2.2 (by decide)).mono ?_
      rintro e w5 ⟨rfl, H5⟩
      refine hK _ _ (Or.inl rfl) ?_
      clear hK
      try simp only [Act.put, List.setIfInBounds_toArray, List.set_cons_zero, List.set_cons_succ]
      refine wpLast_done (by kernel_rfl) ?_ _
      refine NoPanic.normal ?_
      go_wp2
      go_end0
      exact ⟨rfl, HL.out.trans H5.out⟩
  · rw [HG.out, if_neg (by simp [d1])]
    rw [d1] at HDU
    clear HG d1
    generalize s1.c.due = du at *
    go_enter Try.func20, Try.ntmps20
    go_upto_region 1 with (fail)
    rw [← hwt, ← htb]
    clear hwt htb
    go_wp2_with (first
      | (go_at_call 16; refine HHE.out.mono ?_; rintro e w2 ⟨rfl, H2⟩; have c22 := HD1.out _ H2.out; clear ct)
      | (go_at_call 30; refine (HDU.out _ H2.out).mono ?_; rintro e w3 ⟨rfl, rfl⟩)
      | fail)
    go_end0
    exact ⟨rfl, HL.out.trans H2.out⟩
end
end Go.Proofs.Ytgcpoanjjgbfjaa
