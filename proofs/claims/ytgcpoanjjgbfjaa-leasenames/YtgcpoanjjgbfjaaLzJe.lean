import Derived.Test.YtgcpoanjjgbfjaaLzJd
/-
  Lease: question, ask, begin, askAgain, rest, letGo. Written by mklztim.py.
-/
namespace Go.Proofs.Ytgcpoanjjgbfjaa
open Go.RowKit
set_option linter.all false

section
variable {W0 : World} {p pd gA : Nat} {ab : Option Nat} {s : LS}
theorem LC.upd {w W W' : World} (h : LC W0 p pd gA ab s w W) (hb : But p W W') {c' : Cl} (hbox : BoxC W' p c') (hok : c'.ok) : LC W0 p pd gA ab { s with c := c' } w W' := ⟨h.1.set hb hbox hok, h.2.trans (Stay.of_but hb h.1.box (Or.inl rfl))⟩
theorem LC.drawn {w W W' : World} (h : LC W0 p pd gA ab s w W) {zs : List Int} (hz : Words zs) (hf : zs.length ≤ maxLen) (hu : ∀ a c, DiceW 56 W pd a c s.zs → blk a = ab → ∃ a' c', DiceW 56 W' pd a' c' zs ∧ blk a' = ab) (hb : But pd W W') : LC W0 p pd gA ab { s with zs := zs } w W' := by
  obtain ⟨a, c, d1, d2⟩ := h.1.dice
  exact ⟨h.1.drawn hz hf hu hb, h.2.trans (Stay.of_but hb d1.box (Or.inr (Or.inl rfl)))⟩
theorem tail_few {zs : List Int} (h : zs.length ≤ maxLen) : zs.tail.length ≤ maxLen := by rw [List.length_tail]; omega
theorem next_c (w W : World) (h : LC W0 p pd gA ab s w W) :
    Calls Try.prog 40 #[.pointer (some ⟨pd, 0, none⟩)] W fun e w' => e = .returned (.int .u32 (hd0 s.zs)) ∧ Hid (LC W0 p pd gA ab { s with zs := s.zs.tail } w w') := by
  obtain ⟨a, c, d1, d2⟩ := h.1.dice
  refine (next_any pd a c s.zs W d1 h.1.ok.few).mono ?_
  rintro e w' ⟨rfl, a', c', hN⟩
  have hbx := d1.box
  refine ⟨rfl, ⟨⟨keptBut h.1.box hN.only (Ne.symm h.1.pd_ne), ⟨a', c', hN.dice, hN.blk.trans d2⟩, ?_, h.1.old.trans ((Only.of_but hN.only rfl).mono fun k hk => Or.inr hk.symm), h.1.lp, h.1.ld, h.1.lab, h.1.lg, ⟨h.1.ok.c, h.1.ok.words.tail, tail_few h.1.ok.few⟩⟩, h.2.trans (Stay.of_but hN.only hbx (Or.inr (Or.inl rfl)))⟩⟩
  obtain ⟨a1, n1, c1, E, v1, v2, v3⟩ := h.1.var
  refine ⟨a1, n1, c1, E, keptBut v1 hN.only (ne_of_ty v1 hbx (by decide)), v2.keep fun b hi => hN.only.block b (fun e => ?_) (v2.lt hi).2, v3⟩
  obtain ⟨cur, t, f, o1, o2⟩ := v2.objT hi
  refine ne_of_ty o1 hbx ?_ e
  rcases o2 with rfl | rfl | rfl <;> decide
theorem back_c (tries : Int) (w W : World) (h : LC W0 p pd gA ab s w W) (h3 : -9223372036854775808 ≤ tries ∧ tries ≤ 9223372036854775807) :
    Calls Try.prog 44 #[.pointer (some ⟨pd, 0, none⟩), .int .i64 40, .int .i64 640, .int .i64 tries] W fun e w' => e = .returned (.int .i64 (waitI (aboutI 40 640 tries) (hd0 s.zs))) ∧ Hid (LC W0 p pd gA ab { s with zs := s.zs.tail } w w') := by
  obtain ⟨a, c, d1, d2⟩ := h.1.dice
  refine (backoff_any pd a c s.zs 40 640 tries W d1 h.1.ok.few h3).mono ?_
  rintro e w' ⟨rfl, hU⟩
  obtain ⟨a', c', u1, u2, u3⟩ := hU.out
  have hbx := d1.box
  refine ⟨rfl, ⟨⟨keptBut h.1.box u3 (Ne.symm h.1.pd_ne), ⟨a', c', u1, u2.trans d2⟩, ?_, h.1.old.trans ((Only.of_but u3 rfl).mono fun k hk => Or.inr hk.symm), h.1.lp, h.1.ld, h.1.lab, h.1.lg, ⟨h.1.ok.c, h.1.ok.words.tail, tail_few h.1.ok.few⟩⟩, h.2.trans (Stay.of_but u3 hbx (Or.inr (Or.inl rfl)))⟩⟩
  obtain ⟨a1, n1, c1, E, v1, v2, v3⟩ := h.1.var
  refine ⟨a1, n1, c1, E, keptBut v1 u3 (ne_of_ty v1 hbx (by decide)), v2.keep fun b hi => u3.block b (fun e => ?_) (v2.lt hi).2, v3⟩
  obtain ⟨cur, t, f, o1, o2⟩ := v2.objT hi
  refine ne_of_ty o1 hbx ?_ e
  rcases o2 with rfl | rfl | rfl <;> decide
theorem wait_c (n : Int) (w W : World) (h : LC W0 p pd gA ab s w W) (hn : 0 ≤ n ∧ n ≤ 1125899906842624) :
    Calls Try.prog 43 #[.pointer (some ⟨p, 0, none⟩), .int .i64 n] W fun e w' => e = .returned (.tuple #[]) ∧ Hid (LC W0 p pd gA ab (waitS n s) w w') :=
  (wait_any n W h.box h.1.ok.c ⟨by omega, hn.2⟩).mono fun e w' ⟨k1, k2⟩ => ⟨k1, h.upd k2.out.2 k2.out.1 (by
    have o := h.1.ok.c
    have o1 := o.now
    exact ⟨o.own, o.now, o.st, o.xid, o.beg, o.ask, o.l, o.tries, by show Tm (bhd s.c.now n); unfold bhd Tm; omega⟩)⟩
theorem waitI_bd (b d : Int) (hb : 1 ≤ b ∧ b ≤ 1125899906842624) (hd : 0 ≤ d ∧ d ≤ 4294967295) : -1125899906842625 ≤ waitI b d ∧ waitI b d ≤ 1125899906842624 := by
  have := restI_bd (d := d) (gap := b / 2) hd (by omega)
  unfold waitI
  omega
theorem aboutI_640 (n : Int) : 1 ≤ aboutI 40 640 n ∧ aboutI 40 640 n ≤ 640 := by
  have h3 := dbl_bd (n - 1).toNat (timeI 40) (timeI 640) (by decide) (by decide)
  have : timeI 640 = 640 := by decide
  unfold aboutI
  omega
theorem backI_bd {s : LS} (hw : Words s.zs) : 1 ≤ backI s ∧ backI s ≤ 1600 := by
  have h1 := aboutI_640 s.c.tries
  have h2 := hd0_words hw
  have := restI_bd (d := hd0 s.zs) (gap := aboutI 40 640 s.c.tries / 2) h2 (by omega)
  unfold backI waitI
  omega
set_option maxRecDepth 20000 in
set_option maxHeartbeats 1000000 in
theorem question_any (w : World) (h : LW W0 p pd gA ab s w) (hn : s.acts.length < 4000) :
    Calls Try.prog 28 #[.pointer (some ⟨p, 0, none⟩), turnV pd gA] w fun e w' => e = .returned (.tuple #[]) ∧ Hid (LC W0 p pd gA ab (questionS s) w w') := by
  obtain ⟨wt, hwt⟩ : ∃ W, W = w.alloc (.cells (#[.pointer (some ⟨pd, 0, none⟩), .func (.func 27) #[] #[.pointer (some ⟨gA, 0, none⟩)]] : Array Value) 60) := ⟨_, rfl⟩
  obtain ⟨tb, htb⟩ : ∃ g, g = w.heap.size := ⟨_, rfl⟩
  obtain ⟨hl, ht⟩ := turn_laid h hwt htb
  have HL := hid hl
  have HT := hid ht
  obtain ⟨now, hnow⟩ : ∃ n, n = s.c.now := ⟨_, rfl⟩
  have HX : Hid (∀ W s', LC W0 p pd gA ab s' wt W → s'.c = s.c → (∀ q, W.cell? ⟨tb, q, none⟩ = (#[.pointer (some ⟨pd, 0, none⟩), .func (.func 27) #[] #[.pointer (some ⟨gA, 0, none⟩)]] : Array Value)[q]?) ∧ W.cell? ⟨p, 6, none⟩ = some (.int .i64 now)) := fun W s' hW hc => ⟨fun q => (ht.stay hW.2).at q, by rw [hnow, ← hc]; exact (hW.box.at 6).trans rfl⟩
  have HNX : Hid (∀ W, LC W0 p pd gA ab s wt W → Calls Try.prog 40 #[.pointer (some ⟨pd, 0, none⟩)] W fun e w' => e = .returned (.int .u32 (hd0 s.zs)) ∧ Hid (LC W0 p pd gA ab { s with zs := s.zs.tail } wt w') ∧ ((∀ q, w'.cell? ⟨tb, q, none⟩ = (#[.pointer (some ⟨pd, 0, none⟩), .func (.func 27) #[] #[.pointer (some ⟨gA, 0, none⟩)]] : Array Value)[q]?) ∧ w'.cell? ⟨p, 6, none⟩ = some (.int .i64 now)) ∧ w'.cell? ⟨p, 8, none⟩ = some (.int .u32 s.c.xid) ∧ w'.cell? ⟨p, 9, none⟩ = some (.int .i64 s.c.beg) ∧ w'.frozen? ⟨p, 8, none⟩ = false ∧ w'.frozen? ⟨p, 9, none⟩ = false) := fun W hW => (next_c wt W hW).mono fun e w' ⟨k1, k2⟩ => ⟨k1, k2, HX.out _ _ k2.out rfl, (k2.out.box.at 8).trans rfl, (k2.out.box.at 9).trans rfl, k2.out.box.fr 8, k2.out.box.fr 9⟩
  have hne : p ≠ tb := ne_of_ty hl.1.box ht (by decide)
  have HSS : Hid (∀ (W : World) (v : Value), ((∀ q, W.cell? ⟨tb, q, none⟩ = (#[.pointer (some ⟨pd, 0, none⟩), .func (.func 27) #[] #[.pointer (some ⟨gA, 0, none⟩)]] : Array Value)[q]?) ∧ W.cell? ⟨p, 6, none⟩ = some (.int .i64 now)) → ((∀ q, (W.setCell ⟨p, 8, none⟩ v).cell? ⟨tb, q, none⟩ = (#[.pointer (some ⟨pd, 0, none⟩), .func (.func 27) #[] #[.pointer (some ⟨gA, 0, none⟩)]] : Array Value)[q]?) ∧ (W.setCell ⟨p, 8, none⟩ v).cell? ⟨p, 6, none⟩ = some (.int .i64 now)) ∧ ((∀ q, (W.setCell ⟨p, 9, none⟩ v).cell? ⟨tb, q, none⟩ = (#[.pointer (some ⟨pd, 0, none⟩), .func (.func 27) #[] #[.pointer (some ⟨gA, 0, none⟩)]] : Array Value)[q]?) ∧ (W.setCell ⟨p, 9, none⟩ v).cell? ⟨p, 6, none⟩ = some (.int .i64 now))) := fun W v ⟨a1, a2⟩ => ⟨⟨fun q => (World.cell?_setCell_other _ ⟨p, 8, none⟩ ⟨tb, q, none⟩ _ (by simp [hne])).trans (a1 q), (World.cell?_setCell_other _ ⟨p, 8, none⟩ ⟨p, 6, none⟩ _ (by simp)).trans a2⟩, ⟨fun q => (World.cell?_setCell_other _ ⟨p, 9, none⟩ ⟨tb, q, none⟩ _ (by simp [hne])).trans (a1 q), (World.cell?_setCell_other _ ⟨p, 9, none⟩ ⟨p, 6, none⟩ _ (by simp)).trans a2⟩⟩
  have qok : (questionS s).c.ok := by
    have o := h.ok.c
    have o2 := hd0_words h.ok.words
    exact ⟨o.own, o.now, o.st, o2, ⟨o.now.1, Int.le_refl _⟩, o.ask, o.l, o.tries, o.due⟩
  have HFI : Hid (∀ W, LC W0 p pd gA ab { s with zs := s.zs.tail } wt W → LC W0 p pd gA ab (questionS s) wt ((W.setCell ⟨p, 8, none⟩ (.int .u32 (hd0 s.zs))).setCell ⟨p, 9, none⟩ (.int .i64 now)) ∧ LC W0 p pd gA ab (questionS s) wt ((W.setCell ⟨p, 9, none⟩ (.int .i64 now)).setCell ⟨p, 8, none⟩ (.int .u32 (hd0 s.zs)))) := fun W hW => ⟨hW.upd ((But.setCell _ _ _ _).trans (But.setCell _ _ _ _)) (by have := (hW.box.xid (hd0 s.zs)).beg now; rw [hnow] at this ⊢; exact this) qok, hW.upd ((But.setCell _ _ _ _).trans (But.setCell _ _ _ _)) (by have := (hW.box.beg now).xid (hd0 s.zs); rw [hnow] at this ⊢; exact this) qok⟩
  have H0 := hid (LC.refl hl.1)
  have xx := HX.out wt s (LC.refl hl.1) rfl
  clear h hn ht hl hnow HX hne qok
  generalize questionS s = s' at *
  generalize hd0 s.zs = dr at *
  generalize s.c.xid = xi at *
  generalize s.c.beg = be at *
  unfold turnV at *
  go_enter Try.func28, Try.ntmps28
  go_upto_region 1 with (fail)
  rw [← hwt, ← htb]
  clear hwt htb
  go_region_held_law (fun s' => (∀ q, s'.cell? ⟨tb, q, none⟩ = (#[.pointer (some ⟨pd, 0, none⟩), .func (.func 27) #[] #[.pointer (some ⟨gA, 0, none⟩)]] : Array Value)[q]?) ∧ s'.cell? ⟨p, 6, none⟩ = some (.int .i64 now)) (first
    | assumption
    | exact xx
    | exact hy
    | exact (HSS.out _ _ hy).1
    | exact (HSS.out _ _ hy).2
    | exact (HSS.out _ _ (HSS.out _ _ hy).1).2
    | exact (HSS.out _ _ (HSS.out _ _ hy).2).1) (first
    | (go_at_call 40; refine (HNX.out _ H0.out.drew).mono ?_; rintro e w2 ⟨rfl, H2, hy, c8, c9, f8, f9⟩)
    | fail)
  all_goals go_end0
  all_goals first
    | exact ⟨rfl, HL.out.trans (HFI.out _ H2.out).1⟩
    | exact ⟨rfl, HL.out.trans (HFI.out _ H2.out).2⟩
end
end Go.Proofs.Ytgcpoanjjgbfjaa

/-
  Lease: ask, rest, letGo, begin, askAgain, probe. Written by mklztim2.py.
-/
namespace Go.Proofs.Ytgcpoanjjgbfjaa
open Go.RowKit
set_option linter.all false

section
variable {W0 : World} {p pd gA : Nat} {ab : Option Nat} {s : LS}
theorem ls_one (l : Ls) : l.cells.all (·.oneCell') = true := by simp [Ls.cells, Value.oneCell']
theorem msgS_c (s : LS) : (msgS s).c = s.c ∧ (msgS s).zs = s.zs := by
  unfold msgS discoverS requestS sendS
  repeat (first | split | exact ⟨rfl, rfl⟩)
theorem msgS_len (s : LS) : (msgS s).acts.length ≤ s.acts.length + 1 := by
  unfold msgS discoverS requestS sendS
  repeat (first | split | simp)
theorem ask_ok {s : LS} (h : s.ok) : (askS s).ok := by
  have h1 := msgS_c s
  have h2 := backI_bd (s := msgS s) (by rw [h1.2]; exact h.words)
  have o := h.c
  refine ⟨⟨?_, ?_, ?_, ?_, ?_, ?_, ?_, ?_, ?_⟩, ?_, ?_⟩ <;> simp only [askS, waitS]
  · rw [h1.1]; exact o.own
  · rw [h1.1]; exact o.now
  · rw [h1.1]; exact o.st
  · rw [h1.1]; exact o.xid
  · rw [h1.1]; exact o.beg
  · rw [h1.1]; exact o.ask
  · rw [h1.1]; exact o.l
  · rw [h1.1]; exact o.tries
  · have := o.now
    rw [h1.1]
    show Tm (bhd s.c.now _)
    unfold Tm bhd
    omega
  · rw [h1.2]; exact h.words.tail
  · rw [h1.2]; exact tail_few h.few
set_option maxRecDepth 20000 in
set_option maxHeartbeats 1000000 in
theorem ask_any (w : World) (h : LW W0 p pd gA ab s w) (hn : s.acts.length < 4000) :
    Calls Try.prog 29 #[.pointer (some ⟨p, 0, none⟩), turnV pd gA] w fun e w' => e = .returned (.tuple #[]) ∧ Hid (LC W0 p pd gA ab (askS s) w w') := by
  obtain ⟨wt, hwt⟩ : ∃ W, W = w.alloc (.cells (#[.pointer (some ⟨pd, 0, none⟩), .func (.func 27) #[] #[.pointer (some ⟨gA, 0, none⟩)]] : Array Value) 60) := ⟨_, rfl⟩
  obtain ⟨tb, htb⟩ : ∃ g, g = w.heap.size := ⟨_, rfl⟩
  obtain ⟨hl, ht⟩ := turn_laid h hwt htb
  have HL := hid hl
  have HT := hid ht
  obtain ⟨tr, htr⟩ : ∃ n, n = s.c.tries := ⟨_, rfl⟩
  have hmc := msgS_c s
  have HX : Hid (∀ W s', LC W0 p pd gA ab s' wt W → s'.c = s.c → (∀ q, W.cell? ⟨tb, q, none⟩ = (#[.pointer (some ⟨pd, 0, none⟩), .func (.func 27) #[] #[.pointer (some ⟨gA, 0, none⟩)]] : Array Value)[q]?) ∧ W.cell? ⟨p, 21, none⟩ = some (.int .i64 tr)) := fun W s' hW hc => ⟨fun q => (ht.stay hW.2).at q, by rw [htr, ← hc]; exact (hW.box.at 21).trans rfl⟩
  have HMS : Hid (∀ W, LC W0 p pd gA ab s wt W → (s.c.st = 1 → Calls Try.prog 41 #[.pointer (some ⟨p, 0, none⟩), turnV pd gA] W fun e w' => e = .returned (.tuple #[]) ∧ Hid (LC W0 p pd gA ab (msgS s) wt w')) ∧ (s.c.st ≠ 1 → Calls Try.prog 42 #[.pointer (some ⟨p, 0, none⟩), turnV pd gA] W fun e w' => e = .returned (.tuple #[]) ∧ Hid (LC W0 p pd gA ab (msgS s) wt w'))) := fun W hW => ⟨fun e => (discover_any W hW.1 (by omega)).mono fun e' w' ⟨k1, k2⟩ => ⟨k1, by have := hW.trans k2.out; unfold msgS; rw [if_pos e]; exact this⟩, fun e => (request_any W hW.1 (by omega)).mono fun e' w' ⟨k1, k2⟩ => ⟨k1, by have := hW.trans k2.out; unfold msgS; rw [if_neg e]; exact this⟩⟩
  have HBK : Hid (∀ W, LC W0 p pd gA ab (msgS s) wt W → Calls Try.prog 44 #[.pointer (some ⟨pd, 0, none⟩), .int .i64 40, .int .i64 640, .int .i64 tr] W fun e w' => e = .returned (.int .i64 (backI (msgS s))) ∧ Hid (LC W0 p pd gA ab { msgS s with zs := (msgS s).zs.tail } wt w') ∧ ((∀ q, w'.cell? ⟨tb, q, none⟩ = (#[.pointer (some ⟨pd, 0, none⟩), .func (.func 27) #[] #[.pointer (some ⟨gA, 0, none⟩)]] : Array Value)[q]?) ∧ w'.cell? ⟨p, 21, none⟩ = some (.int .i64 tr))) := fun W hW => (back_c tr wt W hW (by rw [htr]; have := h.ok.c.tries; omega)).mono fun e w' ⟨k1, k2⟩ => ⟨by rw [k1]; unfold backI; rw [hmc.1, htr], k2, HX.out _ _ k2.out hmc.1⟩
  have HWA : Hid (∀ W, LC W0 p pd gA ab { msgS s with zs := (msgS s).zs.tail } wt W → Calls Try.prog 43 #[.pointer (some ⟨p, 0, none⟩), .int .i64 (backI (msgS s))] W fun e w' => e = .returned (.tuple #[]) ∧ Hid (LC W0 p pd gA ab (askS s) wt w') ∧ ((∀ q, w'.cell? ⟨tb, q, none⟩ = (#[.pointer (some ⟨pd, 0, none⟩), .func (.func 27) #[] #[.pointer (some ⟨gA, 0, none⟩)]] : Array Value)[q]?) ∧ w'.cell? ⟨p, 21, none⟩ = some (.int .i64 tr))) := fun W hW => (wait_c (backI (msgS s)) wt W hW (by
    have := backI_bd (s := msgS s) (by rw [hmc.2]; exact h.ok.words)
    omega)).mono fun e w' ⟨k1, k2⟩ => ⟨k1, k2, fun q => (ht.stay k2.out.2).at q, by
      have hb := (k2.out.box.at 21)
      rw [hb]
      show some (Value.int .i64 (msgS s).c.tries) = _
      rw [hmc.1, htr]⟩
  have H0 := hid (LC.refl hl.1)
  have ct := (HX.out wt s (LC.refl hl.1) rfl).1
  have c7 : wt.cell? ⟨p, 7, none⟩ = some (.int .i64 s.c.st) := (hl.box.at 7).trans rfl
  have HXM : Hid (∀ W, LC W0 p pd gA ab (msgS s) wt W → (∀ q, W.cell? ⟨tb, q, none⟩ = (#[.pointer (some ⟨pd, 0, none⟩), .func (.func 27) #[] #[.pointer (some ⟨gA, 0, none⟩)]] : Array Value)[q]?) ∧ W.cell? ⟨p, 21, none⟩ = some (.int .i64 tr)) := fun W hW => HX.out W _ hW hmc.1
  clear h hn ht hl htr HX hmc
  generalize askS s = sA at *
  generalize backI (msgS s) = bi at *
  generalize (LS.mk (msgS s).c (msgS s).zs.tail (msgS s).acts) = sB at *
  generalize msgS s = sM at *
  generalize s.c.st = st at *
  by_cases h1 : st = 1
  · subst h1
    unfold turnV at *
    go_enter Try.func29, Try.ntmps29
    go_upto_region 1 with (fail)
    rw [← hwt, ← htb]
    clear hwt htb
    go_upto_region 4 with (first
      | (go_at_call 41; refine (((HMS.out _ H0.out).1 rfl).mono ?_); rintro e w2 ⟨rfl, H2⟩)
      | fail)
    have xx := HXM.out _ H2.out
    clear ct c7
    go_region_held_law (fun s' => (∀ q, s'.cell? ⟨tb, q, none⟩ = (#[.pointer (some ⟨pd, 0, none⟩), .func (.func 27) #[] #[.pointer (some ⟨gA, 0, none⟩)]] : Array Value)[q]?) ∧ s'.cell? ⟨p, 21, none⟩ = some (.int .i64 tr)) (first
      | assumption
      | exact xx
      | exact hy
      | exact hz) (first
      | (go_at_call 44; refine (HBK.out _ H2.out.drew).mono ?_; rintro e w3 ⟨rfl, H3, hy⟩)
      | (go_at_call 43; refine (HWA.out _ H3.out).mono ?_; rintro e w4 ⟨rfl, H4, hz⟩)
      | fail)
    all_goals go_end0
    all_goals exact ⟨rfl, HL.out.trans H4.out⟩
  · have h1' : (st == 1) = false := by simpa using h1
    unfold turnV at *
    go_enter Try.func29, Try.ntmps29
    go_upto_region 1 with (fail)
    rw [← hwt, ← htb]
    clear hwt htb
    go_upto_region 4 with (first
      | (go_at_call 42; refine (((HMS.out _ H0.out).2 h1).mono ?_); rintro e w2 ⟨rfl, H2⟩)
      | fail)
    have xx := HXM.out _ H2.out
    clear ct c7
    go_region_held_law (fun s' => (∀ q, s'.cell? ⟨tb, q, none⟩ = (#[.pointer (some ⟨pd, 0, none⟩), .func (.func 27) #[] #[.pointer (some ⟨gA, 0, none⟩)]] : Array Value)[q]?) ∧ s'.cell? ⟨p, 21, none⟩ = some (.int .i64 tr)) (first
      | assumption
      | exact xx
      | exact hy
      | exact hz) (first
      | (go_at_call 44; refine (HBK.out _ H2.out.drew).mono ?_; rintro e w3 ⟨rfl, H3, hy⟩)
      | (go_at_call 43; refine (HWA.out _ H3.out).mono ?_; rintro e w4 ⟨rfl, H4, hz⟩)
      | fail)
    all_goals go_end0
    all_goals exact ⟨rfl, HL.out.trans H4.out⟩
set_option maxRecDepth 20000 in
set_option maxHeartbeats 1000000 in
theorem lrest_any (w W : World) (h : LC W0 p pd gA ab s w W) :
    Calls Try.prog 39 #[.pointer (some ⟨p, 0, none⟩)] W fun e w' => e = .returned (.tuple #[]) ∧ Hid (LC W0 p pd gA ab (restS s) w w') := by
  have HTH := hid (there_of h.1.box 11 10 (by simp [Cl.cells]))
  have o := h.1.ok.c
  have HU : Hid (LC W0 p pd gA ab { s with c := { s.c with l := Ls.zero, st := 0, tries := 0 } } w (((W.setCells p 11 Ls.zero.cells.toList).setCell ⟨p, 7, none⟩ (.int .i64 0)).setCell ⟨p, 21, none⟩ (.int .i64 0))) := h.upd (((But.setCells _ _ _ _).trans (But.setCell _ _ _ _)).trans (But.setCell _ _ _ _)) (((h.box.l Ls.zero).st 0).tries 0) ⟨o.own, o.now, by simp, o.xid, o.beg, o.ask, Ls.zero_ok, by simp, o.due⟩
  have hbx := h.box.l Ls.zero
  have c7 : (W.setCells p 11 Ls.zero.cells.toList).cell? ⟨p, 7, none⟩ = some (.int .i64 s.c.st) := (hbx.at 7).trans rfl
  have f7 := hbx.fr 7
  have hbx2 := hbx.st 0
  have c21 : ((W.setCells p 11 Ls.zero.cells.toList).setCell ⟨p, 7, none⟩ (.int .i64 0)).cell? ⟨p, 21, none⟩ = some (.int .i64 s.c.tries) := (hbx2.at 21).trans rfl
  have f21 := hbx2.fr 21
  have HW := hid (wait_c 100 w _ HU.out (by decide))
  clear h o hbx hbx2
  go_enter Try.func39, Try.ntmps39
  go_wp2_with (first
    | (refine wpList_store_mid rfl 44 _ _ rfl p 11 Ls.zero.cells rfl rfl HTH.out infoLs (ls_one _) ?_; intro w3 HW3; rw [← HW3.out] at c7 f7 c21 f21 HW; clear HW3)
    | (go_at_call 43; refine HW.out.mono ?_; rintro e w4 ⟨rfl, H4⟩)
    | fail)
  go_end0
  exact ⟨rfl, H4⟩
end
end Go.Proofs.Ytgcpoanjjgbfjaa

/-
  Lease: letGo, begin, askAgain, probe. Written by mklztim3.py.
-/
namespace Go.Proofs.Ytgcpoanjjgbfjaa
open Go.RowKit
set_option linter.all false

section
variable {W0 : World} {p pd gA : Nat} {ab : Option Nat} {s : LS}
/-- an act that is no message. -/
theorem tell_l (kind : Int) (l : Ls) (w W : World) (h : LC W0 p pd gA ab s w W) (hn : s.acts.length < 4096) :
    Calls Try.prog 27 #[.agg #[.int .i64 kind, .int .u32 0, .int .u32 0, .int .i64 0, .int .i64 0, .int .u32 0, .int .i64 0, .bool false, .int .u32 0, .int .u32 0, .int .u32 0, .int .u32 0, .int .u8 0, .int .u8 0, .int .u8 0, .int .u8 0, .int .u8 0, .int .u8 0, .string ⟨#[]⟩, .string ⟨#[]⟩, .slice none 0 0, .int .u32 l.ip, .int .u32 l.m, .int .u32 l.r, .int .u32 l.sv, .int .u32 l.nx, .string l.file, .int .i64 l.frm, .int .i64 l.t1, .int .i64 l.t2, .int .i64 l.un], .pointer (some ⟨gA, 0, none⟩)] W fun e w' => e = .returned (.tuple #[]) ∧ Hid (LC W0 p pd gA ab (tellS kind l s) w w') :=
  (tell_any h.1 W (Below.refl _ _) hn (Ac.mk kind 0 0 zeroBp [] l) none 0 0 [] (OwnO.nil _ _) rfl).mono fun e w' ⟨k1, k2⟩ => ⟨k1, h.trans k2.out⟩
set_option maxRecDepth 20000 in
set_option maxHeartbeats 1000000 in
theorem letGo_any (w : World) (h : LW W0 p pd gA ab s w) (hn : s.acts.length < 4000) :
    Calls Try.prog 17 #[.pointer (some ⟨p, 0, none⟩), turnV pd gA] w fun e w' => e = .returned (.tuple #[]) ∧ Hid (LC W0 p pd gA ab (letGoS s) w w') := by
  obtain ⟨wt, hwt⟩ : ∃ W, W = w.alloc (.cells (#[.pointer (some ⟨pd, 0, none⟩), .func (.func 27) #[] #[.pointer (some ⟨gA, 0, none⟩)]] : Array Value) 60) := ⟨_, rfl⟩
  obtain ⟨tb, htb⟩ : ∃ g, g = w.heap.size := ⟨_, rfl⟩
  obtain ⟨hl, ht⟩ := turn_laid h hwt htb
  have HL := hid hl
  have HT := hid ht
  have HX : Hid (∀ W s', LC W0 p pd gA ab s' wt W → s'.c = s.c → (∀ q, W.cell? ⟨tb, q, none⟩ = (#[.pointer (some ⟨pd, 0, none⟩), .func (.func 27) #[] #[.pointer (some ⟨gA, 0, none⟩)]] : Array Value)[q]?) ∧ (∀ q, W.cell? ⟨p, q, none⟩ = (#[.int .u8 s.c.own.b0, .int .u8 s.c.own.b1, .int .u8 s.c.own.b2, .int .u8 s.c.own.b3, .int .u8 s.c.own.b4, .int .u8 s.c.own.b5, .int .i64 s.c.now, .int .i64 s.c.st, .int .u32 s.c.xid, .int .i64 s.c.beg, .int .i64 s.c.ask, .int .u32 s.c.l.ip, .int .u32 s.c.l.m, .int .u32 s.c.l.r, .int .u32 s.c.l.sv, .int .u32 s.c.l.nx, .string s.c.l.file, .int .i64 s.c.l.frm, .int .i64 s.c.l.t1, .int .i64 s.c.l.t2, .int .i64 s.c.l.un, .int .i64 s.c.tries, .int .i64 s.c.due] : Array Value)[q]?)) := fun W s' hW hc => ⟨fun q => (ht.stay hW.2).at q, fun q => by have := hW.box.at q; rw [hc] at this; exact this⟩
  have HHO : Hid (Calls Try.prog 26 #[.pointer (some ⟨p, 0, none⟩)] wt fun e w' => e = .returned (.bool (decide (4 ≤ s.c.st))) ∧ w' = wt) := lholds_any wt hl.box
  have HTE : Hid (∀ W, LC W0 p pd gA ab s wt W → Calls Try.prog 27 #[.agg #[.int .i64 4, .int .u32 0, .int .u32 0, .int .i64 0, .int .i64 0, .int .u32 0, .int .i64 0, .bool false, .int .u32 0, .int .u32 0, .int .u32 0, .int .u32 0, .int .u8 0, .int .u8 0, .int .u8 0, .int .u8 0, .int .u8 0, .int .u8 0, .string ⟨#[]⟩, .string ⟨#[]⟩, .slice none 0 0, .int .u32 s.c.l.ip, .int .u32 s.c.l.m, .int .u32 s.c.l.r, .int .u32 s.c.l.sv, .int .u32 s.c.l.nx, .string s.c.l.file, .int .i64 s.c.l.frm, .int .i64 s.c.l.t1, .int .i64 s.c.l.t2, .int .i64 s.c.l.un], .pointer (some ⟨gA, 0, none⟩)] W fun e w' => e = .returned (.tuple #[]) ∧ Hid (LC W0 p pd gA ab (tellS 4 s.c.l s) wt w') ∧ ((∀ q, w'.cell? ⟨tb, q, none⟩ = (#[.pointer (some ⟨pd, 0, none⟩), .func (.func 27) #[] #[.pointer (some ⟨gA, 0, none⟩)]] : Array Value)[q]?) ∧ (∀ q, w'.cell? ⟨p, q, none⟩ = (#[.int .u8 s.c.own.b0, .int .u8 s.c.own.b1, .int .u8 s.c.own.b2, .int .u8 s.c.own.b3, .int .u8 s.c.own.b4, .int .u8 s.c.own.b5, .int .i64 s.c.now, .int .i64 s.c.st, .int .u32 s.c.xid, .int .i64 s.c.beg, .int .i64 s.c.ask, .int .u32 s.c.l.ip, .int .u32 s.c.l.m, .int .u32 s.c.l.r, .int .u32 s.c.l.sv, .int .u32 s.c.l.nx, .string s.c.l.file, .int .i64 s.c.l.frm, .int .i64 s.c.l.t1, .int .i64 s.c.l.t2, .int .i64 s.c.l.un, .int .i64 s.c.tries, .int .i64 s.c.due] : Array Value)[q]?))) := fun W hW => (tell_l 4 s.c.l wt W hW (by omega)).mono fun e w' ⟨k1, k2⟩ => ⟨k1, k2, HX.out _ _ k2.out rfl⟩
  have H0 := hid (LC.refl hl.1)
  have xx := HX.out wt s (LC.refl hl.1) rfl
  have HG : Hid (letGoS s = if 4 ≤ s.c.st then tellS 4 s.c.l s else s) := rfl
  clear h hn ht hl HX
  by_cases h4 : 4 ≤ s.c.st
  · rw [decide_eq_true h4] at HHO
    rw [HG.out, if_pos h4]
    clear h4 HG
    generalize tellS 4 s.c.l s = sB at *
    unfold turnV at *
    go_enter Try.func17, Try.ntmps17
    go_upto_region 1 with (fail)
    rw [← hwt, ← htb]
    clear hwt htb
    go_upto_region 2 with (first
      | (go_at_call 26; refine HHO.out.mono ?_; rintro e w2 ⟨rfl, rfl⟩)
      | fail)
    clear HHO
    go_region_held_law (fun s' => (∀ q, s'.cell? ⟨tb, q, none⟩ = (#[.pointer (some ⟨pd, 0, none⟩), .func (.func 27) #[] #[.pointer (some ⟨gA, 0, none⟩)]] : Array Value)[q]?) ∧ (∀ q, s'.cell? ⟨p, q, none⟩ = (#[.int .u8 s.c.own.b0, .int .u8 s.c.own.b1, .int .u8 s.c.own.b2, .int .u8 s.c.own.b3, .int .u8 s.c.own.b4, .int .u8 s.c.own.b5, .int .i64 s.c.now, .int .i64 s.c.st, .int .u32 s.c.xid, .int .i64 s.c.beg, .int .i64 s.c.ask, .int .u32 s.c.l.ip, .int .u32 s.c.l.m, .int .u32 s.c.l.r, .int .u32 s.c.l.sv, .int .u32 s.c.l.nx, .string s.c.l.file, .int .i64 s.c.l.frm, .int .i64 s.c.l.t1, .int .i64 s.c.l.t2, .int .i64 s.c.l.un, .int .i64 s.c.tries, .int .i64 s.c.due] : Array Value)[q]?)) (first
      | assumption
      | exact xx
      | exact hy) (first
      | (go_at_call 27; refine (HTE.out _ H0.out.drew).mono ?_; rintro e w3 ⟨rfl, H3, hy⟩)
      | fail)
    all_goals go_end0
    all_goals exact ⟨rfl, HL.out.trans H3.out⟩
  · rw [decide_eq_false h4] at HHO
    rw [HG.out, if_neg h4]
    clear h4 HG
    unfold turnV at *
    go_enter Try.func17, Try.ntmps17
    go_upto_region 1 with (fail)
    rw [← hwt, ← htb]
    clear hwt htb
    go_wp2_with (first
      | (go_at_call 26; refine HHO.out.mono ?_; rintro e w2 ⟨rfl, rfl⟩)
      | fail)
    go_end0
    exact ⟨rfl, HL.out⟩
theorem question_ok {s : LS} (h : s.ok) : (questionS s).ok := by
  have o := h.c
  exact ⟨⟨o.own, o.now, o.st, hd0_words h.words, ⟨o.now.1, Int.le_refl _⟩, o.ask, o.l, o.tries, o.due⟩, h.words.tail, tail_few h.few⟩
set_option maxRecDepth 20000 in
set_option maxHeartbeats 1000000 in
theorem begin_any (w : World) (h : LW W0 p pd gA ab s w) (hn : s.acts.length < 4000) :
    Calls Try.prog 18 #[.pointer (some ⟨p, 0, none⟩), turnV pd gA] w fun e w' => e = .returned (.tuple #[]) ∧ Hid (LC W0 p pd gA ab (beginS s) w w') := by
  obtain ⟨wt, hwt⟩ : ∃ W, W = w.alloc (.cells (#[.pointer (some ⟨pd, 0, none⟩), .func (.func 27) #[] #[.pointer (some ⟨gA, 0, none⟩)]] : Array Value) 60) := ⟨_, rfl⟩
  obtain ⟨tb, htb⟩ : ∃ g, g = w.heap.size := ⟨_, rfl⟩
  obtain ⟨hl, ht⟩ := turn_laid h hwt htb
  have HL := hid hl
  have HT := hid ht
  have ct := ht.at
  have HQ : Hid (Calls Try.prog 28 #[.pointer (some ⟨p, 0, none⟩), turnV pd gA] wt fun e w' => e = .returned (.tuple #[]) ∧ Hid (LC W0 p pd gA ab (questionS s) wt w')) := question_any wt hl.1 hn
  have HAK : Hid (∀ W, LC W0 p pd gA ab { questionS s with c := { (questionS s).c with l := Ls.zero, st := 1, tries := 1 } } wt W → Calls Try.prog 29 #[.pointer (some ⟨p, 0, none⟩), turnV pd gA] W fun e w' => e = .returned (.tuple #[]) ∧ Hid (LC W0 p pd gA ab (beginS s) wt w')) := fun W hW => (ask_any W hW.1 hn).mono fun e w' ⟨k1, k2⟩ => ⟨k1, hW.trans k2.out⟩
  have HOK := hid (question_ok h.ok)
  clear h hn ht hl
  unfold turnV at *
  go_enter Try.func18, Try.ntmps18
  go_upto_region 1 with (fail)
  rw [← hwt, ← htb]
  clear hwt htb
  go_upto_region 2 with (first
    | (go_at_call 28; refine HQ.out.mono ?_; rintro e w2 ⟨rfl, H2⟩)
    | fail)
  clear ct HQ
  have HTH := hid (there_of H2.out.1.box 11 10 (by simp [Cl.cells]))
  have o := HOK.out.c
  have HU : Hid (LC W0 p pd gA ab { questionS s with c := { (questionS s).c with l := Ls.zero, st := 1, tries := 1 } } wt (((w2.setCells p 11 Ls.zero.cells.toList).setCell ⟨p, 7, none⟩ (.int .i64 1)).setCell ⟨p, 21, none⟩ (.int .i64 1))) := H2.out.upd (((But.setCells _ _ _ _).trans (But.setCell _ _ _ _)).trans (But.setCell _ _ _ _)) (((H2.out.box.l Ls.zero).st 1).tries 1) ⟨o.own, o.now, by simp, o.xid, o.beg, o.ask, Ls.zero_ok, by simp, o.due⟩
  have hbx := H2.out.box.l Ls.zero
  have c7 : (w2.setCells p 11 Ls.zero.cells.toList).cell? ⟨p, 7, none⟩ = some (.int .i64 (questionS s).c.st) := (hbx.at 7).trans rfl
  have f7 := hbx.fr 7
  have hbx2 := hbx.st 1
  have c21 : ((w2.setCells p 11 Ls.zero.cells.toList).setCell ⟨p, 7, none⟩ (.int .i64 1)).cell? ⟨p, 21, none⟩ = some (.int .i64 (questionS s).c.tries) := (hbx2.at 21).trans rfl
  have f21 := hbx2.fr 21
  have ct := (HT.out.stay HU.out.2).at
  clear o hbx hbx2
  go_wp2_with (first
    | (refine wpList_store_mid rfl 44 _ _ rfl p 11 Ls.zero.cells rfl rfl HTH.out infoLs (ls_one _) ?_; intro w3 HW3; rw [← HW3.out] at c7 f7 c21 f21 ct HU; clear HW3)
    | (go_at_call 29; refine (HAK.out _ HU.out).mono ?_; rintro e w4 ⟨rfl, H4⟩)
    | fail)
  go_end0
  exact ⟨rfl, HL.out.trans H4.out⟩
set_option maxRecDepth 20000 in
set_option maxHeartbeats 1000000 in
theorem askAgain_any (w : World) (h : LW W0 p pd gA ab s w) (hn : s.acts.length < 4000) :
    Calls Try.prog 45 #[.pointer (some ⟨p, 0, none⟩), turnV pd gA] w fun e w' => e = .returned (.tuple #[]) ∧ Hid (LC W0 p pd gA ab (askAgainS s) w w') := by
  obtain ⟨wt, hwt⟩ : ∃ W, W = w.alloc (.cells (#[.pointer (some ⟨pd, 0, none⟩), .func (.func 27) #[] #[.pointer (some ⟨gA, 0, none⟩)]] : Array Value) 60) := ⟨_, rfl⟩
  obtain ⟨tb, htb⟩ : ∃ g, g = w.heap.size := ⟨_, rfl⟩
  obtain ⟨hl, ht⟩ := turn_laid h hwt htb
  have HL := hid hl
  have HT := hid ht
  have ct := ht.at
  have c21 : wt.cell? ⟨p, 21, none⟩ = some (.int .i64 s.c.tries) := (hl.box.at 21).trans rfl
  have f21 := hl.box.fr 21
  have tb5 := h.ok.c.tries
  have HBG : Hid (Calls Try.prog 18 #[.pointer (some ⟨p, 0, none⟩), turnV pd gA] wt fun e w' => e = .returned (.tuple #[]) ∧ Hid (LC W0 p pd gA ab (beginS s) wt w')) := begin_any wt hl.1 hn
  have HU : Hid (s.c.tries ≠ 5 → LC W0 p pd gA ab { s with c := { s.c with tries := s.c.tries + 1 } } wt (wt.setCell ⟨p, 21, none⟩ (.int .i64 (s.c.tries + 1)))) := fun hne => (LC.refl hl.1).upd (But.setCell _ _ _ _) ((LC.refl hl.1).box.tries _) (by have o := h.ok.c; exact ⟨o.own, o.now, o.st, o.xid, o.beg, o.ask, o.l, by show 0 ≤ s.c.tries + 1 ∧ s.c.tries + 1 ≤ 5; omega, o.due⟩)
  have HCT : Hid (s.c.tries ≠ 5 → ∀ q, (wt.setCell ⟨p, 21, none⟩ (.int .i64 (s.c.tries + 1))).cell? ⟨tb, q, none⟩ = (#[.pointer (some ⟨pd, 0, none⟩), .func (.func 27) #[] #[.pointer (some ⟨gA, 0, none⟩)]] : Array Value)[q]?) := fun hne => (ht.stay (HU.out hne).2).at
  have HAK : Hid (∀ W, LC W0 p pd gA ab { s with c := { s.c with tries := s.c.tries + 1 } } wt W → Calls Try.prog 29 #[.pointer (some ⟨p, 0, none⟩), turnV pd gA] W fun e w' => e = .returned (.tuple #[]) ∧ Hid (LC W0 p pd gA ab (askS { s with c := { s.c with tries := s.c.tries + 1 } }) wt w')) := fun W hW => (ask_any W hW.1 hn).mono fun e w' ⟨k1, k2⟩ => ⟨k1, hW.trans k2.out⟩
  have HG : Hid (askAgainS s = if s.c.tries = 5 then beginS s else askS { s with c := { s.c with tries := s.c.tries + 1 } }) := rfl
  clear h hn ht hl
  generalize askAgainS s = sR at *
  have e1 : IntKind.i64.wrap (s.c.tries + 1) = s.c.tries + 1 := by simp only [IntKind.wrap_i64]; omega
  by_cases h5 : s.c.tries = 5
  · have h5' : (s.c.tries == 5) = true := by simpa using h5
    rw [HG.out, if_pos h5]
    clear HU HCT HAK HG e1 h5 tb5
    generalize beginS s = sB at *
    generalize s.c.tries = tr at *
    unfold turnV at *
    go_enter Try.func45, Try.ntmps45
    go_upto_region 1 with (fail)
    rw [← hwt, ← htb]
    clear hwt htb
    go_wp2_with (first
      | (go_at_call 18; refine HBG.out.mono ?_; rintro e w2 ⟨rfl, H2⟩)
      | fail)
    refine bodyPost_ret (results_none rfl _ _ _) rfl ?_
    exact ⟨rfl, HL.out.trans H2.out⟩
  · have h5' : (s.c.tries == 5) = false := by simpa using h5
    rw [HG.out, if_neg h5]
    have ct2 := HCT.out h5
    have HU2 := hid (HU.out h5)
    clear HBG HU HCT HG h5 tb5
    generalize askS (LS.mk (Cl.mk s.c.own s.c.now s.c.st s.c.xid s.c.beg s.c.ask s.c.l (s.c.tries + 1) s.c.due) s.zs s.acts) = sB at *
    generalize (LS.mk (Cl.mk s.c.own s.c.now s.c.st s.c.xid s.c.beg s.c.ask s.c.l (s.c.tries + 1) s.c.due) s.zs s.acts) = sA at *
    generalize s.c.tries = tr at *
    unfold turnV at *
    go_enter Try.func45, Try.ntmps45
    go_upto_region 1 with (fail)
    rw [← hwt, ← htb]
    clear hwt htb
    go_wp2_with (first
      | (go_at_call 29; refine (HAK.out _ HU2.out).mono ?_; rintro e w2 ⟨rfl, H2⟩)
      | fail)
    go_end0
    exact ⟨rfl, HL.out.trans H2.out⟩
/-- a lease's box and the box of what is lent are laid. -/
def LsB (lb : Nat) (l : Ls) (w : World) : Prop := w.heap[lb]? = some (.cells #[.int .u32 l.ip, .int .u32 l.m, .int .u32 l.r, .int .u32 l.sv, .int .u32 l.nx, .string l.file, .int .i64 l.frm, .int .i64 l.t1, .int .i64 l.t2, .int .i64 l.un] 44 (0, 0))
theorem LsB.stay {lb : Nat} {l : Ls} {w w' : World} (h : LsB lb l w) (hs : Stay w w') : LsB lb l w' := hs.blk h (by decide) (by decide) (by decide) (by decide)
theorem LsB.at {lb : Nat} {l : Ls} {w : World} (h : LsB lb l w) (q : Nat) : w.cell? ⟨lb, q, none⟩ = (#[.int .u32 l.ip, .int .u32 l.m, .int .u32 l.r, .int .u32 l.sv, .int .u32 l.nx, .string l.file, .int .i64 l.frm, .int .i64 l.t1, .int .i64 l.t2, .int .i64 l.un] : Array Value)[q]? := cell_of_heap h q
theorem lease_laid {w wl wt : World} {lb tb : Nat} {l : Ls} (h : LW W0 p pd gA ab s w) (hwl : wl = w.alloc (.cells #[.int .u32 l.ip, .int .u32 l.m, .int .u32 l.r, .int .u32 l.sv, .int .u32 l.nx, .string l.file, .int .i64 l.frm, .int .i64 l.t1, .int .i64 l.t2, .int .i64 l.un] 44)) (hlb : lb = w.heap.size) (hwt : wt = wl.alloc (.cells (#[.pointer (some ⟨pd, 0, none⟩), .func (.func 27) #[] #[.pointer (some ⟨gA, 0, none⟩)]] : Array Value) 60)) (htb : tb = wl.heap.size) : LC W0 p pd gA ab s w wt ∧ TurnB tb pd gA wt ∧ LsB lb l wt := by
  have hb : Below w.heap.size w wl := by rw [hwl]; exact bpush (Below.refl _ _) _
  have hL : LsB lb l wl := by rw [hwl, hlb]; exact heap_new _ _
  have hc := (LC.refl h).below hb
  obtain ⟨h1, h2⟩ := turn_laid hc.1 hwt htb
  exact ⟨hc.trans h1, h2, hL.stay h1.2⟩
end
end Go.Proofs.Ytgcpoanjjgbfjaa
