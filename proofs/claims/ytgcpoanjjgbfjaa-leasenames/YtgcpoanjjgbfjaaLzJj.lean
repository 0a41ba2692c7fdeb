import Derived.Test.YtgcpoanjjgbfjaaLzOn3
/-
  Lease: the closures of Start, Tick and Clash; gather; the calls. Written by mklzcall.py.
-/
namespace Go.Proofs.Ytgcpoanjjgbfjaa
open Go.RowKit
set_option linter.all false

section
variable {W0 : World} {p pd gA : Nat} {ab : Option Nat} {s : LS}
/-- what a closure has captured: the client's pointer, the time. -/
structure CapB (p : Nat) (cb nb : Nat) (now : Int) (w : World) : Prop where
  c : w.heap[cb]? = some (.cells #[.pointer (some ⟨p, 0, none⟩)] 26 (0, 0))
  n : w.heap[nb]? = some (.cells #[.int .i64 now] 3 (0, 0))
theorem CapB.stay {cb nb : Nat} {now : Int} {w w' : World} (h : CapB p cb nb now w) (hs : Stay w w') : CapB p cb nb now w' := ⟨hs.blk h.c (by decide) (by decide) (by decide) (by decide), hs.blk h.n (by decide) (by decide) (by decide) (by decide)⟩
theorem letGoS_ok {s : LS} (h : s.ok) : (letGoS s).ok := by
  have := letGoS_c s
  exact ⟨by rw [this.1]; exact h.c, by rw [this.2]; exact h.words, by rw [this.2]; exact h.few⟩
theorem hear_c (n : Int) (w W : World) (h : LC W0 p pd gA ab s w W) : Calls Try.prog 16 #[.pointer (some ⟨p, 0, none⟩), .int .i64 n] W fun e w' => e = .returned (.tuple #[]) ∧ Hid (LC W0 p pd gA ab (hearS n s) w w') := (hear_any n W h.box).mono fun e w' ⟨k1, k2⟩ => ⟨k1, h.upd k2.out.2 k2.out.1 (by
    have o := h.1.ok.c
    have o1 := o.now
    have o2 := o.beg
    have o3 := o.ask
    refine ⟨o.own, ?_, o.st, o.xid, ?_, ?_, o.l, o.tries, o.due⟩
    · show 0 ≤ min (max s.c.now n) 1125899906842624 ∧ min (max s.c.now n) 1125899906842624 ≤ 1125899906842624
      omega
    · show 0 ≤ s.c.beg ∧ s.c.beg ≤ min (max s.c.now n) 1125899906842624
      omega
    · show 0 ≤ s.c.ask ∧ s.c.ask ≤ min (max s.c.now n) 1125899906842624
      omega)⟩
set_option maxRecDepth 20000 in
set_option maxHeartbeats 1000000 in
theorem startC_any (cb nb : Nat) (now : Int) (w : World) (h : LW W0 p pd gA ab s w) (hn : s.acts.length < 3000) (hc : CapB p cb nb now w) :
    Calls Try.prog 15 #[turnV pd gA, .pointer (some ⟨cb, 0, none⟩), .pointer (some ⟨nb, 0, none⟩)] w fun e w' => e = .returned (.tuple #[]) ∧ Hid (LC W0 p pd gA ab (startS now s) w w') := by
  obtain ⟨wt, hwt⟩ : ∃ W, W = w.alloc (.cells (#[.pointer (some ⟨pd, 0, none⟩), .func (.func 27) #[] #[.pointer (some ⟨gA, 0, none⟩)]] : Array Value) 60) := ⟨_, rfl⟩
  obtain ⟨tb, htb⟩ : ∃ g, g = w.heap.size := ⟨_, rfl⟩
  obtain ⟨hl, ht⟩ := turn_laid h hwt htb
  have HL := hid hl
  have HT := hid ht
  have hcw := hc.stay hl.2
  have HCC : Hid (∀ (W : World) (s' : LS), LC W0 p pd gA ab s' wt W → W.cell? ⟨cb, 0, none⟩ = some (.pointer (some ⟨p, 0, none⟩)) ∧ W.cell? ⟨nb, 0, none⟩ = some (.int .i64 now) ∧ (∀ q, W.cell? ⟨tb, q, none⟩ = (#[.pointer (some ⟨pd, 0, none⟩), .func (.func 27) #[] #[.pointer (some ⟨gA, 0, none⟩)]] : Array Value)[q]?)) := fun W s' hW => ⟨(cell_of_heap (hcw.stay hW.2).c 0).trans rfl, (cell_of_heap (hcw.stay hW.2).n 0).trans rfl, (ht.stay hW.2).at⟩
  obtain ⟨cc, cn, ct⟩ := HCC.out wt s (LC.refl hl.1)
  have HHE : Hid (Calls Try.prog 16 #[.pointer (some ⟨p, 0, none⟩), .int .i64 now] wt fun e w' => e = .returned (.tuple #[]) ∧ Hid (LC W0 p pd gA ab (hearS now s) wt w')) := hear_c now wt wt (LC.refl hl.1)
  have HLG : Hid (∀ W, LC W0 p pd gA ab (hearS now s) wt W → Calls Try.prog 17 #[.pointer (some ⟨p, 0, none⟩), turnV pd gA] W fun e w' => e = .returned (.tuple #[]) ∧ Hid (LC W0 p pd gA ab (letGoS (hearS now s)) wt w')) := fun W hW => (letGo_any W hW.1 (by show s.acts.length < 4000; omega)).mono fun e w' ⟨k1, k2⟩ => ⟨k1, hW.trans k2.out⟩
  have HBG : Hid (∀ W, LC W0 p pd gA ab (letGoS (hearS now s)) wt W → Calls Try.prog 18 #[.pointer (some ⟨p, 0, none⟩), turnV pd gA] W fun e w' => e = .returned (.tuple #[]) ∧ Hid (LC W0 p pd gA ab (startS now s) wt w')) := fun W hW => (begin_any W hW.1 (by have := letGoS_len (hearS now s); have e : (hearS now s).acts.length = s.acts.length := rfl; omega)).mono fun e w' ⟨k1, k2⟩ => ⟨k1, hW.trans k2.out⟩
  clear h hn ht hl hc hcw
  generalize startS now s = sC at *
  generalize letGoS (hearS now s) = sB at *
  generalize hearS now s = sA at *
  unfold turnV at *
  go_enter Try.func15, Try.ntmps15
  go_upto_region 1 with (fail)
  rw [← hwt, ← htb]
  clear hwt htb
  go_wp2_with (first
    | (go_at_call 16; refine HHE.out.mono ?_; rintro e w2 ⟨rfl, H2⟩; obtain ⟨cc2, cn2, ct2⟩ := HCC.out _ _ H2.out; clear cc cn ct)
    | (go_at_call 17; refine (HLG.out _ H2.out).mono ?_; rintro e w3 ⟨rfl, H3⟩; obtain ⟨cc3, cn3, ct3⟩ := HCC.out _ _ H3.out; clear cc2 cn2 ct2)
    | (go_at_call 18; refine (HBG.out _ H3.out).mono ?_; rintro e w4 ⟨rfl, H4⟩)
    | fail)
  go_end0
  exact ⟨rfl, HL.out.trans H4.out⟩
set_option maxRecDepth 20000 in
set_option maxHeartbeats 1000000 in
theorem tickC_any (cb nb : Nat) (now : Int) (w : World) (h : LW W0 p pd gA ab s w) (hn : s.acts.length < 3000) (hc : CapB p cb nb now w) :
    Calls Try.prog 19 #[turnV pd gA, .pointer (some ⟨cb, 0, none⟩), .pointer (some ⟨nb, 0, none⟩)] w fun e w' => e = .returned (.tuple #[]) ∧ Hid (LC W0 p pd gA ab (goOnS now s) w w') := by
  obtain ⟨wt, hwt⟩ : ∃ W, W = w.alloc (.cells (#[.pointer (some ⟨pd, 0, none⟩), .func (.func 27) #[] #[.pointer (some ⟨gA, 0, none⟩)]] : Array Value) 60) := ⟨_, rfl⟩
  obtain ⟨tb, htb⟩ : ∃ g, g = w.heap.size := ⟨_, rfl⟩
  obtain ⟨hl, ht⟩ := turn_laid h hwt htb
  have HL := hid hl
  have HT := hid ht
  have hcw := hc.stay hl.2
  have HCC : Hid (∀ (W : World) (s' : LS), LC W0 p pd gA ab s' wt W → W.cell? ⟨cb, 0, none⟩ = some (.pointer (some ⟨p, 0, none⟩)) ∧ W.cell? ⟨nb, 0, none⟩ = some (.int .i64 now) ∧ (∀ q, W.cell? ⟨tb, q, none⟩ = (#[.pointer (some ⟨pd, 0, none⟩), .func (.func 27) #[] #[.pointer (some ⟨gA, 0, none⟩)]] : Array Value)[q]?)) := fun W s' hW => ⟨(cell_of_heap (hcw.stay hW.2).c 0).trans rfl, (cell_of_heap (hcw.stay hW.2).n 0).trans rfl, (ht.stay hW.2).at⟩
  obtain ⟨cc, cn, ct⟩ := HCC.out wt s (LC.refl hl.1)
  have HGO : Hid (Calls Try.prog 20 #[.pointer (some ⟨p, 0, none⟩), .int .i64 now, turnV pd gA] wt fun e w' => e = .returned (.tuple #[]) ∧ Hid (LC W0 p pd gA ab (goOnS now s) wt w')) := goOn_any now wt hl.1 (by omega)
  clear h hn ht hl hc hcw HCC
  generalize goOnS now s = sA at *
  unfold turnV at *
  go_enter Try.func19, Try.ntmps19
  go_upto_region 1 with (fail)
  rw [← hwt, ← htb]
  clear hwt htb
  go_wp2_with (first
    | (go_at_call 20; refine HGO.out.mono ?_; rintro e w2 ⟨rfl, H2⟩)
    | fail)
  go_end0
  exact ⟨rfl, HL.out.trans H2.out⟩
theorem askS_len (s : LS) : (askS s).acts.length ≤ s.acts.length + 1 := msgS_len s
theorem beginS_len (s : LS) : (beginS s).acts.length ≤ s.acts.length + 1 := by
  have := askS_len { questionS s with c := { (questionS s).c with l := Ls.zero, st := 1, tries := 1 } }
  exact this
theorem holdOnS_len (s : LS) : (holdOnS s).acts.length ≤ s.acts.length + 2 := by
  unfold holdOnS
  split
  · have h1 := beginS_len (letGoS s)
    have h2 := letGoS_len s
    omega
  · have hr : ∀ st, (renewAsS st s).acts.length ≤ s.acts.length + 1 := fun st => requestS_len (questionS { s with c := { s.c with st := st } })
    split
    · have := hr 6; omega
    · split
      · have := hr 5; omega
      · split
        · have : (renewS s).acts.length ≤ s.acts.length + 1 := requestS_len s
          omega
        · omega
theorem adoptS_len (l : Ls) (s : LS) : (adoptS l s).acts.length ≤ s.acts.length + 3 := by
  have := holdOnS_len (tellS 3 l { s with c := { s.c with l := l, st := 4, tries := 0, due := l.t1 } })
  have e : (tellS 3 l { s with c := { s.c with l := l, st := 4, tries := 0, due := l.t1 } }).acts.length = s.acts.length + 1 := by simp [tellS]
  unfold adoptS
  omega
theorem goOnS_len (n : Int) (s : LS) : (goOnS n s).acts.length ≤ s.acts.length + 3 := by
  have e : (hearS n s).acts.length = s.acts.length := rfl
  unfold goOnS
  split
  · unfold atDueS
    split
    · have := beginS_len (hearS n s); omega
    · split
      · unfold askAgainS
        split
        · have := beginS_len (hearS n s); omega
        · refine Nat.le_trans (askS_len _) ?_
          show (hearS n s).acts.length + 1 ≤ _
          omega
      · split
        · unfold probedS
          split
          · have := beginS_len (hearS n s); omega
          · have := adoptS_len (hearS n s).c.l (hearS n s); omega
        · have := holdOnS_len (hearS n s); omega
  · omega
end
/-! ### The calls -/
/-- a client and its dice between calls. -/
structure CD (w : World) (p pd : Nat) (ab : Option Nat) (c : Cl) (zs : List Int) : Prop where
  box : BoxC w p c
  dice : ∃ a cp, DiceW 56 w pd a cp zs ∧ blk a = ab
  ok : (LS.mk c zs []).ok
theorem CD.lab {w : World} {p pd : Nat} {ab : Option Nat} {c : Cl} {zs : List Int} (h : CD w p pd ab c zs) : ∀ b, ab = some b → b < w.heap.size := fun b hb => by
  obtain ⟨a, cp, d1, d2⟩ := h.dice
  exact d1.row.lt (d2.trans hb)
theorem CD.ldp {w : World} {p pd : Nat} {ab : Option Nat} {c : Cl} {zs : List Int} (h : CD w p pd ab c zs) : pd < w.heap.size := by
  obtain ⟨a, cp, d1, d2⟩ := h.dice
  exact heap_lt d1.box
theorem CD.below {w w' : World} {p pd : Nat} {ab : Option Nat} {c : Cl} {zs : List Int} (h : CD w p pd ab c zs) (hb : Below w.heap.size w w') : CD w' p pd ab c zs := by
  obtain ⟨a, cp, d1, d2⟩ := h.dice
  exact ⟨kept h.box hb, ⟨a, cp, d1.below hb, d2⟩, h.ok⟩
/-- a call's acts are being gathered. -/
theorem CD.start {w wA : World} {p pd : Nat} {ab : Option Nat} {c : Cl} {zs : List Int} {gA : Nat} (h : CD w p pd ab c zs) (hw : wA = w.alloc (.cells #[.slice none 0 0] 34)) (hg : gA = w.heap.size) : LW w p pd gA ab ⟨c, zs, []⟩ wA := by
  have hb : Below w.heap.size w wA := by rw [hw]; exact bpush (Below.refl _ _) _
  have h2 := h.below hb
  exact ⟨h2.box, h2.dice, ⟨none, 0, 0, [], by rw [hw, hg]; exact heap_new _ _, ActI.nil _ _, rfl⟩, Only.of_below hb, heap_lt h.box, h.ldp, h.lab, by omega, h.ok⟩
/-- what a call leaves: the client, its dice, the acts that came out. -/
structure CallI (w : World) (p pd : Nat) (ab : Option Nat) (s : LS) (a : Option Addr) (n c : Nat) (w' : World) : Prop where
  cd : CD w' p pd ab s.c s.zs
  acts : ∃ E, ActI w.heap.size w' (.slice a n c) E ∧ E.map (·.1) = s.acts
  only : Only (fun k => k = p ∨ k = pd) w w'
theorem CallI.of {w w0 w' : World} {p pd gA : Nat} {ab : Option Nat} {s : LS} {a : Option Addr} {n c : Nat} {E : List AE} (h : LW w0 p pd gA ab s w') (hA : ActI w0.heap.size w' (.slice a n c) E) (hE : E.map (·.1) = s.acts) (hb : Below w.heap.size w w0) : CallI w p pd ab s a n c w' :=
  ⟨⟨h.box, h.dice, ⟨h.ok.c, h.ok.words, h.ok.few⟩⟩, ⟨E, ⟨hA.row, fun b hb' => Nat.le_trans hb.size (hA.low b hb'), fun p hp => ⟨(hA.opts p hp).1.le hb.size, (hA.opts p hp).2⟩, hA.apart⟩, hE⟩, (Only.of_below hb).trans ⟨h.old.os, h.old.tape, h.old.output, h.old.size, h.old.block⟩⟩
set_option maxRecDepth 20000 in
set_option maxHeartbeats 1000000 in
theorem gatherStart (w : World) (p pd : Nat) (ab : Option Nat) (c : Cl) (zs : List Int) (cb nb : Nat) (now : Int) (h : CD w p pd ab c zs) (hc : CapB p cb nb now w) :
    Calls Try.prog 14 #[.pointer (some ⟨pd, 0, none⟩), .func (.func 15) #[] #[.pointer (some ⟨cb, 0, none⟩), .pointer (some ⟨nb, 0, none⟩)]] w fun e w' => ∃ a n cp, e = .returned (.slice a n cp) ∧ Hid (CallI w p pd ab (startS now ⟨c, zs, []⟩) a n cp w') := by
  obtain ⟨wA, hwA⟩ : ∃ W, W = w.alloc (.cells #[.slice none 0 0] 34) := ⟨_, rfl⟩
  obtain ⟨gA, hgA⟩ : ∃ g, g = w.heap.size := ⟨_, rfl⟩
  have hl := h.start hwA hgA
  have hb : Below w.heap.size w wA := by rw [hwA]; exact bpush (Below.refl _ _) _
  have hcA := hc.stay (Stay.of_below hb)
  have HCL : Hid (Calls Try.prog 15 #[turnV pd gA, .pointer (some ⟨cb, 0, none⟩), .pointer (some ⟨nb, 0, none⟩)] wA fun e w' => e = .returned (.tuple #[]) ∧ Hid (LW w p pd gA ab (startS now ⟨c, zs, []⟩) w')) := (startC_any cb nb now wA hl (by simp) hcA).mono fun e w' ⟨k1, k2⟩ => ⟨k1, k2.out.1⟩
  have mf : ∀ (fn : Fn) (first cap : Array Value) (w : World), (Instr.makeFunc fn first cap).run Try.prog w = .ok (.func fn first cap) w := fun _ _ _ _ => rfl
  clear h hc hl hb hcA
  generalize hres : (startS now ⟨c, zs, []⟩) = sR at *
  unfold turnV at *
  go_enter Try.func14, Try.ntmps14
  go_upto_region 2 with (fail)
  rw [← hwA, ← hgA]
  clear hwA hgA
  go_wp2_with (first
    | (go_at_call 15; refine HCL.out.mono ?_; rintro e w2 ⟨rfl, H2⟩; obtain ⟨av, nv, cv, E, v1, v2, v3⟩ := H2.out.var; have cA := cell_of_heap v1 0; simp only [List.getElem?_toArray, List.getElem?_cons_zero] at cA; have HV2 := hid v2; have HV3 := hid v3; clear v1 v2 v3)
    | fail)
  go_ret
  exact ⟨av, nv, cv, rfl, CallI.of H2.out HV2.out HV3.out (Below.refl _ _)⟩
set_option maxRecDepth 20000 in
set_option maxHeartbeats 1000000 in
theorem gatherTick (w : World) (p pd : Nat) (ab : Option Nat) (c : Cl) (zs : List Int) (cb nb : Nat) (now : Int) (h : CD w p pd ab c zs) (hc : CapB p cb nb now w) :
    Calls Try.prog 14 #[.pointer (some ⟨pd, 0, none⟩), .func (.func 19) #[] #[.pointer (some ⟨cb, 0, none⟩), .pointer (some ⟨nb, 0, none⟩)]] w fun e w' => ∃ a n cp, e = .returned (.slice a n cp) ∧ Hid (CallI w p pd ab (goOnS now ⟨c, zs, []⟩) a n cp w') := by
  obtain ⟨wA, hwA⟩ : ∃ W, W = w.alloc (.cells #[.slice none 0 0] 34) := ⟨_, rfl⟩
  obtain ⟨gA, hgA⟩ : ∃ g, g = w.heap.size := ⟨_, rfl⟩
  have hl := h.start hwA hgA
  have hb : Below w.heap.size w wA := by rw [hwA]; exact bpush (Below.refl _ _) _
  have hcA := hc.stay (Stay.of_below hb)
  have HCL : Hid (Calls Try.prog 19 #[turnV pd gA, .pointer (some ⟨cb, 0, none⟩), .pointer (some ⟨nb, 0, none⟩)] wA fun e w' => e = .returned (.tuple #[]) ∧ Hid (LW w p pd gA ab (goOnS now ⟨c, zs, []⟩) w')) := (tickC_any cb nb now wA hl (by simp) hcA).mono fun e w' ⟨k1, k2⟩ => ⟨k1, k2.out.1⟩
  have mf : ∀ (fn : Fn) (first cap : Array Value) (w : World), (Instr.makeFunc fn first cap).run Try.prog w = .ok (.func fn first cap) w := fun _ _ _ _ => rfl
  clear h hc hl hb hcA
  generalize hres : (goOnS now ⟨c, zs, []⟩) = sR at *
  unfold turnV at *
  go_enter Try.func14, Try.ntmps14
  go_upto_region 2 with (fail)
  rw [← hwA, ← hgA]
  clear hwA hgA
  go_wp2_with (first
    | (go_at_call 19; refine HCL.out.mono ?_; rintro e w2 ⟨rfl, H2⟩; obtain ⟨av, nv, cv, E, v1, v2, v3⟩ := H2.out.var; have cA := cell_of_heap v1 0; simp only [List.getElem?_toArray, List.getElem?_cons_zero] at cA; have HV2 := hid v2; have HV3 := hid v3; clear v1 v2 v3)
    | fail)
  go_ret
  exact ⟨av, nv, cv, rfl, CallI.of H2.out HV2.out HV3.out (Below.refl _ _)⟩
theorem CallI.from {w w0 w' : World} {p pd : Nat} {ab : Option Nat} {s : LS} {a : Option Addr} {n c : Nat} (h : CallI w0 p pd ab s a n c w') (hb : Below w.heap.size w w0) : CallI w p pd ab s a n c w' := by
  obtain ⟨E, hA, hE⟩ := h.acts
  exact ⟨h.cd, ⟨E, ⟨hA.row, fun b hb' => Nat.le_trans hb.size (hA.low b hb'), fun p hp => ⟨(hA.opts p hp).1.le hb.size, (hA.opts p hp).2⟩, hA.apart⟩, hE⟩, (Only.of_below hb).trans ⟨h.only.os, h.only.tape, h.only.output, h.only.size, fun k hn hl => h.only.block k hn hl⟩⟩
set_option maxRecDepth 20000 in
set_option maxHeartbeats 1000000 in
theorem start_any (w : World) (p pd : Nat) (ab : Option Nat) (c : Cl) (zs : List Int) (now : Int) (h : CD w p pd ab c zs) :
    Calls Try.prog 8 #[.pointer (some ⟨p, 0, none⟩), .int .i64 now, .pointer (some ⟨pd, 0, none⟩)] w fun e w' => ∃ a n cp, e = .returned (.slice a n cp) ∧ Hid (CallI w p pd ab (startS now ⟨c, zs, []⟩) a n cp w') := by
  obtain ⟨wa, hwa⟩ : ∃ W, W = w.alloc (.cells #[.pointer (some ⟨p, 0, none⟩)] 26) := ⟨_, rfl⟩
  obtain ⟨cb, hcb⟩ : ∃ g, g = w.heap.size := ⟨_, rfl⟩
  obtain ⟨wt, hwt⟩ : ∃ W, W = wa.alloc (.cells #[.int .i64 now] 3) := ⟨_, rfl⟩
  obtain ⟨nb, hnb⟩ : ∃ g, g = cb + 1 := ⟨_, rfl⟩
  have sa : wa.heap.size = nb := by rw [hwa, hnb, hcb]; simp
  have ba : Below w.heap.size w wa := by rw [hwa]; exact bpush (Below.refl _ _) _
  have bt : Below wa.heap.size wa wt := by rw [hwt]; exact bpush (Below.refl _ _) _
  have HB := hid (bstep ba bt)
  have hcap : CapB p cb nb now wt := ⟨kept (by rw [hwa, hcb]; exact heap_new _ _) bt, by rw [hwt, ← sa]; exact heap_new _ _⟩
  have HGA := hid (gatherStart wt p pd ab c zs cb nb now (h.below HB.out) hcap)
  have mf : ∀ (fn : Fn) (first cap : Array Value) (w : World), (Instr.makeFunc fn first cap).run Try.prog w = .ok (.func fn first cap) w := fun _ _ _ _ => rfl
  clear h ba bt hcap sa
  generalize hres : (startS now ⟨c, zs, []⟩) = sR at *
  go_enter Try.func8, Try.ntmps8
  go_upto_region 1 with (fail)
  rw [← hwa, ← hcb, ← hnb, ← hwt]
  clear hwa hcb hnb hwt
  go_wp2_with (first
    | (go_at_call 14; refine HGA.out.mono ?_; rintro e w2 ⟨av, nv, cv, rfl, H2⟩)
    | fail)
  go_ret
  exact ⟨av, nv, cv, rfl, H2.out.from HB.out⟩
set_option maxRecDepth 20000 in
set_option maxHeartbeats 1000000 in
theorem tick_any (w : World) (p pd : Nat) (ab : Option Nat) (c : Cl) (zs : List Int) (now : Int) (h : CD w p pd ab c zs) :
    Calls Try.prog 9 #[.pointer (some ⟨p, 0, none⟩), .int .i64 now, .pointer (some ⟨pd, 0, none⟩)] w fun e w' => ∃ a n cp, e = .returned (.slice a n cp) ∧ Hid (CallI w p pd ab (goOnS now ⟨c, zs, []⟩) a n cp w') := by
  obtain ⟨wa, hwa⟩ : ∃ W, W = w.alloc (.cells #[.pointer (some ⟨p, 0, none⟩)] 26) := ⟨_, rfl⟩
  obtain ⟨cb, hcb⟩ : ∃ g, g = w.heap.size := ⟨_, rfl⟩
  obtain ⟨wt, hwt⟩ : ∃ W, W = wa.alloc (.cells #[.int .i64 now] 3) := ⟨_, rfl⟩
  obtain ⟨nb, hnb⟩ : ∃ g, g = cb + 1 := ⟨_, rfl⟩
  have sa : wa.heap.size = nb := by rw [hwa, hnb, hcb]; simp
  have ba : Below w.heap.size w wa := by rw [hwa]; exact bpush (Below.refl _ _) _
  have bt : Below wa.heap.size wa wt := by rw [hwt]; exact bpush (Below.refl _ _) _
  have HB := hid (bstep ba bt)
  have hcap : CapB p cb nb now wt := ⟨kept (by rw [hwa, hcb]; exact heap_new _ _) bt, by rw [hwt, ← sa]; exact heap_new _ _⟩
  have HGA := hid (gatherTick wt p pd ab c zs cb nb now (h.below HB.out) hcap)
  have mf : ∀ (fn : Fn) (first cap : Array Value) (w : World), (Instr.makeFunc fn first cap).run Try.prog w = .ok (.func fn first cap) w := fun _ _ _ _ => rfl
  clear h ba bt hcap sa
  generalize hres : (goOnS now ⟨c, zs, []⟩) = sR at *
  go_enter Try.func9, Try.ntmps9
  go_upto_region 1 with (fail)
  rw [← hwa, ← hcb, ← hnb, ← hwt]
  clear hwa hcb hnb hwt
  go_wp2_with (first
    | (go_at_call 14; refine HGA.out.mono ?_; rintro e w2 ⟨av, nv, cv, rfl, H2⟩)
    | fail)
  go_ret
  exact ⟨av, nv, cv, rfl, H2.out.from HB.out⟩
end Go.Proofs.Ytgcpoanjjgbfjaa

/-
  Lease: On. Written by mklzonc.py.
-/
namespace Go.Proofs.Ytgcpoanjjgbfjaa
open Go.RowKit
set_option linter.all false

/-- options that are read, and lie apart from the client and its dice. -/
structure OVX (p pd : Nat) (w : World) (a : Option Addr) (os : List OP) : Prop where
  v : OV w a os
  row : ∀ b off, a = some ⟨b, off, none⟩ → os ≠ [] → b ≠ p ∧ b ≠ pd
  data : ∀ o ∈ os, ∀ b off, o.2.a = some ⟨b, off, none⟩ → o.2.zs ≠ [] → b ≠ p ∧ b ≠ pd
theorem OVX.only {p pd : Nat} {w w' : World} {a : Option Addr} {os : List OP} (h : OVX p pd w a os) (ho : Only (fun k => k = p ∨ k = pd) w w') : OVX p pd w' a os := by
  have keep : ∀ (b o : Nat) (v : Value), w.cell? ⟨b, o, none⟩ = some v → b ≠ p ∧ b ≠ pd → w'.cell? ⟨b, o, none⟩ = some v := fun b o v hv hn => by
    rw [World.cell?_of_block (w := w) (ho.block b (fun e => e.elim hn.1 hn.2) (World.block_lt_of_cell? w _ hv)), hv]
  refine ⟨⟨fun i o hi => ?_, fun o hi => ⟨⟨(h.v.oks o hi).1.1, (h.v.oks o hi).1.2.1, ?_⟩, (h.v.oks o hi).2⟩, h.v.few, h.v.nums⟩, h.row, h.data⟩
  · obtain ⟨b, off, e, c0, c1⟩ := h.v.cell i o hi
    have hn := h.row b off e (fun e => by rw [e] at hi; simp at hi)
    exact ⟨b, off, e, keep _ _ _ c0 hn, keep _ _ _ c1 hn⟩
  · rcases (h.v.oks o hi).1.2.2 with he | ⟨b, of, ha, hc⟩
    · exact Or.inl he
    · refine Or.inr ⟨b, of, ha, fun j hj => keep _ _ _ (hc j hj) (h.data o hi b of ha (fun e => by rw [e] at hj; simp at hj))⟩
theorem OVX.below {p pd : Nat} {w w' : World} {a : Option Addr} {os : List OP} (h : OVX p pd w a os) (hb : Below w.heap.size w w') : OVX p pd w' a os := h.only (Only.of_below hb)
section
variable {W0 : World} {p pd gA : Nat} {ab : Option Nat} {s : LS}
theorem goOn_own (n : Int) (s : LS) : True := trivial
theorem offeredS_no {m : Bp} {g : List Opt} : True := trivial
set_option maxRecDepth 20000 in
set_option maxHeartbeats 2000000 in
theorem onC_any (cb nb mb : Nat) (now : Int) (m : Bp) (hm : m.ok) (a : Option Addr) (c : Nat) (os : List OP) (w : World) (h : LW W0 p pd gA ab s w) (hn : s.acts.length < 3000) (hc : CapB p cb nb now w) (hmb : MsB mb (m.cells (.slice a os.length c)) w) (hov : OVX p pd W0 a os) :
    Calls Try.prog 21 #[turnV pd gA, .pointer (some ⟨cb, 0, none⟩), .pointer (some ⟨nb, 0, none⟩), .pointer (some ⟨mb, 0, none⟩)] w fun e w' => e = .returned (.tuple #[]) ∧ Hid (LC W0 p pd gA ab (onS m (absO os) now s) w w') := by
  obtain ⟨wt, hwt⟩ : ∃ W, W = w.alloc (.cells (#[.pointer (some ⟨pd, 0, none⟩), .func (.func 27) #[] #[.pointer (some ⟨gA, 0, none⟩)]] : Array Value) 60) := ⟨_, rfl⟩
  obtain ⟨tb, htb⟩ : ∃ g, g = w.heap.size := ⟨_, rfl⟩
  obtain ⟨hl, ht⟩ := turn_laid h hwt htb
  have HL := hid hl
  have HT := hid ht
  have hcw := hc.stay hl.2
  have HCC : Hid (∀ (W : World) (s' : LS), LC W0 p pd gA ab s' wt W → W.cell? ⟨cb, 0, none⟩ = some (.pointer (some ⟨p, 0, none⟩)) ∧ W.cell? ⟨nb, 0, none⟩ = some (.int .i64 now) ∧ (∀ q, W.cell? ⟨tb, q, none⟩ = (#[.pointer (some ⟨pd, 0, none⟩), .func (.func 27) #[] #[.pointer (some ⟨gA, 0, none⟩)]] : Array Value)[q]?)) := fun W s' hW => ⟨(cell_of_heap (hcw.stay hW.2).c 0).trans rfl, (cell_of_heap (hcw.stay hW.2).n 0).trans rfl, (ht.stay hW.2).at⟩
  obtain ⟨cc, cn, ct⟩ := HCC.out wt s (LC.refl hl.1)
  have HGO : Hid (Calls Try.prog 20 #[.pointer (some ⟨p, 0, none⟩), .int .i64 now, turnV pd gA] wt fun e w' => e = .returned (.tuple #[]) ∧ Hid (LC W0 p pd gA ab (goOnS now s) wt w')) := goOn_any now wt hl.1 (by omega)
  obtain ⟨s1, hs1⟩ : ∃ x, x = goOnS now s := ⟨_, rfl⟩
  have hlen : s1.acts.length < 3100 := by have := goOnS_len now s; rw [hs1]; omega
  have HON : Hid (onS m (absO os) now s = if toUs m s1.c then (if typG (absO os) = 2 then offeredS m (absO os) s1 else if typG (absO os) = 5 then givenS m (absO os) s1 else if typG (absO os) = 6 then refusedS (absO os) s1 else s1) else s1) := by rw [hs1]; rfl
  rw [← hs1] at HGO
  have HMB : Hid (∀ (W : World) (s' : LS), LC W0 p pd gA ab s' wt W → MsB mb (m.cells (.slice a os.length c)) W) := fun W s' hW => (hmb.stay hl.2).stay hW.2
  have HOV : Hid (∀ (W : World) (s' : LS), LC W0 p pd gA ab s' wt W → OV W a os) := fun W s' hW => (hov.only hW.1.old).v
  have HTY : Hid (∀ W, LC W0 p pd gA ab s1 wt W → Calls Try.prog 22 #[.agg (m.cells (.slice a os.length c))] W fun e w' => e = .returned (.int .i64 (typG (absO os))) ∧ Hid (LC W0 p pd gA ab s1 wt w')) := fun W hW => (bp_type ⟨a, os, c, rfl, HOV.out W s1 hW, rfl⟩).mono fun e w' ⟨k1, k2⟩ => ⟨k1, hW.below k2.out⟩
  have HOF : Hid (∀ W, LC W0 p pd gA ab s1 wt W → Calls Try.prog 23 #[.pointer (some ⟨p, 0, none⟩), .agg (m.cells (.slice a os.length c)), turnV pd gA] W fun e w' => e = .returned (.tuple #[]) ∧ Hid (LC W0 p pd gA ab (offeredS m (absO os) s1) wt w')) := fun W hW => (offered_any W hW.1 (by omega) m a c os (HOV.out W s1 hW) hm).mono fun e w' ⟨k1, k2⟩ => ⟨k1, hW.trans k2.out⟩
  have HGI : Hid (∀ W, LC W0 p pd gA ab s1 wt W → Calls Try.prog 24 #[.pointer (some ⟨p, 0, none⟩), .agg (m.cells (.slice a os.length c)), turnV pd gA] W fun e w' => e = .returned (.tuple #[]) ∧ Hid (LC W0 p pd gA ab (givenS m (absO os) s1) wt w')) := fun W hW => (given_any W hW.1 (by omega) m a c os (HOV.out W s1 hW) hm).mono fun e w' ⟨k1, k2⟩ => ⟨k1, hW.trans k2.out⟩
  have HRE : Hid (∀ W, LC W0 p pd gA ab s1 wt W → Calls Try.prog 25 #[.pointer (some ⟨p, 0, none⟩), .agg (m.cells (.slice a os.length c)), turnV pd gA] W fun e w' => e = .returned (.tuple #[]) ∧ Hid (LC W0 p pd gA ab (refusedS (absO os) s1) wt w')) := fun W hW => (refused_any W hW.1 (by omega) m a c os (HOV.out W s1 hW) hm).mono fun e w' ⟨k1, k2⟩ => ⟨k1, hW.trans k2.out⟩
  have HOW : Hid (∀ W, LC W0 p pd gA ab s1 wt W → s1.c.own.ok) := fun W hW => hW.1.ok.c.own
  have hmo := hm.mac
  clear h hn ht hl hc hcw hs1 hlen hov hmb hm
  generalize onS m (absO os) now s = R at *
  generalize offeredS m (absO os) s1 = sO at *
  generalize givenS m (absO os) s1 = sG at *
  generalize refusedS (absO os) s1 = sF at *
  generalize typG (absO os) = ty at *
  generalize os.length = n at *
  unfold turnV Bp.cells MsB at *
  by_cases hop : m.op = 2
  rotate_left
  · rw [HON.out, if_neg (fun e => hop e.1)]
    have hop' : (m.op != 2) = true := by simpa using hop
    clear HON hop
    go_enter Try.func21, Try.ntmps21
    go_upto_region 1 with (fail)
    rw [← hwt, ← htb]
    clear hwt htb
    go_upto_region 2 with (first
      | (go_at_call 20; refine HGO.out.mono ?_; rintro e w2 ⟨rfl, H2⟩)
      | fail)
    obtain ⟨cc2, cn2, ct2⟩ := HCC.out _ _ H2.out
    have hM2 := HMB.out _ _ H2.out
    have xx : w2.cell? ⟨mb, 0, none⟩ = some (.int .i64 m.op) ∧ w2.cell? ⟨mb, 2, none⟩ = some (.int .u32 m.xid) ∧ w2.rangeAt mb 9 [.int .u8 m.mac.b0, .int .u8 m.mac.b1, .int .u8 m.mac.b2, .int .u8 m.mac.b3, .int .u8 m.mac.b4, .int .u8 m.mac.b5] ∧ w2.rangeAt p 0 [.int .u8 s1.c.own.b0, .int .u8 s1.c.own.b1, .int .u8 s1.c.own.b2, .int .u8 s1.c.own.b3, .int .u8 s1.c.own.b4, .int .u8 s1.c.own.b5] ∧ w2.cell? ⟨p, 8, none⟩ = some (.int .u32 s1.c.xid) ∧ w2.cell? ⟨cb, 0, none⟩ = some (.pointer (some ⟨p, 0, none⟩)) := ⟨(cell_of_heap hM2 0).trans rfl, (cell_of_heap hM2 2).trans rfl, fun j v hj => by rw [cell_of_heap hM2]; match j, hj with | 0, hj => exact hj | 1, hj => exact hj | 2, hj => exact hj | 3, hj => exact hj | 4, hj => exact hj | 5, hj => exact hj | k + 6, hj => simp at hj, fun j v hj => by rw [H2.out.box.at, Nat.zero_add]; match j, hj with | 0, hj => exact hj | 1, hj => exact hj | 2, hj => exact hj | 3, hj => exact hj | 4, hj => exact hj | 5, hj => exact hj | k + 6, hj => simp at hj, (H2.out.box.at 8).trans rfl, cc2⟩
    clear cc cn ct HGO
    refine wp_region_noPanic ?_
    refine wp_region_held_drew (S := fun w' => w'.cell? ⟨mb, 0, none⟩ = some (.int .i64 m.op) ∧ w'.cell? ⟨mb, 2, none⟩ = some (.int .u32 m.xid) ∧ w'.rangeAt mb 9 [.int .u8 m.mac.b0, .int .u8 m.mac.b1, .int .u8 m.mac.b2, .int .u8 m.mac.b3, .int .u8 m.mac.b4, .int .u8 m.mac.b5] ∧ w'.rangeAt p 0 [.int .u8 s1.c.own.b0, .int .u8 s1.c.own.b1, .int .u8 s1.c.own.b2, .int .u8 s1.c.own.b3, .int .u8 s1.c.own.b4, .int .u8 s1.c.own.b5] ∧ w'.cell? ⟨p, 8, none⟩ = some (.int .u32 s1.c.xid) ∧ w'.cell? ⟨cb, 0, none⟩ = some (.pointer (some ⟨p, 0, none⟩))) (by kernel_rfl) xx (fun hHeld => ?_)
    refine wpAnyH_take (i := 0) (oi := { dst := some 9, op := .fieldAddr 41 (.tmp 3) 0, type := _, pos := _, after := _, guard := none }) (v := .pointer (some ⟨mb, 0, none⟩)) rfl (by kernel_rfl) (by kernel_rfl) (by kernel_rfl) (fun _ _ _ h => h) (Or.inl ⟨by rfl, fun wq hSw => by (try dsimp only at hSw); go_simp⟩) (by assumption) ?_
    try simp only [Act.put, List.setIfInBounds_toArray, List.set_cons_zero, List.set_cons_succ]
    refine wpAnyH_take (i := 1) (oi := { dst := some 10, op := .load 3 (.tmp 9), type := _, pos := _, after := _, guard := none }) (v := .int .i64 m.op) rfl (by kernel_rfl) (by kernel_rfl) (by kernel_rfl) (fun _ _ _ h => h) (Or.inl ⟨by rfl, fun wq hSw => by (try dsimp only at hSw); go_simp⟩) (by assumption) ?_
    try simp only [Act.put, List.setIfInBounds_toArray, List.set_cons_zero, List.set_cons_succ]
    refine wpAnyH_take (i := 2) (oi := { dst := some 11, op := .binOp .neq 3 (.tmp 10) (.const (.int .i64 2)) 3, type := _, pos := _, after := _, guard := none }) (v := .bool true) rfl (by kernel_rfl) (by kernel_rfl) (by kernel_rfl) (fun _ _ _ h => h) (Or.inl ⟨by rfl, fun wq hSw => by (try dsimp only at hSw); go_simp⟩) (by assumption) ?_
    try simp only [Act.put, List.setIfInBounds_toArray, List.set_cons_zero, List.set_cons_succ]
    refine wpAnyH_take (i := 3) (oi := { dst := some 12, op := .move (.tmp 11), type := _, pos := _, after := _, guard := none }) (v := .bool true) rfl (by kernel_rfl) (by kernel_rfl) (by kernel_rfl) (fun _ _ _ h => h) (Or.inl ⟨by rfl, fun wq hSw => by (try dsimp only at hSw); go_simp⟩) (by assumption) ?_
    try simp only [Act.put, List.setIfInBounds_toArray, List.set_cons_zero, List.set_cons_succ]
    refine wpAnyH_take (i := 4) (oi := { dst := some 13, op := .fieldAddr 41 (.tmp 3) 9, type := _, pos := _, after := _, guard := some (3, false) }) (v := undef) rfl (by kernel_rfl) (by kernel_rfl) (by kernel_rfl) (fun _ _ _ h => h) (Or.inr ⟨by rfl, rfl⟩) (by assumption) ?_
    try simp only [Act.put, List.setIfInBounds_toArray, List.set_cons_zero, List.set_cons_succ]
    refine wpAnyH_take (i := 5) (oi := { dst := some 14, op := .load 25 (.tmp 13), type := _, pos := _, after := _, guard := some (3, false) }) (v := undef) rfl (by kernel_rfl) (by kernel_rfl) (by kernel_rfl) (fun _ _ _ h => h) (Or.inr ⟨by rfl, rfl⟩) (by assumption) ?_
    try simp only [Act.put, List.setIfInBounds_toArray, List.set_cons_zero, List.set_cons_succ]
    refine wpAnyH_take (i := 6) (oi := { dst := some 15, op := .load 26 (.tmp 1), type := _, pos := _, after := _, guard := some (3, false) }) (v := undef) rfl (by kernel_rfl) (by kernel_rfl) (by kernel_rfl) (fun _ _ _ h => h) (Or.inr ⟨by rfl, rfl⟩) (by assumption) ?_
    try simp only [Act.put, List.setIfInBounds_toArray, List.set_cons_zero, List.set_cons_succ]
    refine wpAnyH_take (i := 7) (oi := { dst := some 16, op := .nilCheck (.tmp 15), type := _, pos := _, after := _, guard := some (3, false) }) (v := undef) rfl (by kernel_rfl) (by kernel_rfl) (by kernel_rfl) (fun _ _ _ h => h) (Or.inr ⟨by rfl, rfl⟩) (by assumption) ?_
    try simp only [Act.put, List.setIfInBounds_toArray, List.set_cons_zero, List.set_cons_succ]
    refine wpAnyH_take (i := 8) (oi := { dst := some 17, op := .fieldAddr 53 (.tmp 16) 0, type := _, pos := _, after := _, guard := some (3, false) }) (v := undef) rfl (by kernel_rfl) (by kernel_rfl) (by kernel_rfl) (fun _ _ _ h => h) (Or.inr ⟨by rfl, rfl⟩) (by assumption) ?_
    try simp only [Act.put, List.setIfInBounds_toArray, List.set_cons_zero, List.set_cons_succ]
    refine wpAnyH_take (i := 9) (oi := { dst := some 18, op := .load 25 (.tmp 17), type := _, pos := _, after := _, guard := some (3, false) }) (v := undef) rfl (by kernel_rfl) (by kernel_rfl) (by kernel_rfl) (fun _ _ _ h => h) (Or.inr ⟨by rfl, rfl⟩) (by assumption) ?_
    try simp only [Act.put, List.setIfInBounds_toArray, List.set_cons_zero, List.set_cons_succ]
    refine wpAnyH_take (i := 10) (oi := { dst := some 19, op := .binOp .neq 25 (.tmp 14) (.tmp 18) 25, type := _, pos := _, after := _, guard := some (3, false) }) (v := undef) rfl (by kernel_rfl) (by kernel_rfl) (by kernel_rfl) (fun _ _ _ h => h) (Or.inr ⟨by rfl, rfl⟩) (by assumption) ?_
    try simp only [Act.put, List.setIfInBounds_toArray, List.set_cons_zero, List.set_cons_succ]
    refine wpAnyH_take (i := 11) (oi := { dst := some 20, op := .pick (.tmp 12) (.const (.bool true)) (.tmp 19), type := _, pos := _, after := _, guard := none }) (v := .bool true) rfl (by kernel_rfl) (by kernel_rfl) (by kernel_rfl) (fun _ _ _ h => h) (Or.inl ⟨by rfl, fun wq hSw => by (try dsimp only at hSw); go_simp⟩) (by assumption) ?_
    try simp only [Act.put, List.setIfInBounds_toArray, List.set_cons_zero, List.set_cons_succ]
    refine wpAnyH_take (i := 12) (oi := { dst := some 21, op := .move (.tmp 20), type := _, pos := _, after := _, guard := none }) (v := .bool true) rfl (by kernel_rfl) (by kernel_rfl) (by kernel_rfl) (fun _ _ _ h => h) (Or.inl ⟨by rfl, fun wq hSw => by (try dsimp only at hSw); go_simp⟩) (by assumption) ?_
    try simp only [Act.put, List.setIfInBounds_toArray, List.set_cons_zero, List.set_cons_succ]
    refine wpAnyH_take (i := 13) (oi := { dst := some 22, op := .fieldAddr 41 (.tmp 3) 2, type := _, pos := _, after := _, guard := some (12, false) }) (v := undef) rfl (by kernel_rfl) (by kernel_rfl) (by kernel_rfl) (fun _ _ _ h => h) (Or.inr ⟨by rfl, rfl⟩) (by assumption) ?_
    try simp only [Act.put, List.setIfInBounds_toArray, List.set_cons_zero, List.set_cons_succ]
    refine wpAnyH_take (i := 14) (oi := { dst := some 23, op := .load 30 (.tmp 22), type := _, pos := _, after := _, guard := some (12, false) }) (v := undef) rfl (by kernel_rfl) (by kernel_rfl) (by kernel_rfl) (fun _ _ _ h => h) (Or.inr ⟨by rfl, rfl⟩) (by assumption) ?_
    try simp only [Act.put, List.setIfInBounds_toArray, List.set_cons_zero, List.set_cons_succ]
    refine wpAnyH_take (i := 15) (oi := { dst := some 24, op := .load 26 (.tmp 1), type := _, pos := _, after := _, guard := some (12, false) }) (v := undef) rfl (by kernel_rfl) (by kernel_rfl) (by kernel_rfl) (fun _ _ _ h => h) (Or.inr ⟨by rfl, rfl⟩) (by assumption) ?_
    try simp only [Act.put, List.setIfInBounds_toArray, List.set_cons_zero, List.set_cons_succ]
    refine wpAnyH_take (i := 16) (oi := { dst := some 25, op := .nilCheck (.tmp 24), type := _, pos := _, after := _, guard := some (12, false) }) (v := undef) rfl (by kernel_rfl) (by kernel_rfl) (by kernel_rfl) (fun _ _ _ h => h) (Or.inr ⟨by rfl, rfl⟩) (by assumption) ?_
    try simp only [Act.put, List.setIfInBounds_toArray, List.set_cons_zero, List.set_cons_succ]
    refine wpAnyH_take (i := 17) (oi := { dst := some 26, op := .fieldAddr 53 (.tmp 25) 3, type := _, pos := _, after := _, guard := some (12, false) }) (v := undef) rfl (by kernel_rfl) (by kernel_rfl) (by kernel_rfl) (fun _ _ _ h => h) (Or.inr ⟨by rfl, rfl⟩) (by assumption) ?_
    try simp only [Act.put, List.setIfInBounds_toArray, List.set_cons_zero, List.set_cons_succ]
    refine wpAnyH_take (i := 18) (oi := { dst := some 27, op := .load 30 (.tmp 26), type := _, pos := _, after := _, guard := some (12, false) }) (v := undef) rfl (by kernel_rfl) (by kernel_rfl) (by kernel_rfl) (fun _ _ _ h => h) (Or.inr ⟨by rfl, rfl⟩) (by assumption) ?_
    try simp only [Act.put, List.setIfInBounds_toArray, List.set_cons_zero, List.set_cons_succ]
    refine wpAnyH_take (i := 19) (oi := { dst := some 28, op := .binOp .neq 30 (.tmp 23) (.tmp 27) 30, type := _, pos := _, after := _, guard := some (12, false) }) (v := undef) rfl (by kernel_rfl) (by kernel_rfl) (by kernel_rfl) (fun _ _ _ h => h) (Or.inr ⟨by rfl, rfl⟩) (by assumption) ?_
    try simp only [Act.put, List.setIfInBounds_toArray, List.set_cons_zero, List.set_cons_succ]
    refine wpAnyH_take (i := 20) (oi := { dst := some 29, op := .pick (.tmp 21) (.const (.bool true)) (.tmp 28), type := _, pos := _, after := _, guard := none }) (v := .bool true) rfl (by kernel_rfl) (by kernel_rfl) (by kernel_rfl) (fun _ _ _ h => h) (Or.inl ⟨by rfl, fun wq hSw => by (try dsimp only at hSw); go_simp⟩) (by assumption) ?_
    try simp only [Act.put, List.setIfInBounds_toArray, List.set_cons_zero, List.set_cons_succ]
    refine wpAnyH_done (by kernel_rfl) ?_ _
    refine NoPanic.normal ?_
    go_wp2
    refine bodyPost_ret (results_none rfl _ _ _) rfl ?_
    exact ⟨rfl, HL.out.trans H2.out.drew⟩
  have hop' : (m.op != 2) = false := by simpa using hop
  have hmacq : ∀ W : World, LC W0 p pd gA ab s1 wt W → ∀ wx : World, (Op.equalIn 10000 25 (m.mac.val) (s1.c.own.val)).run Try.prog wx = .ok (decide (m.mac = s1.c.own)) wx := fun W hW wx => mac_eq m.mac s1.c.own hmo (HOW.out W hW) wx
  simp only [Mac.val] at hmacq
  have HMQ := hid hmacq
  clear hmacq
  by_cases hmac : m.mac = s1.c.own
  rotate_left
  · rw [HON.out, if_neg (fun e => hmac e.2.1)]
    have hd : decide (m.mac = s1.c.own) = false := by simpa using hmac
    rw [hd] at HMQ
    clear HON hop hmac
    go_enter Try.func21, Try.ntmps21
    go_upto_region 1 with (fail)
    rw [← hwt, ← htb]
    clear hwt htb
    go_upto_region 2 with (first
      | (go_at_call 20; refine HGO.out.mono ?_; rintro e w2 ⟨rfl, H2⟩)
      | fail)
    obtain ⟨cc2, cn2, ct2⟩ := HCC.out _ _ H2.out
    have hM2 := HMB.out _ _ H2.out
    have xx : w2.cell? ⟨mb, 0, none⟩ = some (.int .i64 m.op) ∧ w2.cell? ⟨mb, 2, none⟩ = some (.int .u32 m.xid) ∧ w2.rangeAt mb 9 [.int .u8 m.mac.b0, .int .u8 m.mac.b1, .int .u8 m.mac.b2, .int .u8 m.mac.b3, .int .u8 m.mac.b4, .int .u8 m.mac.b5] ∧ w2.rangeAt p 0 [.int .u8 s1.c.own.b0, .int .u8 s1.c.own.b1, .int .u8 s1.c.own.b2, .int .u8 s1.c.own.b3, .int .u8 s1.c.own.b4, .int .u8 s1.c.own.b5] ∧ w2.cell? ⟨p, 8, none⟩ = some (.int .u32 s1.c.xid) ∧ w2.cell? ⟨cb, 0, none⟩ = some (.pointer (some ⟨p, 0, none⟩)) := ⟨(cell_of_heap hM2 0).trans rfl, (cell_of_heap hM2 2).trans rfl, fun j v hj => by rw [cell_of_heap hM2]; match j, hj with | 0, hj => exact hj | 1, hj => exact hj | 2, hj => exact hj | 3, hj => exact hj | 4, hj => exact hj | 5, hj => exact hj | k + 6, hj => simp at hj, fun j v hj => by rw [H2.out.box.at, Nat.zero_add]; match j, hj with | 0, hj => exact hj | 1, hj => exact hj | 2, hj => exact hj | 3, hj => exact hj | 4, hj => exact hj | 5, hj => exact hj | k + 6, hj => simp at hj, (H2.out.box.at 8).trans rfl, cc2⟩
    clear cc cn ct HGO
    have hmq := HMQ.out _ H2.out
    refine wp_region_noPanic ?_
    refine wp_region_held_drew (S := fun w' => w'.cell? ⟨mb, 0, none⟩ = some (.int .i64 m.op) ∧ w'.cell? ⟨mb, 2, none⟩ = some (.int .u32 m.xid) ∧ w'.rangeAt mb 9 [.int .u8 m.mac.b0, .int .u8 m.mac.b1, .int .u8 m.mac.b2, .int .u8 m.mac.b3, .int .u8 m.mac.b4, .int .u8 m.mac.b5] ∧ w'.rangeAt p 0 [.int .u8 s1.c.own.b0, .int .u8 s1.c.own.b1, .int .u8 s1.c.own.b2, .int .u8 s1.c.own.b3, .int .u8 s1.c.own.b4, .int .u8 s1.c.own.b5] ∧ w'.cell? ⟨p, 8, none⟩ = some (.int .u32 s1.c.xid) ∧ w'.cell? ⟨cb, 0, none⟩ = some (.pointer (some ⟨p, 0, none⟩))) (by kernel_rfl) xx (fun hHeld => ?_)
    refine wpAnyH_take (i := 0) (oi := { dst := some 9, op := .fieldAddr 41 (.tmp 3) 0, type := _, pos := _, after := _, guard := none }) (v := .pointer (some ⟨mb, 0, none⟩)) rfl (by kernel_rfl) (by kernel_rfl) (by kernel_rfl) (fun _ _ _ h => h) (Or.inl ⟨by rfl, fun wq hSw => by (try dsimp only at hSw); go_simp⟩) (by assumption) ?_
    try simp only [Act.put, List.setIfInBounds_toArray, List.set_cons_zero, List.set_cons_succ]
    refine wpAnyH_take (i := 1) (oi := { dst := some 10, op := .load 3 (.tmp 9), type := _, pos := _, after := _, guard := none }) (v := .int .i64 m.op) rfl (by kernel_rfl) (by kernel_rfl) (by kernel_rfl) (fun _ _ _ h => h) (Or.inl ⟨by rfl, fun wq hSw => by (try dsimp only at hSw); go_simp⟩) (by assumption) ?_
    try simp only [Act.put, List.setIfInBounds_toArray, List.set_cons_zero, List.set_cons_succ]
    refine wpAnyH_take (i := 2) (oi := { dst := some 11, op := .binOp .neq 3 (.tmp 10) (.const (.int .i64 2)) 3, type := _, pos := _, after := _, guard := none }) (v := .bool false) rfl (by kernel_rfl) (by kernel_rfl) (by kernel_rfl) (fun _ _ _ h => h) (Or.inl ⟨by rfl, fun wq hSw => by (try dsimp only at hSw); go_simp⟩) (by assumption) ?_
    try simp only [Act.put, List.setIfInBounds_toArray, List.set_cons_zero, List.set_cons_succ]
    refine wpAnyH_take (i := 3) (oi := { dst := some 12, op := .move (.tmp 11), type := _, pos := _, after := _, guard := none }) (v := .bool false) rfl (by kernel_rfl) (by kernel_rfl) (by kernel_rfl) (fun _ _ _ h => h) (Or.inl ⟨by rfl, fun wq hSw => by (try dsimp only at hSw); go_simp⟩) (by assumption) ?_
    try simp only [Act.put, List.setIfInBounds_toArray, List.set_cons_zero, List.set_cons_succ]
    refine wpAnyH_take (i := 4) (oi := { dst := some 13, op := .fieldAddr 41 (.tmp 3) 9, type := _, pos := _, after := _, guard := some (3, false) }) (v := .pointer (some ⟨mb, 9, none⟩)) rfl (by kernel_rfl) (by kernel_rfl) (by kernel_rfl) (fun _ _ _ h => h) (Or.inl ⟨by rfl, fun wq hSw => by (try dsimp only at hSw); go_simp⟩) (by assumption) ?_
    try simp only [Act.put, List.setIfInBounds_toArray, List.set_cons_zero, List.set_cons_succ]
    refine wpAnyH_take (i := 5) (oi := { dst := some 14, op := .load 25 (.tmp 13), type := _, pos := _, after := _, guard := some (3, false) }) (v := .agg #[.int .u8 m.mac.b0, .int .u8 m.mac.b1, .int .u8 m.mac.b2, .int .u8 m.mac.b3, .int .u8 m.mac.b4, .int .u8 m.mac.b5]) rfl (by kernel_rfl) (by kernel_rfl) (by kernel_rfl) (fun _ _ _ h => h) (yieldsIf_load_mid (by rfl) 25 (.tmp 13) rfl mb 9 rfl [.int .u8 m.mac.b0, .int .u8 m.mac.b1, .int .u8 m.mac.b2, .int .u8 m.mac.b3, .int .u8 m.mac.b4, .int .u8 m.mac.b5] _ (fun w hS => hS.2.2.1) Try.underlying25 rfl (by kernel_rfl)) (by assumption) ?_
    try simp only [Act.put, List.setIfInBounds_toArray, List.set_cons_zero, List.set_cons_succ]
    refine wpAnyH_take (i := 6) (oi := { dst := some 15, op := .load 26 (.tmp 1), type := _, pos := _, after := _, guard := some (3, false) }) (v := .pointer (some ⟨p, 0, none⟩)) rfl (by kernel_rfl) (by kernel_rfl) (by kernel_rfl) (fun _ _ _ h => h) (Or.inl ⟨by rfl, fun wq hSw => by (try dsimp only at hSw); go_simp⟩) (by assumption) ?_
    try simp only [Act.put, List.setIfInBounds_toArray, List.set_cons_zero, List.set_cons_succ]
    refine wpAnyH_take (i := 7) (oi := { dst := some 16, op := .nilCheck (.tmp 15), type := _, pos := _, after := _, guard := some (3, false) }) (v := .pointer (some ⟨p, 0, none⟩)) rfl (by kernel_rfl) (by kernel_rfl) (by kernel_rfl) (fun _ _ _ h => h) (Or.inl ⟨by rfl, fun wq hSw => by (try dsimp only at hSw); go_simp⟩) (by assumption) ?_
    try simp only [Act.put, List.setIfInBounds_toArray, List.set_cons_zero, List.set_cons_succ]
    refine wpAnyH_take (i := 8) (oi := { dst := some 17, op := .fieldAddr 53 (.tmp 16) 0, type := _, pos := _, after := _, guard := some (3, false) }) (v := .pointer (some ⟨p, 0, none⟩)) rfl (by kernel_rfl) (by kernel_rfl) (by kernel_rfl) (fun _ _ _ h => h) (Or.inl ⟨by rfl, fun wq hSw => by (try dsimp only at hSw); go_simp⟩) (by assumption) ?_
    try simp only [Act.put, List.setIfInBounds_toArray, List.set_cons_zero, List.set_cons_succ]
    refine wpAnyH_take (i := 9) (oi := { dst := some 18, op := .load 25 (.tmp 17), type := _, pos := _, after := _, guard := some (3, false) }) (v := .agg #[.int .u8 s1.c.own.b0, .int .u8 s1.c.own.b1, .int .u8 s1.c.own.b2, .int .u8 s1.c.own.b3, .int .u8 s1.c.own.b4, .int .u8 s1.c.own.b5]) rfl (by kernel_rfl) (by kernel_rfl) (by kernel_rfl) (fun _ _ _ h => h) (yieldsIf_load_mid (by rfl) 25 (.tmp 17) rfl p 0 rfl [.int .u8 s1.c.own.b0, .int .u8 s1.c.own.b1, .int .u8 s1.c.own.b2, .int .u8 s1.c.own.b3, .int .u8 s1.c.own.b4, .int .u8 s1.c.own.b5] _ (fun w hS => hS.2.2.2.1) Try.underlying25 rfl (by kernel_rfl)) (by assumption) ?_
    try simp only [Act.put, List.setIfInBounds_toArray, List.set_cons_zero, List.set_cons_succ]
    refine wpAnyH_take (i := 10) (oi := { dst := some 19, op := .binOp .neq 25 (.tmp 14) (.tmp 18) 25, type := _, pos := _, after := _, guard := some (3, false) }) (v := .bool true) rfl (by kernel_rfl) (by kernel_rfl) (by kernel_rfl) (fun _ _ _ h => h) (Or.inl ⟨by rfl, fun wq hSw => by (try dsimp only at hSw); go_simp⟩) (by assumption) ?_
    try simp only [Act.put, List.setIfInBounds_toArray, List.set_cons_zero, List.set_cons_succ]
    refine wpAnyH_take (i := 11) (oi := { dst := some 20, op := .pick (.tmp 12) (.const (.bool true)) (.tmp 19), type := _, pos := _, after := _, guard := none }) (v := .bool true) rfl (by kernel_rfl) (by kernel_rfl) (by kernel_rfl) (fun _ _ _ h => h) (Or.inl ⟨by rfl, fun wq hSw => by (try dsimp only at hSw); go_simp⟩) (by assumption) ?_
    try simp only [Act.put, List.setIfInBounds_toArray, List.set_cons_zero, List.set_cons_succ]
    refine wpAnyH_take (i := 12) (oi := { dst := some 21, op := .move (.tmp 20), type := _, pos := _, after := _, guard := none }) (v := .bool true) rfl (by kernel_rfl) (by kernel_rfl) (by kernel_rfl) (fun _ _ _ h => h) (Or.inl ⟨by rfl, fun wq hSw => by (try dsimp only at hSw); go_simp⟩) (by assumption) ?_
    try simp only [Act.put, List.setIfInBounds_toArray, List.set_cons_zero, List.set_cons_succ]
    refine wpAnyH_take (i := 13) (oi := { dst := some 22, op := .fieldAddr 41 (.tmp 3) 2, type := _, pos := _, after := _, guard := some (12, false) }) (v := undef) rfl (by kernel_rfl) (by kernel_rfl) (by kernel_rfl) (fun _ _ _ h => h) (Or.inr ⟨by rfl, rfl⟩) (by assumption) ?_
    try simp only [Act.put, List.setIfInBounds_toArray, List.set_cons_zero, List.set_cons_succ]
    refine wpAnyH_take (i := 14) (oi := { dst := some 23, op := .load 30 (.tmp 22), type := _, pos := _, after := _, guard := some (12, false) }) (v := undef) rfl (by kernel_rfl) (by kernel_rfl) (by kernel_rfl) (fun _ _ _ h => h) (Or.inr ⟨by rfl, rfl⟩) (by assumption) ?_
    try simp only [Act.put, List.setIfInBounds_toArray, List.set_cons_zero, List.set_cons_succ]
    refine wpAnyH_take (i := 15) (oi := { dst := some 24, op := .load 26 (.tmp 1), type := _, pos := _, after := _, guard := some (12, false) }) (v := undef) rfl (by kernel_rfl) (by kernel_rfl) (by kernel_rfl) (fun _ _ _ h => h) (Or.inr ⟨by rfl, rfl⟩) (by assumption) ?_
    try simp only [Act.put, List.setIfInBounds_toArray, List.set_cons_zero, List.set_cons_succ]
    refine wpAnyH_take (i := 16) (oi := { dst := some 25, op := .nilCheck (.tmp 24), type := _, pos := _, after := _, guard := some (12, false) }) (v := undef) rfl (by kernel_rfl) (by kernel_rfl) (by kernel_rfl) (fun _ _ _ h => h) (Or.inr ⟨by rfl, rfl⟩) (by assumption) ?_
    try simp only [Act.put, List.setIfInBounds_toArray, List.set_cons_zero, List.set_cons_succ]
    refine wpAnyH_take (i := 17) (oi := { dst := some 26, op := .fieldAddr 53 (.tmp 25) 3, type := _, pos := _, after := _, guard := some (12, false) }) (v := undef) rfl (by kernel_rfl) (by kernel_rfl) (by kernel_rfl) (fun _ _ _ h => h) (Or.inr ⟨by rfl, rfl⟩) (by assumption) ?_
    try simp only [Act.put, List.setIfInBounds_toArray, List.set_cons_zero, List.set_cons_succ]
    refine wpAnyH_take (i := 18) (oi := { dst := some 27, op := .load 30 (.tmp 26), type := _, pos := _, after := _, guard := some (12, false) }) (v := undef) rfl (by kernel_rfl) (by kernel_rfl) (by kernel_rfl) (fun _ _ _ h => h) (Or.inr ⟨by rfl, rfl⟩) (by assumption) ?_
    try simp only [Act.put, List.setIfInBounds_toArray, List.set_cons_zero, List.set_cons_succ]
    refine wpAnyH_take (i := 19) (oi := { dst := some 28, op := .binOp .neq 30 (.tmp 23) (.tmp 27) 30, type := _, pos := _, after := _, guard := some (12, false) }) (v := undef) rfl (by kernel_rfl) (by kernel_rfl) (by kernel_rfl) (fun _ _ _ h => h) (Or.inr ⟨by rfl, rfl⟩) (by assumption) ?_
    try simp only [Act.put, List.setIfInBounds_toArray, List.set_cons_zero, List.set_cons_succ]
    refine wpAnyH_take (i := 20) (oi := { dst := some 29, op := .pick (.tmp 21) (.const (.bool true)) (.tmp 28), type := _, pos := _, after := _, guard := none }) (v := .bool true) rfl (by kernel_rfl) (by kernel_rfl) (by kernel_rfl) (fun _ _ _ h => h) (Or.inl ⟨by rfl, fun wq hSw => by (try dsimp only at hSw); go_simp⟩) (by assumption) ?_
    try simp only [Act.put, List.setIfInBounds_toArray, List.set_cons_zero, List.set_cons_succ]
    refine wpAnyH_done (by kernel_rfl) ?_ _
    refine NoPanic.normal ?_
    go_wp2
    refine bodyPost_ret (results_none rfl _ _ _) rfl ?_
    exact ⟨rfl, HL.out.trans H2.out.drew⟩
  have hd : decide (m.mac = s1.c.own) = true := by simpa using hmac
  rw [hd] at HMQ
  by_cases hxid : m.xid = s1.c.xid
  rotate_left
  · rw [HON.out, if_neg (fun e => hxid e.2.2)]
    have hx' : (m.xid != s1.c.xid) = true := by simpa using hxid
    clear HON hop hmac hxid
    go_enter Try.func21, Try.ntmps21
    go_upto_region 1 with (fail)
    rw [← hwt, ← htb]
    clear hwt htb
    go_upto_region 2 with (first
      | (go_at_call 20; refine HGO.out.mono ?_; rintro e w2 ⟨rfl, H2⟩)
      | fail)
    obtain ⟨cc2, cn2, ct2⟩ := HCC.out _ _ H2.out
    have hM2 := HMB.out _ _ H2.out
    have xx : w2.cell? ⟨mb, 0, none⟩ = some (.int .i64 m.op) ∧ w2.cell? ⟨mb, 2, none⟩ = some (.int .u32 m.xid) ∧ w2.rangeAt mb 9 [.int .u8 m.mac.b0, .int .u8 m.mac.b1, .int .u8 m.mac.b2, .int .u8 m.mac.b3, .int .u8 m.mac.b4, .int .u8 m.mac.b5] ∧ w2.rangeAt p 0 [.int .u8 s1.c.own.b0, .int .u8 s1.c.own.b1, .int .u8 s1.c.own.b2, .int .u8 s1.c.own.b3, .int .u8 s1.c.own.b4, .int .u8 s1.c.own.b5] ∧ w2.cell? ⟨p, 8, none⟩ = some (.int .u32 s1.c.xid) ∧ w2.cell? ⟨cb, 0, none⟩ = some (.pointer (some ⟨p, 0, none⟩)) := ⟨(cell_of_heap hM2 0).trans rfl, (cell_of_heap hM2 2).trans rfl, fun j v hj => by rw [cell_of_heap hM2]; match j, hj with | 0, hj => exact hj | 1, hj => exact hj | 2, hj => exact hj | 3, hj => exact hj | 4, hj => exact hj | 5, hj => exact hj | k + 6, hj => simp at hj, fun j v hj => by rw [H2.out.box.at, Nat.zero_add]; match j, hj with | 0, hj => exact hj | 1, hj => exact hj | 2, hj => exact hj | 3, hj => exact hj | 4, hj => exact hj | 5, hj => exact hj | k + 6, hj => simp at hj, (H2.out.box.at 8).trans rfl, cc2⟩
    clear cc cn ct HGO
    have hmq := HMQ.out _ H2.out
    refine wp_region_noPanic ?_
    refine wp_region_held_drew (S := fun w' => w'.cell? ⟨mb, 0, none⟩ = some (.int .i64 m.op) ∧ w'.cell? ⟨mb, 2, none⟩ = some (.int .u32 m.xid) ∧ w'.rangeAt mb 9 [.int .u8 m.mac.b0, .int .u8 m.mac.b1, .int .u8 m.mac.b2, .int .u8 m.mac.b3, .int .u8 m.mac.b4, .int .u8 m.mac.b5] ∧ w'.rangeAt p 0 [.int .u8 s1.c.own.b0, .int .u8 s1.c.own.b1, .int .u8 s1.c.own.b2, .int .u8 s1.c.own.b3, .int .u8 s1.c.own.b4, .int .u8 s1.c.own.b5] ∧ w'.cell? ⟨p, 8, none⟩ = some (.int .u32 s1.c.xid) ∧ w'.cell? ⟨cb, 0, none⟩ = some (.pointer (some ⟨p, 0, none⟩))) (by kernel_rfl) xx (fun hHeld => ?_)
    refine wpAnyH_take (i := 0) (oi := { dst := some 9, op := .fieldAddr 41 (.tmp 3) 0, type := _, pos := _, after := _, guard := none }) (v := .pointer (some ⟨mb, 0, none⟩)) rfl (by kernel_rfl) (by kernel_rfl) (by kernel_rfl) (fun _ _ _ h => h) (Or.inl ⟨by rfl, fun wq hSw => by (try dsimp only at hSw); go_simp⟩) (by assumption) ?_
    try simp only [Act.put, List.setIfInBounds_toArray, List.set_cons_zero, List.set_cons_succ]
    refine wpAnyH_take (i := 1) (oi := { dst := some 10, op := .load 3 (.tmp 9), type := _, pos := _, after := _, guard := none }) (v := .int .i64 m.op) rfl (by kernel_rfl) (by kernel_rfl) (by kernel_rfl) (fun _ _ _ h => h) (Or.inl ⟨by rfl, fun wq hSw => by (try dsimp only at hSw); go_simp⟩) (by assumption) ?_
    try simp only [Act.put, List.setIfInBounds_toArray, List.set_cons_zero, List.set_cons_succ]
    refine wpAnyH_take (i := 2) (oi := { dst := some 11, op := .binOp .neq 3 (.tmp 10) (.const (.int .i64 2)) 3, type := _, pos := _, after := _, guard := none }) (v := .bool false) rfl (by kernel_rfl) (by kernel_rfl) (by kernel_rfl) (fun _ _ _ h => h) (Or.inl ⟨by rfl, fun wq hSw => by (try dsimp only at hSw); go_simp⟩) (by assumption) ?_
    try simp only [Act.put, List.setIfInBounds_toArray, List.set_cons_zero, List.set_cons_succ]
    refine wpAnyH_take (i := 3) (oi := { dst := some 12, op := .move (.tmp 11), type := _, pos := _, after := _, guard := none }) (v := .bool false) rfl (by kernel_rfl) (by kernel_rfl) (by kernel_rfl) (fun _ _ _ h => h) (Or.inl ⟨by rfl, fun wq hSw => by (try dsimp only at hSw); go_simp⟩) (by assumption) ?_
    try simp only [Act.put, List.setIfInBounds_toArray, List.set_cons_zero, List.set_cons_succ]
    refine wpAnyH_take (i := 4) (oi := { dst := some 13, op := .fieldAddr 41 (.tmp 3) 9, type := _, pos := _, after := _, guard := some (3, false) }) (v := .pointer (some ⟨mb, 9, none⟩)) rfl (by kernel_rfl) (by kernel_rfl) (by kernel_rfl) (fun _ _ _ h => h) (Or.inl ⟨by rfl, fun wq hSw => by (try dsimp only at hSw); go_simp⟩) (by assumption) ?_
    try simp only [Act.put, List.setIfInBounds_toArray, List.set_cons_zero, List.set_cons_succ]
    refine wpAnyH_take (i := 5) (oi := { dst := some 14, op := .load 25 (.tmp 13), type := _, pos := _, after := _, guard := some (3, false) }) (v := .agg #[.int .u8 m.mac.b0, .int .u8 m.mac.b1, .int .u8 m.mac.b2, .int .u8 m.mac.b3, .int .u8 m.mac.b4, .int .u8 m.mac.b5]) rfl (by kernel_rfl) (by kernel_rfl) (by kernel_rfl) (fun _ _ _ h => h) (yieldsIf_load_mid (by rfl) 25 (.tmp 13) rfl mb 9 rfl [.int .u8 m.mac.b0, .int .u8 m.mac.b1, .int .u8 m.mac.b2, .int .u8 m.mac.b3, .int .u8 m.mac.b4, .int .u8 m.mac.b5] _ (fun w hS => hS.2.2.1) Try.underlying25 rfl (by kernel_rfl)) (by assumption) ?_
    try simp only [Act.put, List.setIfInBounds_toArray, List.set_cons_zero, List.set_cons_succ]
    refine wpAnyH_take (i := 6) (oi := { dst := some 15, op := .load 26 (.tmp 1), type := _, pos := _, after := _, guard := some (3, false) }) (v := .pointer (some ⟨p, 0, none⟩)) rfl (by kernel_rfl) (by kernel_rfl) (by kernel_rfl) (fun _ _ _ h => h) (Or.inl ⟨by rfl, fun wq hSw => by (try dsimp only at hSw); go_simp⟩) (by assumption) ?_
    try simp only [Act.put, List.setIfInBounds_toArray, List.set_cons_zero, List.set_cons_succ]
    refine wpAnyH_take (i := 7) (oi := { dst := some 16, op := .nilCheck (.tmp 15), type := _, pos := _, after := _, guard := some (3, false) }) (v := .pointer (some ⟨p, 0, none⟩)) rfl (by kernel_rfl) (by kernel_rfl) (by kernel_rfl) (fun _ _ _ h => h) (Or.inl ⟨by rfl, fun wq hSw => by (try dsimp only at hSw); go_simp⟩) (by assumption) ?_
    try simp only [Act.put, List.setIfInBounds_toArray, List.set_cons_zero, List.set_cons_succ]
    refine wpAnyH_take (i := 8) (oi := { dst := some 17, op := .fieldAddr 53 (.tmp 16) 0, type := _, pos := _, after := _, guard := some (3, false) }) (v := .pointer (some ⟨p, 0, none⟩)) rfl (by kernel_rfl) (by kernel_rfl) (by kernel_rfl) (fun _ _ _ h => h) (Or.inl ⟨by rfl, fun wq hSw => by (try dsimp only at hSw); go_simp⟩) (by assumption) ?_
    try simp only [Act.put, List.setIfInBounds_toArray, List.set_cons_zero, List.set_cons_succ]
    refine wpAnyH_take (i := 9) (oi := { dst := some 18, op := .load 25 (.tmp 17), type := _, pos := _, after := _, guard := some (3, false) }) (v := .agg #[.int .u8 s1.c.own.b0, .int .u8 s1.c.own.b1, .int .u8 s1.c.own.b2, .int .u8 s1.c.own.b3, .int .u8 s1.c.own.b4, .int .u8 s1.c.own.b5]) rfl (by kernel_rfl) (by kernel_rfl) (by kernel_rfl) (fun _ _ _ h => h) (yieldsIf_load_mid (by rfl) 25 (.tmp 17) rfl p 0 rfl [.int .u8 s1.c.own.b0, .int .u8 s1.c.own.b1, .int .u8 s1.c.own.b2, .int .u8 s1.c.own.b3, .int .u8 s1.c.own.b4, .int .u8 s1.c.own.b5] _ (fun w hS => hS.2.2.2.1) Try.underlying25 rfl (by kernel_rfl)) (by assumption) ?_
    try simp only [Act.put, List.setIfInBounds_toArray, List.set_cons_zero, List.set_cons_succ]
    refine wpAnyH_take (i := 10) (oi := { dst := some 19, op := .binOp .neq 25 (.tmp 14) (.tmp 18) 25, type := _, pos := _, after := _, guard := some (3, false) }) (v := .bool false) rfl (by kernel_rfl) (by kernel_rfl) (by kernel_rfl) (fun _ _ _ h => h) (Or.inl ⟨by rfl, fun wq hSw => by (try dsimp only at hSw); go_simp⟩) (by assumption) ?_
    try simp only [Act.put, List.setIfInBounds_toArray, List.set_cons_zero, List.set_cons_succ]
    refine wpAnyH_take (i := 11) (oi := { dst := some 20, op := .pick (.tmp 12) (.const (.bool true)) (.tmp 19), type := _, pos := _, after := _, guard := none }) (v := .bool false) rfl (by kernel_rfl) (by kernel_rfl) (by kernel_rfl) (fun _ _ _ h => h) (Or.inl ⟨by rfl, fun wq hSw => by (try dsimp only at hSw); go_simp⟩) (by assumption) ?_
    try simp only [Act.put, List.setIfInBounds_toArray, List.set_cons_zero, List.set_cons_succ]
    refine wpAnyH_take (i := 12) (oi := { dst := some 21, op := .move (.tmp 20), type := _, pos := _, after := _, guard := none }) (v := .bool false) rfl (by kernel_rfl) (by kernel_rfl) (by kernel_rfl) (fun _ _ _ h => h) (Or.inl ⟨by rfl, fun wq hSw => by (try dsimp only at hSw); go_simp⟩) (by assumption) ?_
    try simp only [Act.put, List.setIfInBounds_toArray, List.set_cons_zero, List.set_cons_succ]
    refine wpAnyH_take (i := 13) (oi := { dst := some 22, op := .fieldAddr 41 (.tmp 3) 2, type := _, pos := _, after := _, guard := some (12, false) }) (v := .pointer (some ⟨mb, 2, none⟩)) rfl (by kernel_rfl) (by kernel_rfl) (by kernel_rfl) (fun _ _ _ h => h) (Or.inl ⟨by rfl, fun wq hSw => by (try dsimp only at hSw); go_simp⟩) (by assumption) ?_
    try simp only [Act.put, List.setIfInBounds_toArray, List.set_cons_zero, List.set_cons_succ]
    refine wpAnyH_take (i := 14) (oi := { dst := some 23, op := .load 30 (.tmp 22), type := _, pos := _, after := _, guard := some (12, false) }) (v := .int .u32 m.xid) rfl (by kernel_rfl) (by kernel_rfl) (by kernel_rfl) (fun _ _ _ h => h) (Or.inl ⟨by rfl, fun wq hSw => by (try dsimp only at hSw); go_simp⟩) (by assumption) ?_
    try simp only [Act.put, List.setIfInBounds_toArray, List.set_cons_zero, List.set_cons_succ]
    refine wpAnyH_take (i := 15) (oi := { dst := some 24, op := .load 26 (.tmp 1), type := _, pos := _, after := _, guard := some (12, false) }) (v := .pointer (some ⟨p, 0, none⟩)) rfl (by kernel_rfl) (by kernel_rfl) (by kernel_rfl) (fun _ _ _ h => h) (Or.inl ⟨by rfl, fun wq hSw => by (try dsimp only at hSw); go_simp⟩) (by assumption) ?_
    try simp only [Act.put, List.setIfInBounds_toArray, List.set_cons_zero, List.set_cons_succ]
    refine wpAnyH_take (i := 16) (oi := { dst := some 25, op := .nilCheck (.tmp 24), type := _, pos := _, after := _, guard := some (12, false) }) (v := .pointer (some ⟨p, 0, none⟩)) rfl (by kernel_rfl) (by kernel_rfl) (by kernel_rfl) (fun _ _ _ h => h) (Or.inl ⟨by rfl, fun wq hSw => by (try dsimp only at hSw); go_simp⟩) (by assumption) ?_
    try simp only [Act.put, List.setIfInBounds_toArray, List.set_cons_zero, List.set_cons_succ]
    refine wpAnyH_take (i := 17) (oi := { dst := some 26, op := .fieldAddr 53 (.tmp 25) 3, type := _, pos := _, after := _, guard := some (12, false) }) (v := .pointer (some ⟨p, 8, none⟩)) rfl (by kernel_rfl) (by kernel_rfl) (by kernel_rfl) (fun _ _ _ h => h) (Or.inl ⟨by rfl, fun wq hSw => by (try dsimp only at hSw); go_simp⟩) (by assumption) ?_
    try simp only [Act.put, List.setIfInBounds_toArray, List.set_cons_zero, List.set_cons_succ]
    refine wpAnyH_take (i := 18) (oi := { dst := some 27, op := .load 30 (.tmp 26), type := _, pos := _, after := _, guard := some (12, false) }) (v := .int .u32 s1.c.xid) rfl (by kernel_rfl) (by kernel_rfl) (by kernel_rfl) (fun _ _ _ h => h) (Or.inl ⟨by rfl, fun wq hSw => by (try dsimp only at hSw); go_simp⟩) (by assumption) ?_
    try simp only [Act.put, List.setIfInBounds_toArray, List.set_cons_zero, List.set_cons_succ]
    refine wpAnyH_take (i := 19) (oi := { dst := some 28, op := .binOp .neq 30 (.tmp 23) (.tmp 27) 30, type := _, pos := _, after := _, guard := some (12, false) }) (v := .bool true) rfl (by kernel_rfl) (by kernel_rfl) (by kernel_rfl) (fun _ _ _ h => h) (Or.inl ⟨by rfl, fun wq hSw => by (try dsimp only at hSw); go_simp⟩) (by assumption) ?_
    try simp only [Act.put, List.setIfInBounds_toArray, List.set_cons_zero, List.set_cons_succ]
    refine wpAnyH_take (i := 20) (oi := { dst := some 29, op := .pick (.tmp 21) (.const (.bool true)) (.tmp 28), type := _, pos := _, after := _, guard := none }) (v := .bool true) rfl (by kernel_rfl) (by kernel_rfl) (by kernel_rfl) (fun _ _ _ h => h) (Or.inl ⟨by rfl, fun wq hSw => by (try dsimp only at hSw); go_simp⟩) (by assumption) ?_
    try simp only [Act.put, List.setIfInBounds_toArray, List.set_cons_zero, List.set_cons_succ]
    refine wpAnyH_done (by kernel_rfl) ?_ _
    refine NoPanic.normal ?_
    go_wp2
    refine bodyPost_ret (results_none rfl _ _ _) rfl ?_
    exact ⟨rfl, HL.out.trans H2.out.drew⟩
  have hx' : (m.xid != s1.c.xid) = false := by simpa using hxid
  rw [HON.out, if_pos ⟨hop, hmac, hxid⟩]
  clear HON hop hmac hxid
  by_cases t2 : ty = 2
  · rw [if_pos t2]
    subst t2
    go_enter Try.func21, Try.ntmps21
    go_upto_region 1 with (fail)
    rw [← hwt, ← htb]
    clear hwt htb
    go_upto_region 2 with (first
      | (go_at_call 20; refine HGO.out.mono ?_; rintro e w2 ⟨rfl, H2⟩)
      | fail)
    obtain ⟨cc2, cn2, ct2⟩ := HCC.out _ _ H2.out
    have hM2 := HMB.out _ _ H2.out
    have xx : w2.cell? ⟨mb, 0, none⟩ = some (.int .i64 m.op) ∧ w2.cell? ⟨mb, 2, none⟩ = some (.int .u32 m.xid) ∧ w2.rangeAt mb 9 [.int .u8 m.mac.b0, .int .u8 m.mac.b1, .int .u8 m.mac.b2, .int .u8 m.mac.b3, .int .u8 m.mac.b4, .int .u8 m.mac.b5] ∧ w2.rangeAt p 0 [.int .u8 s1.c.own.b0, .int .u8 s1.c.own.b1, .int .u8 s1.c.own.b2, .int .u8 s1.c.own.b3, .int .u8 s1.c.own.b4, .int .u8 s1.c.own.b5] ∧ w2.cell? ⟨p, 8, none⟩ = some (.int .u32 s1.c.xid) ∧ w2.cell? ⟨cb, 0, none⟩ = some (.pointer (some ⟨p, 0, none⟩)) := ⟨(cell_of_heap hM2 0).trans rfl, (cell_of_heap hM2 2).trans rfl, fun j v hj => by rw [cell_of_heap hM2]; match j, hj with | 0, hj => exact hj | 1, hj => exact hj | 2, hj => exact hj | 3, hj => exact hj | 4, hj => exact hj | 5, hj => exact hj | k + 6, hj => simp at hj, fun j v hj => by rw [H2.out.box.at, Nat.zero_add]; match j, hj with | 0, hj => exact hj | 1, hj => exact hj | 2, hj => exact hj | 3, hj => exact hj | 4, hj => exact hj | 5, hj => exact hj | k + 6, hj => simp at hj, (H2.out.box.at 8).trans rfl, cc2⟩
    clear cc cn ct HGO
    have hmq := HMQ.out _ H2.out
    refine wp_region_noPanic ?_
    refine wp_region_held_drew (S := fun w' => w'.cell? ⟨mb, 0, none⟩ = some (.int .i64 m.op) ∧ w'.cell? ⟨mb, 2, none⟩ = some (.int .u32 m.xid) ∧ w'.rangeAt mb 9 [.int .u8 m.mac.b0, .int .u8 m.mac.b1, .int .u8 m.mac.b2, .int .u8 m.mac.b3, .int .u8 m.mac.b4, .int .u8 m.mac.b5] ∧ w'.rangeAt p 0 [.int .u8 s1.c.own.b0, .int .u8 s1.c.own.b1, .int .u8 s1.c.own.b2, .int .u8 s1.c.own.b3, .int .u8 s1.c.own.b4, .int .u8 s1.c.own.b5] ∧ w'.cell? ⟨p, 8, none⟩ = some (.int .u32 s1.c.xid) ∧ w'.cell? ⟨cb, 0, none⟩ = some (.pointer (some ⟨p, 0, none⟩))) (by kernel_rfl) xx (fun hHeld => ?_)
    refine wpAnyH_take (i := 0) (oi := { dst := some 9, op := .fieldAddr 41 (.tmp 3) 0, type := _, pos := _, after := _, guard := none }) (v := .pointer (some ⟨mb, 0, none⟩)) rfl (by kernel_rfl) (by kernel_rfl) (by kernel_rfl) (fun _ _ _ h => h) (Or.inl ⟨by rfl, fun wq hSw => by (try dsimp only at hSw); go_simp⟩) (by assumption) ?_
    try simp only [Act.put, List.setIfInBounds_toArray, List.set_cons_zero, List.set_cons_succ]
    refine wpAnyH_take (i := 1) (oi := { dst := some 10, op := .load 3 (.tmp 9), type := _, pos := _, after := _, guard := none }) (v := .int .i64 m.op) rfl (by kernel_rfl) (by kernel_rfl) (by kernel_rfl) (fun _ _ _ h => h) (Or.inl ⟨by rfl, fun wq hSw => by (try dsimp only at hSw); go_simp⟩) (by assumption) ?_
    try simp only [Act.put, List.setIfInBounds_toArray, List.set_cons_zero, List.set_cons_succ]
    refine wpAnyH_take (i := 2) (oi := { dst := some 11, op := .binOp .neq 3 (.tmp 10) (.const (.int .i64 2)) 3, type := _, pos := _, after := _, guard := none }) (v := .bool false) rfl (by kernel_rfl) (by kernel_rfl) (by kernel_rfl) (fun _ _ _ h => h) (Or.inl ⟨by rfl, fun wq hSw => by (try dsimp only at hSw); go_simp⟩) (by assumption) ?_
    try simp only [Act.put, List.setIfInBounds_toArray, List.set_cons_zero, List.set_cons_succ]
    refine wpAnyH_take (i := 3) (oi := { dst := some 12, op := .move (.tmp 11), type := _, pos := _, after := _, guard := none }) (v := .bool false) rfl (by kernel_rfl) (by kernel_rfl) (by kernel_rfl) (fun _ _ _ h => h) (Or.inl ⟨by rfl, fun wq hSw => by (try dsimp only at hSw); go_simp⟩) (by assumption) ?_
    try simp only [Act.put, List.setIfInBounds_toArray, List.set_cons_zero, List.set_cons_succ]
    refine wpAnyH_take (i := 4) (oi := { dst := some 13, op := .fieldAddr 41 (.tmp 3) 9, type := _, pos := _, after := _, guard := some (3, false) }) (v := .pointer (some ⟨mb, 9, none⟩)) rfl (by kernel_rfl) (by kernel_rfl) (by kernel_rfl) (fun _ _ _ h => h) (Or.inl ⟨by rfl, fun wq hSw => by (try dsimp only at hSw); go_simp⟩) (by assumption) ?_
    try simp only [Act.put, List.setIfInBounds_toArray, List.set_cons_zero, List.set_cons_succ]
    refine wpAnyH_take (i := 5) (oi := { dst := some 14, op := .load 25 (.tmp 13), type := _, pos := _, after := _, guard := some (3, false) }) (v := .agg #[.int .u8 m.mac.b0, .int .u8 m.mac.b1, .int .u8 m.mac.b2, .int .u8 m.mac.b3, .int .u8 m.mac.b4, .int .u8 m.mac.b5]) rfl (by kernel_rfl) (by kernel_rfl) (by kernel_rfl) (fun _ _ _ h => h) (yieldsIf_load_mid (by rfl) 25 (.tmp 13) rfl mb 9 rfl [.int .u8 m.mac.b0, .int .u8 m.mac.b1, .int .u8 m.mac.b2, .int .u8 m.mac.b3, .int .u8 m.mac.b4, .int .u8 m.mac.b5] _ (fun w hS => hS.2.2.1) Try.underlying25 rfl (by kernel_rfl)) (by assumption) ?_
    try simp only [Act.put, List.setIfInBounds_toArray, List.set_cons_zero, List.set_cons_succ]
    refine wpAnyH_take (i := 6) (oi := { dst := some 15, op := .load 26 (.tmp 1), type := _, pos := _, after := _, guard := some (3, false) }) (v := .pointer (some ⟨p, 0, none⟩)) rfl (by kernel_rfl) (by kernel_rfl) (by kernel_rfl) (fun _ _ _ h => h) (Or.inl ⟨by rfl, fun wq hSw => by (try dsimp only at hSw); go_simp⟩) (by assumption) ?_
    try simp only [Act.put, List.setIfInBounds_toArray, List.set_cons_zero, List.set_cons_succ]
    refine wpAnyH_take (i := 7) (oi := { dst := some 16, op := .nilCheck (.tmp 15), type := _, pos := _, after := _, guard := some (3, false) }) (v := .pointer (some ⟨p, 0, none⟩)) rfl (by kernel_rfl) (by kernel_rfl) (by kernel_rfl) (fun _ _ _ h => h) (Or.inl ⟨by rfl, fun wq hSw => by (try dsimp only at hSw); go_simp⟩) (by assumption) ?_
    try simp only [Act.put, List.setIfInBounds_toArray, List.set_cons_zero, List.set_cons_succ]
    refine wpAnyH_take (i := 8) (oi := { dst := some 17, op := .fieldAddr 53 (.tmp 16) 0, type := _, pos := _, after := _, guard := some (3, false) }) (v := .pointer (some ⟨p, 0, none⟩)) rfl (by kernel_rfl) (by kernel_rfl) (by kernel_rfl) (fun _ _ _ h => h) (Or.inl ⟨by rfl, fun wq hSw => by (try dsimp only at hSw); go_simp⟩) (by assumption) ?_
    try simp only [Act.put, List.setIfInBounds_toArray, List.set_cons_zero, List.set_cons_succ]
    refine wpAnyH_take (i := 9) (oi := { dst := some 18, op := .load 25 (.tmp 17), type := _, pos := _, after := _, guard := some (3, false) }) (v := .agg #[.int .u8 s1.c.own.b0, .int .u8 s1.c.own.b1, .int .u8 s1.c.own.b2, .int .u8 s1.c.own.b3, .int .u8 s1.c.own.b4, .int .u8 s1.c.own.b5]) rfl (by kernel_rfl) (by kernel_rfl) (by kernel_rfl) (fun _ _ _ h => h) (yieldsIf_load_mid (by rfl) 25 (.tmp 17) rfl p 0 rfl [.int .u8 s1.c.own.b0, .int .u8 s1.c.own.b1, .int .u8 s1.c.own.b2, .int .u8 s1.c.own.b3, .int .u8 s1.c.own.b4, .int .u8 s1.c.own.b5] _ (fun w hS => hS.2.2.2.1) Try.underlying25 rfl (by kernel_rfl)) (by assumption) ?_
    try simp only [Act.put, List.setIfInBounds_toArray, List.set_cons_zero, List.set_cons_succ]
    refine wpAnyH_take (i := 10) (oi := { dst := some 19, op := .binOp .neq 25 (.tmp 14) (.tmp 18) 25, type := _, pos := _, after := _, guard := some (3, false) }) (v := .bool false) rfl (by kernel_rfl) (by kernel_rfl) (by kernel_rfl) (fun _ _ _ h => h) (Or.inl ⟨by rfl, fun wq hSw => by (try dsimp only at hSw); go_simp⟩) (by assumption) ?_
    try simp only [Act.put, List.setIfInBounds_toArray, List.set_cons_zero, List.set_cons_succ]
    refine wpAnyH_take (i := 11) (oi := { dst := some 20, op := .pick (.tmp 12) (.const (.bool true)) (.tmp 19), type := _, pos := _, after := _, guard := none }) (v := .bool false) rfl (by kernel_rfl) (by kernel_rfl) (by kernel_rfl) (fun _ _ _ h => h) (Or.inl ⟨by rfl, fun wq hSw => by (try dsimp only at hSw); go_simp⟩) (by assumption) ?_
    try simp only [Act.put, List.setIfInBounds_toArray, List.set_cons_zero, List.set_cons_succ]
    refine wpAnyH_take (i := 12) (oi := { dst := some 21, op := .move (.tmp 20), type := _, pos := _, after := _, guard := none }) (v := .bool false) rfl (by kernel_rfl) (by kernel_rfl) (by kernel_rfl) (fun _ _ _ h => h) (Or.inl ⟨by rfl, fun wq hSw => by (try dsimp only at hSw); go_simp⟩) (by assumption) ?_
    try simp only [Act.put, List.setIfInBounds_toArray, List.set_cons_zero, List.set_cons_succ]
    refine wpAnyH_take (i := 13) (oi := { dst := some 22, op := .fieldAddr 41 (.tmp 3) 2, type := _, pos := _, after := _, guard := some (12, false) }) (v := .pointer (some ⟨mb, 2, none⟩)) rfl (by kernel_rfl) (by kernel_rfl) (by kernel_rfl) (fun _ _ _ h => h) (Or.inl ⟨by rfl, fun wq hSw => by (try dsimp only at hSw); go_simp⟩) (by assumption) ?_
    try simp only [Act.put, List.setIfInBounds_toArray, List.set_cons_zero, List.set_cons_succ]
    refine wpAnyH_take (i := 14) (oi := { dst := some 23, op := .load 30 (.tmp 22), type := _, pos := _, after := _, guard := some (12, false) }) (v := .int .u32 m.xid) rfl (by kernel_rfl) (by kernel_rfl) (by kernel_rfl) (fun _ _ _ h => h) (Or.inl ⟨by rfl, fun wq hSw => by (try dsimp only at hSw); go_simp⟩) (by assumption) ?_
    try simp only [Act.put, List.setIfInBounds_toArray, List.set_cons_zero, List.set_cons_succ]
    refine wpAnyH_take (i := 15) (oi := { dst := some 24, op := .load 26 (.tmp 1), type := _, pos := _, after := _, guard := some (12, false) }) (v := .pointer (some ⟨p, 0, none⟩)) rfl (by kernel_rfl) (by kernel_rfl) (by kernel_rfl) (fun _ _ _ h => h) (Or.inl ⟨by rfl, fun wq hSw => by (try dsimp only at hSw); go_simp⟩) (by assumption) ?_
    try simp only [Act.put, List.setIfInBounds_toArray, List.set_cons_zero, List.set_cons_succ]
    refine wpAnyH_take (i := 16) (oi := { dst := some 25, op := .nilCheck (.tmp 24), type := _, pos := _, after := _, guard := some (12, false) }) (v := .pointer (some ⟨p, 0, none⟩)) rfl (by kernel_rfl) (by kernel_rfl) (by kernel_rfl) (fun _ _ _ h => h) (Or.inl ⟨by rfl, fun wq hSw => by (try dsimp only at hSw); go_simp⟩) (by assumption) ?_
    try simp only [Act.put, List.setIfInBounds_toArray, List.set_cons_zero, List.set_cons_succ]
    refine wpAnyH_take (i := 17) (oi := { dst := some 26, op := .fieldAddr 53 (.tmp 25) 3, type := _, pos := _, after := _, guard := some (12, false) }) (v := .pointer (some ⟨p, 8, none⟩)) rfl (by kernel_rfl) (by kernel_rfl) (by kernel_rfl) (fun _ _ _ h => h) (Or.inl ⟨by rfl, fun wq hSw => by (try dsimp only at hSw); go_simp⟩) (by assumption) ?_
    try simp only [Act.put, List.setIfInBounds_toArray, List.set_cons_zero, List.set_cons_succ]
    refine wpAnyH_take (i := 18) (oi := { dst := some 27, op := .load 30 (.tmp 26), type := _, pos := _, after := _, guard := some (12, false) }) (v := .int .u32 s1.c.xid) rfl (by kernel_rfl) (by kernel_rfl) (by kernel_rfl) (fun _ _ _ h => h) (Or.inl ⟨by rfl, fun wq hSw => by (try dsimp only at hSw); go_simp⟩) (by assumption) ?_
    try simp only [Act.put, List.setIfInBounds_toArray, List.set_cons_zero, List.set_cons_succ]
    refine wpAnyH_take (i := 19) (oi := { dst := some 28, op := .binOp .neq 30 (.tmp 23) (.tmp 27) 30, type := _, pos := _, after := _, guard := some (12, false) }) (v := .bool false) rfl (by kernel_rfl) (by kernel_rfl) (by kernel_rfl) (fun _ _ _ h => h) (Or.inl ⟨by rfl, fun wq hSw => by (try dsimp only at hSw); go_simp⟩) (by assumption) ?_
    try simp only [Act.put, List.setIfInBounds_toArray, List.set_cons_zero, List.set_cons_succ]
    refine wpAnyH_take (i := 20) (oi := { dst := some 29, op := .pick (.tmp 21) (.const (.bool true)) (.tmp 28), type := _, pos := _, after := _, guard := none }) (v := .bool false) rfl (by kernel_rfl) (by kernel_rfl) (by kernel_rfl) (fun _ _ _ h => h) (Or.inl ⟨by rfl, fun wq hSw => by (try dsimp only at hSw); go_simp⟩) (by assumption) ?_
    try simp only [Act.put, List.setIfInBounds_toArray, List.set_cons_zero, List.set_cons_succ]
    refine wpAnyH_done (by kernel_rfl) ?_ _
    refine NoPanic.normal ?_
    have H2d := hid H2.out.drew
    obtain ⟨cc3, cn3, ct3⟩ := HCC.out _ _ H2d.out
    have hM3 := hid (HMB.out _ _ H2d.out)
    clear xx hHeld hM2 cc2 cn2 ct2
    go_wp2_with (first
      | (refine wpList_load_row rfl 41 _ rfl mb rfl 41 #[.int .i64 m.op, .int .i64 m.hops, .int .u32 m.xid, .int .i64 m.secs, .bool m.all, .int .u32 m.ci, .int .u32 m.yi, .int .u32 m.si, .int .u32 m.gi, .int .u8 m.mac.b0, .int .u8 m.mac.b1, .int .u8 m.mac.b2, .int .u8 m.mac.b3, .int .u8 m.mac.b4, .int .u8 m.mac.b5, .string m.sname, .string m.file, .slice a n c] (0, 0) _ (by first | exact hM4.out | exact hM3.out) Try.underlying41 rfl sizeBp ?_)
      | (go_at_call 22; refine (HTY.out _ H2d.out).mono ?_; rintro e w4 ⟨rfl, H4⟩; obtain ⟨cc4, cn4, ct4⟩ := HCC.out _ _ H4.out; have hM4 := hid (HMB.out _ _ H4.out); clear cc3 cn3 ct3)
      | (go_at_call 23; refine (HOF.out _ H4.out).mono ?_; rintro e w5 ⟨rfl, H5⟩)
      | fail)
    go_end0
    exact ⟨rfl, HL.out.trans H5.out⟩
  by_cases t5 : ty = 5
  · rw [if_neg t2, if_pos t5]
    subst t5
    go_enter Try.func21, Try.ntmps21
    go_upto_region 1 with (fail)
    rw [← hwt, ← htb]
    clear hwt htb
    go_upto_region 2 with (first
      | (go_at_call 20; refine HGO.out.mono ?_; rintro e w2 ⟨rfl, H2⟩)
      | fail)
    obtain ⟨cc2, cn2, ct2⟩ := HCC.out _ _ H2.out
    have hM2 := HMB.out _ _ H2.out
    have xx : w2.cell? ⟨mb, 0, none⟩ = some (.int .i64 m.op) ∧ w2.cell? ⟨mb, 2, none⟩ = some (.int .u32 m.xid) ∧ w2.rangeAt mb 9 [.int .u8 m.mac.b0, .int .u8 m.mac.b1, .int .u8 m.mac.b2, .int .u8 m.mac.b3, .int .u8 m.mac.b4, .int .u8 m.mac.b5] ∧ w2.rangeAt p 0 [.int .u8 s1.c.own.b0, .int .u8 s1.c.own.b1, .int .u8 s1.c.own.b2, .int .u8 s1.c.own.b3, .int .u8 s1.c.own.b4, .int .u8 s1.c.own.b5] ∧ w2.cell? ⟨p, 8, none⟩ = some (.int .u32 s1.c.xid) ∧ w2.cell? ⟨cb, 0, none⟩ = some (.pointer (some ⟨p, 0, none⟩)) := ⟨(cell_of_heap hM2 0).trans rfl, (cell_of_heap hM2 2).trans rfl, fun j v hj => by rw [cell_of_heap hM2]; match j, hj with | 0, hj => exact hj | 1, hj => exact hj | 2, hj => exact hj | 3, hj => exact hj | 4, hj => exact hj | 5, hj => exact hj | k + 6, hj => simp at hj, fun j v hj => by rw [H2.out.box.at, Nat.zero_add]; match j, hj with | 0, hj => exact hj | 1, hj => exact hj | 2, hj => exact hj | 3, hj => exact hj | 4, hj => exact hj | 5, hj => exact hj | k + 6, hj => simp at hj, (H2.out.box.at 8).trans rfl, cc2⟩
    clear cc cn ct HGO
    have hmq := HMQ.out _ H2.out
    refine wp_region_noPanic ?_
    refine wp_region_held_drew (S := fun w' => w'.cell? ⟨mb, 0, none⟩ = some (.int .i64 m.op) ∧ w'.cell? ⟨mb, 2, none⟩ = some (.int .u32 m.xid) ∧ w'.rangeAt mb 9 [.int .u8 m.mac.b0, .int .u8 m.mac.b1, .int .u8 m.mac.b2, .int .u8 m.mac.b3, .int .u8 m.mac.b4, .int .u8 m.mac.b5] ∧ w'.rangeAt p 0 [.int .u8 s1.c.own.b0, .int .u8 s1.c.own.b1, .int .u8 s1.c.own.b2, .int .u8 s1.c.own.b3, .int .u8 s1.c.own.b4, .int .u8 s1.c.own.b5] ∧ w'.cell? ⟨p, 8, none⟩ = some (.int .u32 s1.c.xid) ∧ w'.cell? ⟨cb, 0, none⟩ = some (.pointer (some ⟨p, 0, none⟩))) (by kernel_rfl) xx (fun hHeld => ?_)
    refine wpAnyH_take (i := 0) (oi := { dst := some 9, op := .fieldAddr 41 (.tmp 3) 0, type := _, pos := _, after := _, guard := none }) (v := .pointer (some ⟨mb, 0, none⟩)) rfl (by kernel_rfl) (by kernel_rfl) (by kernel_rfl) (fun _ _ _ h => h) (Or.inl ⟨by rfl, fun wq hSw => by (try dsimp only at hSw); go_simp⟩) (by assumption) ?_
    try simp only [Act.put, List.setIfInBounds_toArray, List.set_cons_zero, List.set_cons_succ]
    refine wpAnyH_take (i := 1) (oi := { dst := some 10, op := .load 3 (.tmp 9), type := _, pos := _, after := _, guard := none }) (v := .int .i64 m.op) rfl (by kernel_rfl) (by kernel_rfl) (by kernel_rfl) (fun _ _ _ h => h) (Or.inl ⟨by rfl, fun wq hSw => by (try dsimp only at hSw); go_simp⟩) (by assumption) ?_
    try simp only [Act.put, List.setIfInBounds_toArray, List.set_cons_zero, List.set_cons_succ]
    refine wpAnyH_take (i := 2) (oi := { dst := some 11, op := .binOp .neq 3 (.tmp 10) (.const (.int .i64 2)) 3, type := _, pos := _, after := _, guard := none }) (v := .bool false) rfl (by kernel_rfl) (by kernel_rfl) (by kernel_rfl) (fun _ _ _ h => h) (Or.inl ⟨by rfl, fun wq hSw => by (try dsimp only at hSw); go_simp⟩) (by assumption) ?_
    try simp only [Act.put, List.setIfInBounds_toArray, List.set_cons_zero, List.set_cons_succ]
    refine wpAnyH_take (i := 3) (oi := { dst := some 12, op := .move (.tmp 11), type := _, pos := _, after := _, guard := none }) (v := .bool false) rfl (by kernel_rfl) (by kernel_rfl) (by kernel_rfl) (fun _ _ _ h => h) (Or.inl ⟨by rfl, fun wq hSw => by (try dsimp only at hSw); go_simp⟩) (by assumption) ?_
    try simp only [Act.put, List.setIfInBounds_toArray, List.set_cons_zero, List.set_cons_succ]
    refine wpAnyH_take (i := 4) (oi := { dst := some 13, op := .fieldAddr 41 (.tmp 3) 9, type := _, pos := _, after := _, guard := some (3, false) }) (v := .pointer (some ⟨mb, 9, none⟩)) rfl (by kernel_rfl) (by kernel_rfl) (by kernel_rfl) (fun _ _ _ h => h) (Or.inl ⟨by rfl, fun wq hSw => by (try dsimp only at hSw); go_simp⟩) (by assumption) ?_
    try simp only [Act.put, List.setIfInBounds_toArray, List.set_cons_zero, List.set_cons_succ]
    refine wpAnyH_take (i := 5) (oi := { dst := some 14, op := .load 25 (.tmp 13), type := _, pos := _, after := _, guard := some (3, false) }) (v := .agg #[.int .u8 m.mac.b0, .int .u8 m.mac.b1, .int .u8 m.mac.b2, .int .u8 m.mac.b3, .int .u8 m.mac.b4, .int .u8 m.mac.b5]) rfl (by kernel_rfl) (by kernel_rfl) (by kernel_rfl) (fun _ _ _ h => h) (yieldsIf_load_mid (by rfl) 25 (.tmp 13) rfl mb 9 rfl [.int .u8 m.mac.b0, .int .u8 m.mac.b1, .int .u8 m.mac.b2, .int .u8 m.mac.b3, .int .u8 m.mac.b4, .int .u8 m.mac.b5] _ (fun w hS => hS.2.2.1) Try.underlying25 rfl (by kernel_rfl)) (by assumption) ?_
    try simp only [Act.put, List.setIfInBounds_toArray, List.set_cons_zero, List.set_cons_succ]
    refine wpAnyH_take (i := 6) (oi := { dst := some 15, op := .load 26 (.tmp 1), type := _, pos := _, after := _, guard := some (3, false) }) (v := .pointer (some ⟨p, 0, none⟩)) rfl (by kernel_rfl) (by kernel_rfl) (by kernel_rfl) (fun _ _ _ h => h) (Or.inl ⟨by rfl, fun wq hSw => by (try dsimp only at hSw); go_simp⟩) (by assumption) ?_
    try simp only [Act.put, List.setIfInBounds_toArray, List.set_cons_zero, List.set_cons_succ]
    refine wpAnyH_take (i := 7) (oi := { dst := some 16, op := .nilCheck (.tmp 15), type := _, pos := _, after := _, guard := some (3, false) }) (v := .pointer (some ⟨p, 0, none⟩)) rfl (by kernel_rfl) (by kernel_rfl) (by kernel_rfl) (fun _ _ _ h => h) (Or.inl ⟨by rfl, fun wq hSw => by (try dsimp only at hSw); go_simp⟩) (by assumption) ?_
    try simp only [Act.put, List.setIfInBounds_toArray, List.set_cons_zero, List.set_cons_succ]
    refine wpAnyH_take (i := 8) (oi := { dst := some 17, op := .fieldAddr 53 (.tmp 16) 0, type := _, pos := _, after := _, guard := some (3, false) }) (v := .pointer (some ⟨p, 0, none⟩)) rfl (by kernel_rfl) (by kernel_rfl) (by kernel_rfl) (fun _ _ _ h => h) (Or.inl ⟨by rfl, fun wq hSw => by (try dsimp only at hSw); go_simp⟩) (by assumption) ?_
    try simp only [Act.put, List.setIfInBounds_toArray, List.set_cons_zero, List.set_cons_succ]
    refine wpAnyH_take (i := 9) (oi := { dst := some 18, op := .load 25 (.tmp 17), type := _, pos := _, after := _, guard := some (3, false) }) (v := .agg #[.int .u8 s1.c.own.b0, .int .u8 s1.c.own.b1, .int .u8 s1.c.own.b2, .int .u8 s1.c.own.b3, .int .u8 s1.c.own.b4, .int .u8 s1.c.own.b5]) rfl (by kernel_rfl) (by kernel_rfl) (by kernel_rfl) (fun _ _ _ h => h) (yieldsIf_load_mid (by rfl) 25 (.tmp 17) rfl p 0 rfl [.int .u8 s1.c.own.b0, .int .u8 s1.c.own.b1, .int .u8 s1.c.own.b2, .int .u8 s1.c.own.b3, .int .u8 s1.c.own.b4, .int .u8 s1.c.own.b5] _ (fun w hS => hS.2.2.2.1) Try.underlying25 rfl (by kernel_rfl)) (by assumption) ?_
    try simp only [Act.put, List.setIfInBounds_toArray, List.set_cons_zero, List.set_cons_succ]
    refine wpAnyH_take (i := 10) (oi := { dst := some 19, op := .binOp .neq 25 (.tmp 14) (.tmp 18) 25, type := _, pos := _, after := _, guard := some (3, false) }) (v := .bool false) rfl (by kernel_rfl) (by kernel_rfl) (by kernel_rfl) (fun _ _ _ h => h) (Or.inl ⟨by rfl, fun wq hSw => by (try dsimp only at hSw); go_simp⟩) (by assumption) ?_
    try simp only [Act.put, List.setIfInBounds_toArray, List.set_cons_zero, List.set_cons_succ]
    refine wpAnyH_take (i := 11) (oi := { dst := some 20, op := .pick (.tmp 12) (.const (.bool true)) (.tmp 19), type := _, pos := _, after := _, guard := none }) (v := .bool false) rfl (by kernel_rfl) (by kernel_rfl) (by kernel_rfl) (fun _ _ _ h => h) (Or.inl ⟨by rfl, fun wq hSw => by (try dsimp only at hSw); go_simp⟩) (by assumption) ?_
    try simp only [Act.put, List.setIfInBounds_toArray, List.set_cons_zero, List.set_cons_succ]
    refine wpAnyH_take (i := 12) (oi := { dst := some 21, op := .move (.tmp 20), type := _, pos := _, after := _, guard := none }) (v := .bool false) rfl (by kernel_rfl) (by kernel_rfl) (by kernel_rfl) (fun _ _ _ h => h) (Or.inl ⟨by rfl, fun wq hSw => by (try dsimp only at hSw); go_simp⟩) (by assumption) ?_
    try simp only [Act.put, List.setIfInBounds_toArray, List.set_cons_zero, List.set_cons_succ]
    refine wpAnyH_take (i := 13) (oi := { dst := some 22, op := .fieldAddr 41 (.tmp 3) 2, type := _, pos := _, after := _, guard := some (12, false) }) (v := .pointer (some ⟨mb, 2, none⟩)) rfl (by kernel_rfl) (by kernel_rfl) (by kernel_rfl) (fun _ _ _ h => h) (Or.inl ⟨by rfl, fun wq hSw => by (try dsimp only at hSw); go_simp⟩) (by assumption) ?_
    try simp only [Act.put, List.setIfInBounds_toArray, List.set_cons_zero, List.set_cons_succ]
    refine wpAnyH_take (i := 14) (oi := { dst := some 23, op := .load 30 (.tmp 22), type := _, pos := _, after := _, guard := some (12, false) }) (v := .int .u32 m.xid) rfl (by kernel_rfl) (by kernel_rfl) (by kernel_rfl) (fun _ _ _ h => h) (Or.inl ⟨by rfl, fun wq hSw => by (try dsimp only at hSw); go_simp⟩) (by assumption) ?_
    try simp only [Act.put, List.setIfInBounds_toArray, List.set_cons_zero, List.set_cons_succ]
    refine wpAnyH_take (i := 15) (oi := { dst := some 24, op := .load 26 (.tmp 1), type := _, pos := _, after := _, guard := some (12, false) }) (v := .pointer (some ⟨p, 0, none⟩)) rfl (by kernel_rfl) (by kernel_rfl) (by kernel_rfl) (fun _ _ _ h => h) (Or.inl ⟨by rfl, fun wq hSw => by (try dsimp only at hSw); go_simp⟩) (by assumption) ?_
    try simp only [Act.put, List.setIfInBounds_toArray, List.set_cons_zero, List.set_cons_succ]
    refine wpAnyH_take (i := 16) (oi := { dst := some 25, op := .nilCheck (.tmp 24), type := _, pos := _, after := _, guard := some (12, false) }) (v := .pointer (some ⟨p, 0, none⟩)) rfl (by kernel_rfl) (by kernel_rfl) (by kernel_rfl) (fun _ _ _ h => h) (Or.inl ⟨by rfl, fun wq hSw => by (try dsimp only at hSw); go_simp⟩) (by assumption) ?_
    try simp only [Act.put, List.setIfInBounds_toArray, List.set_cons_zero, List.set_cons_succ]
    refine wpAnyH_take (i := 17) (oi := { dst := some 26, op := .fieldAddr 53 (.tmp 25) 3, type := _, pos := _, after := _, guard := some (12, false) }) (v := .pointer (some ⟨p, 8, none⟩)) rfl (by kernel_rfl) (by kernel_rfl) (by kernel_rfl) (fun _ _ _ h => h) (Or.inl ⟨by rfl, fun wq hSw => by (try dsimp only at hSw); go_simp⟩) (by assumption) ?_
    try simp only [Act.put, List.setIfInBounds_toArray, List.set_cons_zero, List.set_cons_succ]
    refine wpAnyH_take (i := 18) (oi := { dst := some 27, op := .load 30 (.tmp 26), type := _, pos := _, after := _, guard := some (12, false) }) (v := .int .u32 s1.c.xid) rfl (by kernel_rfl) (by kernel_rfl) (by kernel_rfl) (fun _ _ _ h => h) (Or.inl ⟨by rfl, fun wq hSw => by (try dsimp only at hSw); go_simp⟩) (by assumption) ?_
    try simp only [Act.put, List.setIfInBounds_toArray, List.set_cons_zero, List.set_cons_succ]
    refine wpAnyH_take (i := 19) (oi := { dst := some 28, op := .binOp .neq 30 (.tmp 23) (.tmp 27) 30, type := _, pos := _, after := _, guard := some (12, false) }) (v := .bool false) rfl (by kernel_rfl) (by kernel_rfl) (by kernel_rfl) (fun _ _ _ h => h) (Or.inl ⟨by rfl, fun wq hSw => by (try dsimp only at hSw); go_simp⟩) (by assumption) ?_
    try simp only [Act.put, List.setIfInBounds_toArray, List.set_cons_zero, List.set_cons_succ]
    refine wpAnyH_take (i := 20) (oi := { dst := some 29, op := .pick (.tmp 21) (.const (.bool true)) (.tmp 28), type := _, pos := _, after := _, guard := none }) (v := .bool false) rfl (by kernel_rfl) (by kernel_rfl) (by kernel_rfl) (fun _ _ _ h => h) (Or.inl ⟨by rfl, fun wq hSw => by (try dsimp only at hSw); go_simp⟩) (by assumption) ?_
    try simp only [Act.put, List.setIfInBounds_toArray, List.set_cons_zero, List.set_cons_succ]
    refine wpAnyH_done (by kernel_rfl) ?_ _
    refine NoPanic.normal ?_
    have H2d := hid H2.out.drew
    obtain ⟨cc3, cn3, ct3⟩ := HCC.out _ _ H2d.out
    have hM3 := hid (HMB.out _ _ H2d.out)
    clear xx hHeld hM2 cc2 cn2 ct2
    go_wp2_with (first
      | (refine wpList_load_row rfl 41 _ rfl mb rfl 41 #[.int .i64 m.op, .int .i64 m.hops, .int .u32 m.xid, .int .i64 m.secs, .bool m.all, .int .u32 m.ci, .int .u32 m.yi, .int .u32 m.si, .int .u32 m.gi, .int .u8 m.mac.b0, .int .u8 m.mac.b1, .int .u8 m.mac.b2, .int .u8 m.mac.b3, .int .u8 m.mac.b4, .int .u8 m.mac.b5, .string m.sname, .string m.file, .slice a n c] (0, 0) _ (by first | exact hM4.out | exact hM3.out) Try.underlying41 rfl sizeBp ?_)
      | (go_at_call 22; refine (HTY.out _ H2d.out).mono ?_; rintro e w4 ⟨rfl, H4⟩; obtain ⟨cc4, cn4, ct4⟩ := HCC.out _ _ H4.out; have hM4 := hid (HMB.out _ _ H4.out); clear cc3 cn3 ct3)
      | (go_at_call 24; refine (HGI.out _ H4.out).mono ?_; rintro e w5 ⟨rfl, H5⟩)
      | fail)
    go_end0
    exact ⟨rfl, HL.out.trans H5.out⟩
  by_cases t6 : ty = 6
  · rw [if_neg t2, if_neg t5, if_pos t6]
    subst t6
    go_enter Try.func21, Try.ntmps21
    go_upto_region 1 with (fail)
    rw [← hwt, ← htb]
    clear hwt htb
    go_upto_region 2 with (first
      | (go_at_call 20; refine HGO.out.mono ?_; rintro e w2 ⟨rfl, H2⟩)
      | fail)
    obtain ⟨cc2, cn2, ct2⟩ := HCC.out _ _ H2.out
    have hM2 := HMB.out _ _ H2.out
    have xx : w2.cell? ⟨mb, 0, none⟩ = some (.int .i64 m.op) ∧ w2.cell? ⟨mb, 2, none⟩ = some (.int .u32 m.xid) ∧ w2.rangeAt mb 9 [.int .u8 m.mac.b0, .int .u8 m.mac.b1, .int .u8 m.mac.b2, .int .u8 m.mac.b3, .int .u8 m.mac.b4, .int .u8 m.mac.b5] ∧ w2.rangeAt p 0 [.int .u8 s1.c.own.b0, .int .u8 s1.c.own.b1, .int .u8 s1.c.own.b2, .int .u8 s1.c.own.b3, .int .u8 s1.c.own.b4, .int .u8 s1.c.own.b5] ∧ w2.cell? ⟨p, 8, none⟩ = some (.int .u32 s1.c.xid) ∧ w2.cell? ⟨cb, 0, none⟩ = some (.pointer (some ⟨p, 0, none⟩)) := ⟨(cell_of_heap hM2 0).trans rfl, (cell_of_heap hM2 2).trans rfl, fun j v hj => by rw [cell_of_heap hM2]; match j, hj with | 0, hj => exact hj | 1, hj => exact hj | 2, hj => exact hj | 3, hj => exact hj | 4, hj => exact hj | 5, hj => exact hj | k + 6, hj => simp at hj, fun j v hj => by rw [H2.out.box.at, Nat.zero_add]; match j, hj with | 0, hj => exact hj | 1, hj => exact hj | 2, hj => exact hj | 3, hj => exact hj | 4, hj => exact hj | 5, hj => exact hj | k + 6, hj => simp at hj, (H2.out.box.at 8).trans rfl, cc2⟩
    clear cc cn ct HGO
    have hmq := HMQ.out _ H2.out
    refine wp_region_noPanic ?_
    refine wp_region_held_drew (S := fun w' => w'.cell? ⟨mb, 0, none⟩ = some (.int .i64 m.op) ∧ w'.cell? ⟨mb, 2, none⟩ = some (.int .u32 m.xid) ∧ w'.rangeAt mb 9 [.int .u8 m.mac.b0, .int .u8 m.mac.b1, .int .u8 m.mac.b2, .int .u8 m.mac.b3, .int .u8 m.mac.b4, .int .u8 m.mac.b5] ∧ w'.rangeAt p 0 [.int .u8 s1.c.own.b0, .int .u8 s1.c.own.b1, .int .u8 s1.c.own.b2, .int .u8 s1.c.own.b3, .int .u8 s1.c.own.b4, .int .u8 s1.c.own.b5] ∧ w'.cell? ⟨p, 8, none⟩ = some (.int .u32 s1.c.xid) ∧ w'.cell? ⟨cb, 0, none⟩ = some (.pointer (some ⟨p, 0, none⟩))) (by kernel_rfl) xx (fun hHeld => ?_)
    refine wpAnyH_take (i := 0) (oi := { dst := some 9, op := .fieldAddr 41 (.tmp 3) 0, type := _, pos := _, after := _, guard := none }) (v := .pointer (some ⟨mb, 0, none⟩)) rfl (by kernel_rfl) (by kernel_rfl) (by kernel_rfl) (fun _ _ _ h => h) (Or.inl ⟨by rfl, fun wq hSw => by (try dsimp only at hSw); go_simp⟩) (by assumption) ?_
    try simp only [Act.put, List.setIfInBounds_toArray, List.set_cons_zero, List.set_cons_succ]
    refine wpAnyH_take (i := 1) (oi := { dst := some 10, op := .load 3 (.tmp 9), type := _, pos := _, after := _, guard := none }) (v := .int .i64 m.op) rfl (by kernel_rfl) (by kernel_rfl) (by kernel_rfl) (fun _ _ _ h => h) (Or.inl ⟨by rfl, fun wq hSw => by (try dsimp only at hSw); go_simp⟩) (by assumption) ?_
    try simp only [Act.put, List.setIfInBounds_toArray, List.set_cons_zero, List.set_cons_succ]
    refine wpAnyH_take (i := 2) (oi := { dst := some 11, op := .binOp .neq 3 (.tmp 10) (.const (.int .i64 2)) 3, type := _, pos := _, after := _, guard := none }) (v := .bool false) rfl (by kernel_rfl) (by kernel_rfl) (by kernel_rfl) (fun _ _ _ h => h) (Or.inl ⟨by rfl, fun wq hSw => by (try dsimp only at hSw); go_simp⟩) (by assumption) ?_
    try simp only [Act.put, List.setIfInBounds_toArray, List.set_cons_zero, List.set_cons_succ]
    refine wpAnyH_take (i := 3) (oi := { dst := some 12, op := .move (.tmp 11), type := _, pos := _, after := _, guard := none }) (v := .bool false) rfl (by kernel_rfl) (by kernel_rfl) (by kernel_rfl) (fun _ _ _ h => h) (Or.inl ⟨by rfl, fun wq hSw => by (try dsimp only at hSw); go_simp⟩) (by assumption) ?_
    try simp only [Act.put, List.setIfInBounds_toArray, List.set_cons_zero, List.set_cons_succ]
    refine wpAnyH_take (i := 4) (oi := { dst := some 13, op := .fieldAddr 41 (.tmp 3) 9, type := _, pos := _, after := _, guard := some (3, false) }) (v := .pointer (some ⟨mb, 9, none⟩)) rfl (by kernel_rfl) (by kernel_rfl) (by kernel_rfl) (fun _ _ _ h => h) (Or.inl ⟨by rfl, fun wq hSw => by (try dsimp only at hSw); go_simp⟩) (by assumption) ?_
    try simp only [Act.put, List.setIfInBounds_toArray, List.set_cons_zero, List.set_cons_succ]
    refine wpAnyH_take (i := 5) (oi := { dst := some 14, op := .load 25 (.tmp 13), type := _, pos := _, after := _, guard := some (3, false) }) (v := .agg #[.int .u8 m.mac.b0, .int .u8 m.mac.b1, .int .u8 m.mac.b2, .int .u8 m.mac.b3, .int .u8 m.mac.b4, .int .u8 m.mac.b5]) rfl (by kernel_rfl) (by kernel_rfl) (by kernel_rfl) (fun _ _ _ h => h) (yieldsIf_load_mid (by rfl) 25 (.tmp 13) rfl mb 9 rfl [.int .u8 m.mac.b0, .int .u8 m.mac.b1, .int .u8 m.mac.b2, .int .u8 m.mac.b3, .int .u8 m.mac.b4, .int .u8 m.mac.b5] _ (fun w hS => hS.2.2.1) Try.underlying25 rfl (by kernel_rfl)) (by assumption) ?_
    try simp only [Act.put, List.setIfInBounds_toArray, List.set_cons_zero, List.set_cons_succ]
    refine wpAnyH_take (i := 6) (oi := { dst := some 15, op := .load 26 (.tmp 1), type := _, pos := _, after := _, guard := some (3, false) }) (v := .pointer (some ⟨p, 0, none⟩)) rfl (by kernel_rfl) (by kernel_rfl) (by kernel_rfl) (fun _ _ _ h => h) (Or.inl ⟨by rfl, fun wq hSw => by (try dsimp only at hSw); go_simp⟩) (by assumption) ?_
    try simp only [Act.put, List.setIfInBounds_toArray, List.set_cons_zero, List.set_cons_succ]
    refine wpAnyH_take (i := 7) (oi := { dst := some 16, op := .nilCheck (.tmp 15), type := _, pos := _, after := _, guard := some (3, false) }) (v := .pointer (some ⟨p, 0, none⟩)) rfl (by kernel_rfl) (by kernel_rfl) (by kernel_rfl) (fun _ _ _ h => h) (Or.inl ⟨by rfl, fun wq hSw => by (try dsimp only at hSw); go_simp⟩) (by assumption) ?_
    try simp only [Act.put, List.setIfInBounds_toArray, List.set_cons_zero, List.set_cons_succ]
    refine wpAnyH_take (i := 8) (oi := { dst := some 17, op := .fieldAddr 53 (.tmp 16) 0, type := _, pos := _, after := _, guard := some (3, false) }) (v := .pointer (some ⟨p, 0, none⟩)) rfl (by kernel_rfl) (by kernel_rfl) (by kernel_rfl) (fun _ _ _ h => h) (Or.inl ⟨by rfl, fun wq hSw => by (try dsimp only at hSw); go_simp⟩) (by assumption) ?_
    try simp only [Act.put, List.setIfInBounds_toArray, List.set_cons_zero, List.set_cons_succ]
    refine wpAnyH_take (i := 9) (oi := { dst := some 18, op := .load 25 (.tmp 17), type := _, pos := _, after := _, guard := some (3, false) }) (v := .agg #[.int .u8 s1.c.own.b0, .int .u8 s1.c.own.b1, .int .u8 s1.c.own.b2, .int .u8 s1.c.own.b3, .int .u8 s1.c.own.b4, .int .u8 s1.c.own.b5]) rfl (by kernel_rfl) (by kernel_rfl) (by kernel_rfl) (fun _ _ _ h => h) (yieldsIf_load_mid (by rfl) 25 (.tmp 17) rfl p 0 rfl [.int .u8 s1.c.own.b0, .int .u8 s1.c.own.b1, .int .u8 s1.c.own.b2, .int .u8 s1.c.own.b3, .int .u8 s1.c.own.b4, .int .u8 s1.c.own.b5] _ (fun w hS => hS.2.2.2.1) Try.underlying25 rfl (by kernel_rfl)) (by assumption) ?_
    try simp only [Act.put, List.setIfInBounds_toArray, List.set_cons_zero, List.set_cons_succ]
    refine wpAnyH_take (i := 10) (oi := { dst := some 19, op := .binOp .neq 25 (.tmp 14) (.tmp 18) 25, type := _, pos := _, after := _, guard := some (3, false) }) (v := .bool false) rfl (by kernel_rfl) (by kernel_rfl) (by kernel_rfl) (fun _ _ _ h => h) (Or.inl ⟨by rfl, fun wq hSw => by (try dsimp only at hSw); go_simp⟩) (by assumption) ?_
    try simp only [Act.put, List.setIfInBounds_toArray, List.set_cons_zero, List.set_cons_succ]
    refine wpAnyH_take (i := 11) (oi := { dst := some 20, op := .pick (.tmp 12) (.const (.bool true)) (.tmp 19), type := _, pos := _, after := _, guard := none }) (v := .bool false) rfl (by kernel_rfl) (by kernel_rfl) (by kernel_rfl) (fun _ _ _ h => h) (Or.inl ⟨by rfl, fun wq hSw => by (try dsimp only at hSw); go_simp⟩) (by assumption) ?_
    try simp only [Act.put, List.setIfInBounds_toArray, List.set_cons_zero, List.set_cons_succ]
    refine wpAnyH_take (i := 12) (oi := { dst := some 21, op := .move (.tmp 20), type := _, pos := _, after := _, guard := none }) (v := .bool false) rfl (by kernel_rfl) (by kernel_rfl) (by kernel_rfl) (fun _ _ _ h => h) (Or.inl ⟨by rfl, fun wq hSw => by (try dsimp only at hSw); go_simp⟩) (by assumption) ?_
    try simp only [Act.put, List.setIfInBounds_toArray, List.set_cons_zero, List.set_cons_succ]
    refine wpAnyH_take (i := 13) (oi := { dst := some 22, op := .fieldAddr 41 (.tmp 3) 2, type := _, pos := _, after := _, guard := some (12, false) }) (v := .pointer (some ⟨mb, 2, none⟩)) rfl (by kernel_rfl) (by kernel_rfl) (by kernel_rfl) (fun _ _ _ h => h) (Or.inl ⟨by rfl, fun wq hSw => by (try dsimp only at hSw); go_simp⟩) (by assumption) ?_
    try simp only [Act.put, List.setIfInBounds_toArray, List.set_cons_zero, List.set_cons_succ]
    refine wpAnyH_take (i := 14) (oi := { dst := some 23, op := .load 30 (.tmp 22), type := _, pos := _, after := _, guard := some (12, false) }) (v := .int .u32 m.xid) rfl (by kernel_rfl) (by kernel_rfl) (by kernel_rfl) (fun _ _ _ h => h) (Or.inl ⟨by rfl, fun wq hSw => by (try dsimp only at hSw); go_simp⟩) (by assumption) ?_
    try simp only [Act.put, List.setIfInBounds_toArray, List.set_cons_zero, List.set_cons_succ]
    refine wpAnyH_take (i := 15) (oi := { dst := some 24, op := .load 26 (.tmp 1), type := _, pos := _, after := _, guard := some (12, false) }) (v := .pointer (some ⟨p, 0, none⟩)) rfl (by kernel_rfl) (by kernel_rfl) (by kernel_rfl) (fun _ _ _ h => h) (Or.inl ⟨by rfl, fun wq hSw => by (try dsimp only at hSw); go_simp⟩) (by assumption) ?_
    try simp only [Act.put, List.setIfInBounds_toArray, List.set_cons_zero, List.set_cons_succ]
    refine wpAnyH_take (i := 16) (oi := { dst := some 25, op := .nilCheck (.tmp 24), type := _, pos := _, after := _, guard := some (12, false) }) (v := .pointer (some ⟨p, 0, none⟩)) rfl (by kernel_rfl) (by kernel_rfl) (by kernel_rfl) (fun _ _ _ h => h) (Or.inl ⟨by rfl, fun wq hSw => by (try dsimp only at hSw); go_simp⟩) (by assumption) ?_
    try simp only [Act.put, List.setIfInBounds_toArray, List.set_cons_zero, List.set_cons_succ]
    refine wpAnyH_take (i := 17) (oi := { dst := some 26, op := .fieldAddr 53 (.tmp 25) 3, type := _, pos := _, after := _, guard := some (12, false) }) (v := .pointer (some ⟨p, 8, none⟩)) rfl (by kernel_rfl) (by kernel_rfl) (by kernel_rfl) (fun _ _ _ h => h) (Or.inl ⟨by rfl, fun wq hSw => by (try dsimp only at hSw); go_simp⟩) (by assumption) ?_
    try simp only [Act.put, List.setIfInBounds_toArray, List.set_cons_zero, List.set_cons_succ]
    refine wpAnyH_take (i := 18) (oi := { dst := some 27, op := .load 30 (.tmp 26), type := _, pos := _, after := _, guard := some (12, false) }) (v := .int .u32 s1.c.xid) rfl (by kernel_rfl) (by kernel_rfl) (by kernel_rfl) (fun _ _ _ h => h) (Or.inl ⟨by rfl, fun wq hSw => by (try dsimp only at hSw); go_simp⟩) (by assumption) ?_
    try simp only [Act.put, List.setIfInBounds_toArray, List.set_cons_zero, List.set_cons_succ]
    refine wpAnyH_take (i := 19) (oi := { dst := some 28, op := .binOp .neq 30 (.tmp 23) (.tmp 27) 30, type := _, pos := _, after := _, guard := some (12, false) }) (v := .bool false) rfl (by kernel_rfl) (by kernel_rfl) (by kernel_rfl) (fun _ _ _ h => h) (Or.inl ⟨by rfl, fun wq hSw => by (try dsimp only at hSw); go_simp⟩) (by assumption) ?_
    try simp only [Act.put, List.setIfInBounds_toArray, List.set_cons_zero, List.set_cons_succ]
    refine wpAnyH_take (i := 20) (oi := { dst := some 29, op := .pick (.tmp 21) (.const (.bool true)) (.tmp 28), type := _, pos := _, after := _, guard := none }) (v := .bool false) rfl (by kernel_rfl) (by kernel_rfl) (by kernel_rfl) (fun _ _ _ h => h) (Or.inl ⟨by rfl, fun wq hSw => by (try dsimp only at hSw); go_simp⟩) (by assumption) ?_
    try simp only [Act.put, List.setIfInBounds_toArray, List.set_cons_zero, List.set_cons_succ]
    refine wpAnyH_done (by kernel_rfl) ?_ _
    refine NoPanic.normal ?_
    have H2d := hid H2.out.drew
    obtain ⟨cc3, cn3, ct3⟩ := HCC.out _ _ H2d.out
    have hM3 := hid (HMB.out _ _ H2d.out)
    clear xx hHeld hM2 cc2 cn2 ct2
    go_wp2_with (first
      | (refine wpList_load_row rfl 41 _ rfl mb rfl 41 #[.int .i64 m.op, .int .i64 m.hops, .int .u32 m.xid, .int .i64 m.secs, .bool m.all, .int .u32 m.ci, .int .u32 m.yi, .int .u32 m.si, .int .u32 m.gi, .int .u8 m.mac.b0, .int .u8 m.mac.b1, .int .u8 m.mac.b2, .int .u8 m.mac.b3, .int .u8 m.mac.b4, .int .u8 m.mac.b5, .string m.sname, .string m.file, .slice a n c] (0, 0) _ (by first | exact hM4.out | exact hM3.out) Try.underlying41 rfl sizeBp ?_)
      | (go_at_call 22; refine (HTY.out _ H2d.out).mono ?_; rintro e w4 ⟨rfl, H4⟩; obtain ⟨cc4, cn4, ct4⟩ := HCC.out _ _ H4.out; have hM4 := hid (HMB.out _ _ H4.out); clear cc3 cn3 ct3)
      | (go_at_call 25; refine (HRE.out _ H4.out).mono ?_; rintro e w5 ⟨rfl, H5⟩)
      | fail)
    go_end0
    exact ⟨rfl, HL.out.trans H5.out⟩
  rw [if_neg t2, if_neg t5, if_neg t6]
  have t2' : (ty == 2) = false := by simpa using t2
  have t5' : (ty == 5) = false := by simpa using t5
  have t6' : (ty == 6) = false := by simpa using t6
  clear t2 t5 t6
  go_enter Try.func21, Try.ntmps21
  go_upto_region 1 with (fail)
  rw [← hwt, ← htb]
  clear hwt htb
  go_upto_region 2 with (first
    | (go_at_call 20; refine HGO.out.mono ?_; rintro e w2 ⟨rfl, H2⟩)
    | fail)
  obtain ⟨cc2, cn2, ct2⟩ := HCC.out _ _ H2.out
  have hM2 := HMB.out _ _ H2.out
  have xx : w2.cell? ⟨mb, 0, none⟩ = some (.int .i64 m.op) ∧ w2.cell? ⟨mb, 2, none⟩ = some (.int .u32 m.xid) ∧ w2.rangeAt mb 9 [.int .u8 m.mac.b0, .int .u8 m.mac.b1, .int .u8 m.mac.b2, .int .u8 m.mac.b3, .int .u8 m.mac.b4, .int .u8 m.mac.b5] ∧ w2.rangeAt p 0 [.int .u8 s1.c.own.b0, .int .u8 s1.c.own.b1, .int .u8 s1.c.own.b2, .int .u8 s1.c.own.b3, .int .u8 s1.c.own.b4, .int .u8 s1.c.own.b5] ∧ w2.cell? ⟨p, 8, none⟩ = some (.int .u32 s1.c.xid) ∧ w2.cell? ⟨cb, 0, none⟩ = some (.pointer (some ⟨p, 0, none⟩)) := ⟨(cell_of_heap hM2 0).trans rfl, (cell_of_heap hM2 2).trans rfl, fun j v hj => by rw [cell_of_heap hM2]; match j, hj with | 0, hj => exact hj | 1, hj => exact hj | 2, hj => exact hj | 3, hj => exact hj | 4, hj => exact hj | 5, hj => exact hj | k + 6, hj => simp at hj, fun j v hj => by rw [H2.out.box.at, Nat.zero_add]; match j, hj with | 0, hj => exact hj | 1, hj => exact hj | 2, hj => exact hj | 3, hj => exact hj | 4, hj => exact hj | 5, hj => exact hj | k + 6, hj => simp at hj, (H2.out.box.at 8).trans rfl, cc2⟩
  clear cc cn ct HGO
  have hmq := HMQ.out _ H2.out
  refine wp_region_noPanic ?_
  refine wp_region_held_drew (S := fun w' => w'.cell? ⟨mb, 0, none⟩ = some (.int .i64 m.op) ∧ w'.cell? ⟨mb, 2, none⟩ = some (.int .u32 m.xid) ∧ w'.rangeAt mb 9 [.int .u8 m.mac.b0, .int .u8 m.mac.b1, .int .u8 m.mac.b2, .int .u8 m.mac.b3, .int .u8 m.mac.b4, .int .u8 m.mac.b5] ∧ w'.rangeAt p 0 [.int .u8 s1.c.own.b0, .int .u8 s1.c.own.b1, .int .u8 s1.c.own.b2, .int .u8 s1.c.own.b3, .int .u8 s1.c.own.b4, .int .u8 s1.c.own.b5] ∧ w'.cell? ⟨p, 8, none⟩ = some (.int .u32 s1.c.xid) ∧ w'.cell? ⟨cb, 0, none⟩ = some (.pointer (some ⟨p, 0, none⟩))) (by kernel_rfl) xx (fun hHeld => ?_)
  refine wpAnyH_take (i := 0) (oi := { dst := some 9, op := .fieldAddr 41 (.tmp 3) 0, type := _, pos := _, after := _, guard := none }) (v := .pointer (some ⟨mb, 0, none⟩)) rfl (by kernel_rfl) (by kernel_rfl) (by kernel_rfl) (fun _ _ _ h => h) (Or.inl ⟨by rfl, fun wq hSw => by (try dsimp only at hSw); go_simp⟩) (by assumption) ?_
  try simp only [Act.put, List.setIfInBounds_toArray, List.set_cons_zero, List.set_cons_succ]
  refine wpAnyH_take (i := 1) (oi := { dst := some 10, op := .load 3 (.tmp 9), type := _, pos := _, after := _, guard := none }) (v := .int .i64 m.op) rfl (by kernel_rfl) (by kernel_rfl) (by kernel_rfl) (fun _ _ _ h => h) (Or.inl ⟨by rfl, fun wq hSw => by (try dsimp only at hSw); go_simp⟩) (by assumption) ?_
  try simp only [Act.put, List.setIfInBounds_toArray, List.set_cons_zero, List.set_cons_succ]
  refine wpAnyH_take (i := 2) (oi := { dst := some 11, op := .binOp .neq 3 (.tmp 10) (.const (.int .i64 2)) 3, type := _, pos := _, after := _, guard := none }) (v := .bool false) rfl (by kernel_rfl) (by kernel_rfl) (by kernel_rfl) (fun _ _ _ h => h) (Or.inl ⟨by rfl, fun wq hSw => by (try dsimp only at hSw); go_simp⟩) (by assumption) ?_
  try simp only [Act.put, List.setIfInBounds_toArray, List.set_cons_zero, List.set_cons_succ]
  refine wpAnyH_take (i := 3) (oi := { dst := some 12, op := .move (.tmp 11), type := _, pos := _, after := _, guard := none }) (v := .bool false) rfl (by kernel_rfl) (by kernel_rfl) (by kernel_rfl) (fun _ _ _ h => h) (Or.inl ⟨by rfl, fun wq hSw => by (try dsimp only at hSw); go_simp⟩) (by assumption) ?_
  try simp only [Act.put, List.setIfInBounds_toArray, List.set_cons_zero, List.set_cons_succ]
  refine wpAnyH_take (i := 4) (oi := { dst := some 13, op := .fieldAddr 41 (.tmp 3) 9, type := _, pos := _, after := _, guard := some (3, false) }) (v := .pointer (some ⟨mb, 9, none⟩)) rfl (by kernel_rfl) (by kernel_rfl) (by kernel_rfl) (fun _ _ _ h => h) (Or.inl ⟨by rfl, fun wq hSw => by (try dsimp only at hSw); go_simp⟩) (by assumption) ?_
  try simp only [Act.put, List.setIfInBounds_toArray, List.set_cons_zero, List.set_cons_succ]
  refine wpAnyH_take (i := 5) (oi := { dst := some 14, op := .load 25 (.tmp 13), type := _, pos := _, after := _, guard := some (3, false) }) (v := .agg #[.int .u8 m.mac.b0, .int .u8 m.mac.b1, .int .u8 m.mac.b2, .int .u8 m.mac.b3, .int .u8 m.mac.b4, .int .u8 m.mac.b5]) rfl (by kernel_rfl) (by kernel_rfl) (by kernel_rfl) (fun _ _ _ h => h) (yieldsIf_load_mid (by rfl) 25 (.tmp 13) rfl mb 9 rfl [.int .u8 m.mac.b0, .int .u8 m.mac.b1, .int .u8 m.mac.b2, .int .u8 m.mac.b3, .int .u8 m.mac.b4, .int .u8 m.mac.b5] _ (fun w hS => hS.2.2.1) Try.underlying25 rfl (by kernel_rfl)) (by assumption) ?_
  try simp only [Act.put, List.setIfInBounds_toArray, List.set_cons_zero, List.set_cons_succ]
  refine wpAnyH_take (i := 6) (oi := { dst := some 15, op := .load 26 (.tmp 1), type := _, pos := _, after := _, guard := some (3, false) }) (v := .pointer (some ⟨p, 0, none⟩)) rfl (by kernel_rfl) (by kernel_rfl) (by kernel_rfl) (fun _ _ _ h => h) (Or.inl ⟨by rfl, fun wq hSw => by (try dsimp only at hSw); go_simp⟩) (by assumption) ?_
  try simp only [Act.put, List.setIfInBounds_toArray, List.set_cons_zero, List.set_cons_succ]
  refine wpAnyH_take (i := 7) (oi := { dst := some 16, op := .nilCheck (.tmp 15), type := _, pos := _, after := _, guard := some (3, false) }) (v := .pointer (some ⟨p, 0, none⟩)) rfl (by kernel_rfl) (by kernel_rfl) (by kernel_rfl) (fun _ _ _ h => h) (Or.inl ⟨by rfl, fun wq hSw => by (try dsimp only at hSw); go_simp⟩) (by assumption) ?_
  try simp only [Act.put, List.setIfInBounds_toArray, List.set_cons_zero, List.set_cons_succ]
  refine wpAnyH_take (i := 8) (oi := { dst := some 17, op := .fieldAddr 53 (.tmp 16) 0, type := _, pos := _, after := _, guard := some (3, false) }) (v := .pointer (some ⟨p, 0, none⟩)) rfl (by kernel_rfl) (by kernel_rfl) (by kernel_rfl) (fun _ _ _ h => h) (Or.inl ⟨by rfl, fun wq hSw => by (try dsimp only at hSw); go_simp⟩) (by assumption) ?_
  try simp only [Act.put, List.setIfInBounds_toArray, List.set_cons_zero, List.set_cons_succ]
  refine wpAnyH_take (i := 9) (oi := { dst := some 18, op := .load 25 (.tmp 17), type := _, pos := _, after := _, guard := some (3, false) }) (v := .agg #[.int .u8 s1.c.own.b0, .int .u8 s1.c.own.b1, .int .u8 s1.c.own.b2, .int .u8 s1.c.own.b3, .int .u8 s1.c.own.b4, .int .u8 s1.c.own.b5]) rfl (by kernel_rfl) (by kernel_rfl) (by kernel_rfl) (fun _ _ _ h => h) (yieldsIf_load_mid (by rfl) 25 (.tmp 17) rfl p 0 rfl [.int .u8 s1.c.own.b0, .int .u8 s1.c.own.b1, .int .u8 s1.c.own.b2, .int .u8 s1.c.own.b3, .int .u8 s1.c.own.b4, .int .u8 s1.c.own.b5] _ (fun w hS => hS.2.2.2.1) Try.underlying25 rfl (by kernel_rfl)) (by assumption) ?_
  try simp only [Act.put, List.setIfInBounds_toArray, List.set_cons_zero, List.set_cons_succ]
  refine wpAnyH_take (i := 10) (oi := { dst := some 19, op := .binOp .neq 25 (.tmp 14) (.tmp 18) 25, type := _, pos := _, after := _, guard := some (3, false) }) (v := .bool false) rfl (by kernel_rfl) (by kernel_rfl) (by kernel_rfl) (fun _ _ _ h => h) (Or.inl ⟨by rfl, fun wq hSw => by (try dsimp only at hSw); go_simp⟩) (by assumption) ?_
  try simp only [Act.put, List.setIfInBounds_toArray, List.set_cons_zero, List.set_cons_succ]
  refine wpAnyH_take (i := 11) (oi := { dst := some 20, op := .pick (.tmp 12) (.const (.bool true)) (.tmp 19), type := _, pos := _, after := _, guard := none }) (v := .bool false) rfl (by kernel_rfl) (by kernel_rfl) (by kernel_rfl) (fun _ _ _ h => h) (Or.inl ⟨by rfl, fun wq hSw => by (try dsimp only at hSw); go_simp⟩) (by assumption) ?_
  try simp only [Act.put, List.setIfInBounds_toArray, List.set_cons_zero, List.set_cons_succ]
  refine wpAnyH_take (i := 12) (oi := { dst := some 21, op := .move (.tmp 20), type := _, pos := _, after := _, guard := none }) (v := .bool false) rfl (by kernel_rfl) (by kernel_rfl) (by kernel_rfl) (fun _ _ _ h => h) (Or.inl ⟨by rfl, fun wq hSw => by (try dsimp only at hSw); go_simp⟩) (by assumption) ?_
  try simp only [Act.put, List.setIfInBounds_toArray, List.set_cons_zero, List.set_cons_succ]
  refine wpAnyH_take (i := 13) (oi := { dst := some 22, op := .fieldAddr 41 (.tmp 3) 2, type := _, pos := _, after := _, guard := some (12, false) }) (v := .pointer (some ⟨mb, 2, none⟩)) rfl (by kernel_rfl) (by kernel_rfl) (by kernel_rfl) (fun _ _ _ h => h) (Or.inl ⟨by rfl, fun wq hSw => by (try dsimp only at hSw); go_simp⟩) (by assumption) ?_
  try simp only [Act.put, List.setIfInBounds_toArray, List.set_cons_zero, List.set_cons_succ]
  refine wpAnyH_take (i := 14) (oi := { dst := some 23, op := .load 30 (.tmp 22), type := _, pos := _, after := _, guard := some (12, false) }) (v := .int .u32 m.xid) rfl (by kernel_rfl) (by kernel_rfl) (by kernel_rfl) (fun _ _ _ h => h) (Or.inl ⟨by rfl, fun wq hSw => by (try dsimp only at hSw); go_simp⟩) (by assumption) ?_
  try simp only [Act.put, List.setIfInBounds_toArray, List.set_cons_zero, List.set_cons_succ]
  refine wpAnyH_take (i := 15) (oi := { dst := some 24, op := .load 26 (.tmp 1), type := _, pos := _, after := _, guard := some (12, false) }) (v := .pointer (some ⟨p, 0, none⟩)) rfl (by kernel_rfl) (by kernel_rfl) (by kernel_rfl) (fun _ _ _ h => h) (Or.inl ⟨by rfl, fun wq hSw => by (try dsimp only at hSw); go_simp⟩) (by assumption) ?_
  try simp only [Act.put, List.setIfInBounds_toArray, List.set_cons_zero, List.set_cons_succ]
  refine wpAnyH_take (i := 16) (oi := { dst := some 25, op := .nilCheck (.tmp 24), type := _, pos := _, after := _, guard := some (12, false) }) (v := .pointer (some ⟨p, 0, none⟩)) rfl (by kernel_rfl) (by kernel_rfl) (by kernel_rfl) (fun _ _ _ h => h) (Or.inl ⟨by rfl, fun wq hSw => by (try dsimp only at hSw); go_simp⟩) (by assumption) ?_
  try simp only [Act.put, List.setIfInBounds_toArray, List.set_cons_zero, List.set_cons_succ]
  refine wpAnyH_take (i := 17) (oi := { dst := some 26, op := .fieldAddr 53 (.tmp 25) 3, type := _, pos := _, after := _, guard := some (12, false) }) (v := .pointer (some ⟨p, 8, none⟩)) rfl (by kernel_rfl) (by kernel_rfl) (by kernel_rfl) (fun _ _ _ h => h) (Or.inl ⟨by rfl, fun wq hSw => by (try dsimp only at hSw); go_simp⟩) (by assumption) ?_
  try simp only [Act.put, List.setIfInBounds_toArray, List.set_cons_zero, List.set_cons_succ]
  refine wpAnyH_take (i := 18) (oi := { dst := some 27, op := .load 30 (.tmp 26), type := _, pos := _, after := _, guard := some (12, false) }) (v := .int .u32 s1.c.xid) rfl (by kernel_rfl) (by kernel_rfl) (by kernel_rfl) (fun _ _ _ h => h) (Or.inl ⟨by rfl, fun wq hSw => by (try dsimp only at hSw); go_simp⟩) (by assumption) ?_
  try simp only [Act.put, List.setIfInBounds_toArray, List.set_cons_zero, List.set_cons_succ]
  refine wpAnyH_take (i := 19) (oi := { dst := some 28, op := .binOp .neq 30 (.tmp 23) (.tmp 27) 30, type := _, pos := _, after := _, guard := some (12, false) }) (v := .bool false) rfl (by kernel_rfl) (by kernel_rfl) (by kernel_rfl) (fun _ _ _ h => h) (Or.inl ⟨by rfl, fun wq hSw => by (try dsimp only at hSw); go_simp⟩) (by assumption) ?_
  try simp only [Act.put, List.setIfInBounds_toArray, List.set_cons_zero, List.set_cons_succ]
  refine wpAnyH_take (i := 20) (oi := { dst := some 29, op := .pick (.tmp 21) (.const (.bool true)) (.tmp 28), type := _, pos := _, after := _, guard := none }) (v := .bool false) rfl (by kernel_rfl) (by kernel_rfl) (by kernel_rfl) (fun _ _ _ h => h) (Or.inl ⟨by rfl, fun wq hSw => by (try dsimp only at hSw); go_simp⟩) (by assumption) ?_
  try simp only [Act.put, List.setIfInBounds_toArray, List.set_cons_zero, List.set_cons_succ]
  refine wpAnyH_done (by kernel_rfl) ?_ _
  refine NoPanic.normal ?_
  have H2d := hid H2.out.drew
  obtain ⟨cc3, cn3, ct3⟩ := HCC.out _ _ H2d.out
  have hM3 := hid (HMB.out _ _ H2d.out)
  clear xx hHeld hM2 cc2 cn2 ct2
  go_wp2_with (first
    | (refine wpList_load_row rfl 41 _ rfl mb rfl 41 #[.int .i64 m.op, .int .i64 m.hops, .int .u32 m.xid, .int .i64 m.secs, .bool m.all, .int .u32 m.ci, .int .u32 m.yi, .int .u32 m.si, .int .u32 m.gi, .int .u8 m.mac.b0, .int .u8 m.mac.b1, .int .u8 m.mac.b2, .int .u8 m.mac.b3, .int .u8 m.mac.b4, .int .u8 m.mac.b5, .string m.sname, .string m.file, .slice a n c] (0, 0) _ (by first | exact hM4.out | exact hM3.out) Try.underlying41 rfl sizeBp ?_)
    | (go_at_call 22; refine (HTY.out _ H2d.out).mono ?_; rintro e w4 ⟨rfl, H4⟩; obtain ⟨cc4, cn4, ct4⟩ := HCC.out _ _ H4.out; have hM4 := hid (HMB.out _ _ H4.out); clear cc3 cn3 ct3)
    | fail)
  go_end0
  exact ⟨rfl, HL.out.trans H4.out⟩
end
end Go.Proofs.Ytgcpoanjjgbfjaa
