import Derived.Test.YtgcpoanjjgbfjaaLzJc
import Derived.Test.YtgcpoanjjgbfjaaPDUse
/-
  Lease: discover, request, decline.
-/
namespace Go.Proofs.Ytgcpoanjjgbfjaa
open Go.RowKit
set_option linter.all false

theorem TurnB.stay {tb pd gA : Nat} {w w' : World} (h : TurnB tb pd gA w) (hs : Stay w w') : TurnB tb pd gA w' := hs.blk h (by decide) (by decide) (by decide) (by decide)
theorem TurnB.at {tb pd gA : Nat} {w : World} (h : TurnB tb pd gA w) (q : Nat) : w.cell? ⟨tb, q, none⟩ = (#[.pointer (some ⟨pd, 0, none⟩), .func (.func 27) #[] #[.pointer (some ⟨gA, 0, none⟩)]] : Array Value)[q]? := cell_of_heap h q
theorem LC.refl {W0 : World} {p pd gA : Nat} {ab : Option Nat} {s : LS} {w : World} (h : LW W0 p pd gA ab s w) : LC W0 p pd gA ab s w w := ⟨h, Stay.refl _⟩
theorem LC.below {W0 : World} {p pd gA : Nat} {ab : Option Nat} {s : LS} {w w1 w2 : World} (h : LC W0 p pd gA ab s w w1) (hb : Below w1.heap.size w1 w2) : LC W0 p pd gA ab s w w2 := ⟨h.1.below hb, h.2.trans (Stay.of_below hb)⟩
theorem LC.drew {W0 : World} {p pd gA : Nat} {ab : Option Nat} {s : LS} {w w1 : World} (h : LC W0 p pd gA ab s w w1) : LC W0 p pd gA ab s w w1.drew := h.below (Below.refl _ _).drew
theorem LC.trans {W0 : World} {p pd gA : Nat} {ab : Option Nat} {s s' : LS} {w w1 w2 : World} (h : LC W0 p pd gA ab s w w1) (k : LC W0 p pd gA ab s' w1 w2) : LC W0 p pd gA ab s' w w2 := ⟨k.1, h.2.trans k.2⟩
theorem LC.box {W0 : World} {p pd gA : Nat} {ab : Option Nat} {s : LS} {w w1 : World} (h : LC W0 p pd gA ab s w w1) : BoxC w1 p s.c := h.1.box
/-- the box of what is lent is laid. -/
theorem turn_laid {W0 : World} {p pd gA : Nat} {ab : Option Nat} {s : LS} {w wt : World} {tb : Nat} (h : LW W0 p pd gA ab s w) (hwt : wt = w.alloc (.cells #[.pointer (some ⟨pd, 0, none⟩), .func (.func 27) #[] #[.pointer (some ⟨gA, 0, none⟩)]] 60)) (htb : tb = w.heap.size) : LC W0 p pd gA ab s w wt ∧ TurnB tb pd gA wt := by
  have hb : Below w.heap.size w wt := by rw [hwt]; exact bpush (Below.refl _ _) _
  exact ⟨(LC.refl h).below hb, by rw [hwt, htb]; exact heap_new _ _⟩
theorem secsC_bd {c : Cl} (h : c.ok) : -9223372036854775808 ≤ secsC c ∧ secsC c ≤ 9223372036854775807 := by
  have h1 := h.now
  have h2 := h.beg
  unfold secsC
  omega
section
variable {W0 : World} {p pd gA : Nat} {ab : Option Nat} {s : LS}
/-- a message without more options, told. -/
theorem send_none (kind frm dst secs : Int) (w W : World) (h : LC W0 p pd gA ab s w W) (hn : s.acts.length < 4096)
    (hk : -9223372036854775808 ≤ kind ∧ kind ≤ 9223372036854775807) (hs : -9223372036854775808 ≤ secs ∧ secs ≤ 9223372036854775807) :
    Calls Try.prog 57 #[.pointer (some ⟨p, 0, none⟩), turnV pd gA, .int .i64 kind, .int .u32 frm, .int .u32 dst, .int .i64 secs, .slice none 0 0] W fun e w' => e = .returned (.tuple #[]) ∧ Hid (LC W0 p pd gA ab (sendS kind frm dst secs [] s) w w') :=
  (send_any kind frm dst secs none 0 [] W h.1 hn hk hs (OV.nil _ _) (by simp)).mono fun e w' ⟨k1, k2⟩ => ⟨k1, h.trans k2.out⟩
theorem send_names (kind frm dst secs : Int) (g : Nat) (w W1 W : World) (hN : NamI W1 W g s.c.l) (h : LC W0 p pd gA ab s w W) (hn : s.acts.length < 4096)
    (hk : -9223372036854775808 ≤ kind ∧ kind ≤ 9223372036854775807) (hs : -9223372036854775808 ≤ secs ∧ secs ≤ 9223372036854775807) :
    Calls Try.prog 57 #[.pointer (some ⟨p, 0, none⟩), turnV pd gA, .int .i64 kind, .int .u32 frm, .int .u32 dst, .int .i64 secs, .slice (some ⟨g, 0, none⟩) 2 2] W fun e w' => e = .returned (.tuple #[]) ∧ Hid (LC W0 p pd gA ab (sendS kind frm dst secs (namesL s.c.l) s) w w') := by
  obtain ⟨os, h1, h2, h3, h4⟩ := hN
  rw [← h2, ← h3]
  have := send_any kind frm dst secs (some ⟨g, 0, none⟩) os.length os W h.1 hn hk hs h1 (by omega)
  exact this.mono fun e w' ⟨k1, k2⟩ => ⟨k1, h.trans k2.out⟩
theorem NamI.below {w w1 w2 : World} {g : Nat} {l : Ls} (h : NamI w w1 g l) (hb : Below w1.heap.size w1 w2) : NamI w w2 g l := by
  obtain ⟨os, h1, h2, h3, h4⟩ := h
  exact ⟨os, h1.below hb, h2, h3, bstep h4 hb⟩
set_option maxRecDepth 20000 in
set_option maxHeartbeats 1000000 in
theorem discover_any (w : World) (h : LW W0 p pd gA ab s w) (hn : s.acts.length < 4096) :
    Calls Try.prog 41 #[.pointer (some ⟨p, 0, none⟩), turnV pd gA] w fun e w' => e = .returned (.tuple #[]) ∧ Hid (LC W0 p pd gA ab (discoverS s) w w') := by
  obtain ⟨wt, hwt⟩ : ∃ W, W = w.alloc (.cells #[.pointer (some ⟨pd, 0, none⟩), .func (.func 27) #[] #[.pointer (some ⟨gA, 0, none⟩)]] 60) := ⟨_, rfl⟩
  obtain ⟨tb, htb⟩ : ∃ g, g = w.heap.size := ⟨_, rfl⟩
  obtain ⟨hl, ht⟩ := turn_laid h hwt htb
  have HL := hid hl
  have HT := hid ht
  have HX : Hid (∀ W, Stay wt W → ∀ q, W.cell? ⟨tb, q, none⟩ = (#[.pointer (some ⟨pd, 0, none⟩), .func (.func 27) #[] #[.pointer (some ⟨gA, 0, none⟩)]] : Array Value)[q]?) := fun W hW q => (ht.stay hW).at q
  have HSE : Hid (∀ W, LC W0 p pd gA ab s wt W → Calls Try.prog 58 #[.pointer (some ⟨p, 0, none⟩)] W fun e w' => e = .returned (.int .i64 (secsC s.c)) ∧ Hid (LC W0 p pd gA ab s wt w') ∧ (∀ q, w'.cell? ⟨tb, q, none⟩ = (#[.pointer (some ⟨pd, 0, none⟩), .func (.func 27) #[] #[.pointer (some ⟨gA, 0, none⟩)]] : Array Value)[q]?)) := fun W hW => (secs_any W hW.box h.ok.c).mono fun e w' ⟨k1, k2⟩ => ⟨k1, hW.below k2.out, HX.out _ (hW.below k2.out).2⟩
  have HSD : Hid (∀ W, LC W0 p pd gA ab s wt W → Calls Try.prog 57 #[.pointer (some ⟨p, 0, none⟩), turnV pd gA, .int .i64 1, .int .u32 0, .int .u32 4294967295, .int .i64 (secsC s.c), .slice none 0 0] W fun e w' => e = .returned (.tuple #[]) ∧ Hid (LC W0 p pd gA ab (discoverS s) wt w') ∧ (∀ q, w'.cell? ⟨tb, q, none⟩ = (#[.pointer (some ⟨pd, 0, none⟩), .func (.func 27) #[] #[.pointer (some ⟨gA, 0, none⟩)]] : Array Value)[q]?)) := fun W hW => (send_none 1 0 4294967295 (secsC s.c) wt W hW hn (by decide) (secsC_bd h.ok.c)).mono fun e w' ⟨k1, k2⟩ => ⟨k1, k2, HX.out _ k2.out.2⟩
  have H0 := hid (LC.refl hl.1)
  have xx := HX.out wt (Stay.refl _)
  clear h hn ht hl
  generalize secsC s.c = se at *
  generalize discoverS s = s' at *
  unfold turnV at *
  go_enter Try.func41, Try.ntmps41
  go_upto_region 1 with (fail)
  rw [← hwt, ← htb]
  clear hwt htb
  go_region_held_law (fun s' => ∀ q, s'.cell? ⟨tb, q, none⟩ = (#[.pointer (some ⟨pd, 0, none⟩), .func (.func 27) #[] #[.pointer (some ⟨gA, 0, none⟩)]] : Array Value)[q]?) (first
    | assumption
    | exact xx
    | exact hy
    | exact hz) (first
    | (go_at_call 58; refine (HSE.out _ H0.out.drew).mono ?_; rintro e w2 ⟨rfl, H2, hy⟩)
    | (go_at_call 57; refine (HSD.out _ H2.out).mono ?_; rintro e w3 ⟨rfl, H3, hz⟩)
    | fail)
  all_goals go_end0
  all_goals exact ⟨rfl, HL.out.trans H3.out⟩
end
end Go.Proofs.Ytgcpoanjjgbfjaa

/-
  Lease: decline and request. Written by mklzask.py.
-/
namespace Go.Proofs.Ytgcpoanjjgbfjaa
open Go.RowKit
set_option linter.all false

section
variable {W0 : World} {p pd gA : Nat} {ab : Option Nat} {s : LS}
set_option maxRecDepth 20000 in
set_option maxHeartbeats 2000000 in
theorem request_any (w : World) (h : LW W0 p pd gA ab s w) (hn : s.acts.length < 4096) :
    Calls Try.prog 42 #[.pointer (some ⟨p, 0, none⟩), turnV pd gA] w fun e w' => e = .returned (.tuple #[]) ∧ Hid (LC W0 p pd gA ab (requestS s) w w') := by
  obtain ⟨wt, hwt⟩ : ∃ W, W = w.alloc (.cells (#[.pointer (some ⟨pd, 0, none⟩), .func (.func 27) #[] #[.pointer (some ⟨gA, 0, none⟩)]] : Array Value) 60) := ⟨_, rfl⟩
  obtain ⟨tb, htb⟩ : ∃ g, g = w.heap.size := ⟨_, rfl⟩
  obtain ⟨hl, ht⟩ := turn_laid h hwt htb
  have HL := hid hl
  have HT := hid ht
  have hip : ∃ ip, ip = s.c.l.ip := ⟨_, rfl⟩
  have hsv : ∃ sv, sv = s.c.l.sv := ⟨_, rfl⟩
  obtain ⟨ip, hip⟩ := hip
  obtain ⟨sv, hsv⟩ := hsv
  have HX : Hid (∀ W s', LC W0 p pd gA ab s' wt W → s'.c = s.c → (∀ q, W.cell? ⟨tb, q, none⟩ = (#[.pointer (some ⟨pd, 0, none⟩), .func (.func 27) #[] #[.pointer (some ⟨gA, 0, none⟩)]] : Array Value)[q]?) ∧ W.cell? ⟨p, 11, none⟩ = some (.int .u32 ip) ∧ W.cell? ⟨p, 14, none⟩ = some (.int .u32 sv)) := fun W s' hW hc => ⟨fun q => (ht.stay hW.2).at q, by rw [hip, ← hc]; exact (hW.box.at 11).trans rfl, by rw [hsv, ← hc]; exact (hW.box.at 14).trans rfl⟩
  have HSE : Hid (∀ W, LC W0 p pd gA ab s wt W → Calls Try.prog 58 #[.pointer (some ⟨p, 0, none⟩)] W fun e w' => e = .returned (.int .i64 (secsC s.c)) ∧ Hid (LC W0 p pd gA ab s wt w') ∧ Hid (Below W.heap.size W w') ∧ (∀ q, w'.cell? ⟨tb, q, none⟩ = (#[.pointer (some ⟨pd, 0, none⟩), .func (.func 27) #[] #[.pointer (some ⟨gA, 0, none⟩)]] : Array Value)[q]?) ∧ w'.cell? ⟨p, 11, none⟩ = some (.int .u32 ip) ∧ w'.cell? ⟨p, 14, none⟩ = some (.int .u32 sv)) := fun W hW => (secs_any W hW.box h.ok.c).mono fun e w' ⟨k1, k2⟩ => ⟨k1, hW.below k2.out, k2, HX.out _ _ (hW.below k2.out) rfl⟩
  have HNA : Hid (∀ W, LC W0 p pd gA ab s wt W → Calls Try.prog 59 #[.pointer (some ⟨p, 0, none⟩)] W fun e w' => ∃ g, e = .returned (.slice (some ⟨g, 0, none⟩) 2 2) ∧ Hid (LC W0 p pd gA ab s wt w') ∧ Hid (NamI W w' g s.c.l) ∧ (∀ q, w'.cell? ⟨tb, q, none⟩ = (#[.pointer (some ⟨pd, 0, none⟩), .func (.func 27) #[] #[.pointer (some ⟨gA, 0, none⟩)]] : Array Value)[q]?) ∧ w'.cell? ⟨p, 11, none⟩ = some (.int .u32 ip) ∧ w'.cell? ⟨p, 14, none⟩ = some (.int .u32 sv)) := fun W hW => (names_any W hW.box h.ok.c).mono fun e w' ⟨g, k1, k2⟩ => by
    have hb : Below W.heap.size W w' := by obtain ⟨os, _, _, _, h4⟩ := k2.out; exact h4
    exact ⟨g, k1, hW.below hb, k2, HX.out _ _ (hW.below hb) rfl⟩
  have HSN : Hid (∀ W W1 g, LC W0 p pd gA ab s wt W → NamI W1 W g s.c.l → Calls Try.prog 57 #[.pointer (some ⟨p, 0, none⟩), turnV pd gA, .int .i64 3, .int .u32 0, .int .u32 4294967295, .int .i64 (secsC s.c), .slice (some ⟨g, 0, none⟩) 2 2] W fun e w' => e = .returned (.tuple #[]) ∧ Hid (LC W0 p pd gA ab (sendS 3 0 4294967295 (secsC s.c) (namesL s.c.l) s) wt w') ∧ (∀ q, w'.cell? ⟨tb, q, none⟩ = (#[.pointer (some ⟨pd, 0, none⟩), .func (.func 27) #[] #[.pointer (some ⟨gA, 0, none⟩)]] : Array Value)[q]?) ∧ w'.cell? ⟨p, 11, none⟩ = some (.int .u32 ip) ∧ w'.cell? ⟨p, 14, none⟩ = some (.int .u32 sv)) := fun W W1 g hW hN => (send_names 3 0 4294967295 (secsC s.c) g wt W1 W hN hW hn (by decide) (secsC_bd h.ok.c)).mono fun e w' ⟨k1, k2⟩ => ⟨k1, k2, HX.out _ _ k2.out rfl⟩
  have HSZ : Hid (∀ W dst, LC W0 p pd gA ab s wt W → Calls Try.prog 57 #[.pointer (some ⟨p, 0, none⟩), turnV pd gA, .int .i64 3, .int .u32 ip, .int .u32 dst, .int .i64 (secsC s.c), .slice none 0 0] W fun e w' => e = .returned (.tuple #[]) ∧ Hid (LC W0 p pd gA ab (sendS 3 ip dst (secsC s.c) [] s) wt w') ∧ (∀ q, w'.cell? ⟨tb, q, none⟩ = (#[.pointer (some ⟨pd, 0, none⟩), .func (.func 27) #[] #[.pointer (some ⟨gA, 0, none⟩)]] : Array Value)[q]?) ∧ w'.cell? ⟨p, 11, none⟩ = some (.int .u32 ip) ∧ w'.cell? ⟨p, 14, none⟩ = some (.int .u32 sv)) := fun W dst hW => (send_none 3 ip dst (secsC s.c) wt W hW hn (by decide) (secsC_bd h.ok.c)).mono fun e w' ⟨k1, k2⟩ => ⟨k1, k2, HX.out _ _ k2.out rfl⟩
  have H0 := hid (LC.refl hl.1)
  have xx := HX.out wt s (LC.refl hl.1) rfl
  have c7 : wt.cell? ⟨p, 7, none⟩ = some (.int .i64 s.c.st) := (hl.box.at 7).trans rfl
  have HR2 : Hid (s.c.st = 2 → requestS s = sendS 3 0 4294967295 (secsC s.c) (namesL s.c.l) s) := fun e => by unfold requestS; rw [if_pos e]
  have HR5 : Hid (s.c.st = 5 → requestS s = sendS 3 ip sv (secsC s.c) [] s) := fun e => by unfold requestS; rw [if_neg (by omega), if_pos e, hip, hsv]
  have HR6 : Hid (s.c.st = 6 → requestS s = sendS 3 ip 4294967295 (secsC s.c) [] s) := fun e => by unfold requestS; rw [if_neg (by omega), if_neg (by omega), if_pos e, hip]
  have HR0 : Hid (s.c.st ≠ 2 → s.c.st ≠ 5 → s.c.st ≠ 6 → requestS s = s) := fun e1 e2 e3 => by unfold requestS; rw [if_neg e1, if_neg e2, if_neg e3]
  clear h hn ht hl hip hsv HX
  generalize requestS s = R at *
  generalize secsC s.c = se at *
  generalize s.c.st = st at *
  unfold turnV at *
  by_cases h2 : st = 2
  · rw [HR2.out h2]
    subst h2
    go_enter Try.func42, Try.ntmps42
    go_upto_region 1 with (fail)
    rw [← hwt, ← htb]
    clear hwt htb
    go_upto_region 3 with (fail)
    go_region_held_law (fun s' => (∀ q, s'.cell? ⟨tb, q, none⟩ = (#[.pointer (some ⟨pd, 0, none⟩), .func (.func 27) #[] #[.pointer (some ⟨gA, 0, none⟩)]] : Array Value)[q]?) ∧ s'.cell? ⟨p, 11, none⟩ = some (.int .u32 ip) ∧ s'.cell? ⟨p, 14, none⟩ = some (.int .u32 sv)) (first
      | assumption
      | exact xx
      | exact hy
      | exact hu
      | exact hz) (first
      | (have hgate := HM; clear hgate; go_at_call 57; refine (HSN.out _ _ _ H3.out HN3.out).mono ?_; rintro e w4 ⟨rfl, H4, hz⟩)
      | (go_at_call 58; first | (refine (HSE.out _ H0.out.drew).mono ?_; rintro e w2 ⟨rfl, H2, HB2, hy⟩) | fail)
      | (go_at_call 59; refine (HNA.out _ H2.out).mono ?_; rintro e w3 ⟨g, rfl, H3, HN3, hu⟩; have HM := H3)
      | fail)
    all_goals go_end0
    all_goals exact ⟨rfl, HL.out.trans H4.out⟩
  by_cases h5 : st = 5
  · rw [HR5.out h5]
    subst h5
    go_enter Try.func42, Try.ntmps42
    go_upto_region 1 with (fail)
    rw [← hwt, ← htb]
    clear hwt htb
    go_upto_region 5 with (fail)
    go_region_held_law (fun s' => (∀ q, s'.cell? ⟨tb, q, none⟩ = (#[.pointer (some ⟨pd, 0, none⟩), .func (.func 27) #[] #[.pointer (some ⟨gA, 0, none⟩)]] : Array Value)[q]?) ∧ s'.cell? ⟨p, 11, none⟩ = some (.int .u32 ip) ∧ s'.cell? ⟨p, 14, none⟩ = some (.int .u32 sv)) (first
      | assumption
      | exact xx
      | exact hy
      | exact hu
      | exact hz) (first
      | (go_at_call 58; refine (HSE.out _ H0.out.drew).mono ?_; rintro e w2 ⟨rfl, H2, HB2, hy⟩)
      | (go_at_call 57; refine (HSZ.out _ _ H2.out).mono ?_; rintro e w3 ⟨rfl, H3, hz⟩)
      | fail)
    all_goals go_end0
    all_goals exact ⟨rfl, HL.out.trans H3.out⟩
  by_cases h6 : st = 6
  · rw [HR6.out h6]
    subst h6
    go_enter Try.func42, Try.ntmps42
    go_upto_region 1 with (fail)
    rw [← hwt, ← htb]
    clear hwt htb
    go_upto_region 7 with (fail)
    go_region_held_law (fun s' => (∀ q, s'.cell? ⟨tb, q, none⟩ = (#[.pointer (some ⟨pd, 0, none⟩), .func (.func 27) #[] #[.pointer (some ⟨gA, 0, none⟩)]] : Array Value)[q]?) ∧ s'.cell? ⟨p, 11, none⟩ = some (.int .u32 ip) ∧ s'.cell? ⟨p, 14, none⟩ = some (.int .u32 sv)) (first
      | assumption
      | exact xx
      | exact hy
      | exact hu
      | exact hz) (first
      | (go_at_call 58; refine (HSE.out _ H0.out.drew).mono ?_; rintro e w2 ⟨rfl, H2, HB2, hy⟩)
      | (go_at_call 57; refine (HSZ.out _ _ H2.out).mono ?_; rintro e w3 ⟨rfl, H3, hz⟩)
      | fail)
    all_goals go_end0
    all_goals exact ⟨rfl, HL.out.trans H3.out⟩
  rw [HR0.out h2 h5 h6]
  have h2' : (st == 2) = false := by simpa using h2
  have h5' : (st == 5) = false := by simpa using h5
  have h6' : (st == 6) = false := by simpa using h6
  clear h2 h5 h6
  go_enter Try.func42, Try.ntmps42
  go_upto_region 1 with (fail)
  rw [← hwt, ← htb]
  clear hwt htb
  go_wp2
  go_end0
  exact ⟨rfl, HL.out⟩
end
end Go.Proofs.Ytgcpoanjjgbfjaa

/-
  Span, Port and Backoff of the program.
-/
namespace Go.Proofs.Ytgcpoanjjgbfjaa
open Go.RowKit
set_option linter.all false

/-- a dice was used: it has zs now, the list lies where it lay. -/
def UseI (t : TypeId) (w : World) (p : Nat) (a : Option Addr) (zs : List Int) (w' : World) : Prop := ∃ a' c', DiceW t w' p a' c' zs ∧ blk a' = blk a ∧ But p w w'
theorem NextI.use {t : TypeId} {w : World} {p : Nat} {a : Option Addr} {zs : List Int} {w' : World} {a' : Option Addr} {c' : Nat} (h : NextI t w p a zs w' a' c') (m : Nat) : UseI t w p a zs.tail (w'.drewN m) :=
  ⟨a', c', h.dice.below (Below.trans (Below.refl _ _) ⟨rfl, rfl, rfl, Nat.le_refl _, fun _ _ => rfl⟩), h.blk, h.only.trans (But.drewN _ _ _)⟩
theorem UseI.from {t : TypeId} {w w0 : World} {p : Nat} {a : Option Addr} {zs : List Int} {w' : World} (h : UseI t w0 p a zs w') (hb : Below w.heap.size w w0) : UseI t w p a zs w' := by
  obtain ⟨a', c', h1, h2, h3⟩ := h
  exact ⟨a', c', h1, h2, (But.of_below hb).trans h3⟩
set_option maxHeartbeats 1000000 in
theorem use_back (p : Nat) (a : Option Addr) (c : Nat) (zs : List Int) (b : Int) (l : Nat) (w : World) (x : DiceW 56 w p a c zs) (hl : zs.length ≤ maxLen)
    (h1 : w.cell? ⟨l, 0, none⟩ = some (.int .i64 b)) (hlp : l ≠ p) (hb : 1 ≤ b ∧ b ≤ 1125899906842624) :
    Calls Try.prog 62 #[.pointer (some ⟨p, 0, none⟩), .func (.func 63) #[] #[.pointer (some ⟨l, 0, none⟩)]] w fun e w' => e = .returned (.int .i64 (waitI b (hd0 zs))) ∧ Hid (UseI 56 w p a zs.tail w') := by
  have HX := hid x
  have H1 := hid h1
  have HL1 : Hid (l < w.heap.size) := World.block_lt_of_cell? w _ h1
  have HN := hid (next_any p a c zs w x hl)
  have HW := hid (hd0_words x.words)
  clear x h1 hl
  generalize hd0 zs = d at *
  go_enter Try.func62, Try.ntmps62
  go_wp2_with (first
    | (go_at_call 40; refine HN.out.mono ?_; go_loud (rintro e w1 ⟨rfl, a', c', hn⟩; have HI := hid hn; clear hn HN))
    | (go_at_call 63; refine (backC_any d b l w1 (by rw [HI.out.only.cell (p := ⟨l, 0, none⟩) hlp HL1.out]; exact H1.out) HW.out hb).mono ?_; go_loud (rintro e w2 ⟨rfl, m, rfl⟩)))
  go_ret
  exact ⟨rfl, HI.out.use m⟩

/-- a number from lo to hi, by the first of some draws; what is left of them. -/
def spanI (lo hi : Int) (zs : List Int) : Int := if hi ≤ lo then lo else lo + restI (hd0 zs) (hi - lo)
def spanL (lo hi : Int) (zs : List Int) : List Int := if hi ≤ lo then zs else zs.tail
set_option maxHeartbeats 1000000 in
theorem backoff_any (p : Nat) (a : Option Addr) (c : Nat) (zs : List Int) (base most try_ : Int) (w : World) (x : DiceW 56 w p a c zs) (hl : zs.length ≤ maxLen) (h3 : -9223372036854775808 ≤ try_ ∧ try_ ≤ 9223372036854775807) :
    Calls Try.prog 44 #[.pointer (some ⟨p, 0, none⟩), .int .i64 base, .int .i64 most, .int .i64 try_] w fun e w' => e = .returned (.int .i64 (waitI (aboutI base most try_) (hd0 zs))) ∧ Hid (UseI 56 w p a zs.tail w') := by
  have hpl := heap_lt x.box
  have HD : Hid (Calls Try.prog 60 #[.int .i64 (timeI base), .int .i64 (timeI most), .int .i64 try_] w fun e w' => e = .returned (.int .i64 (aboutI base most try_)) ∧ w' = w) := doubled_any (timeI base) (timeI most) try_ w (timeI_bd _) (timeI_bd _) h3
  have hb := aboutI_bd base most try_
  generalize aboutI base most try_ = b at *
  have B1 := balloc w (.cells #[.int .i64 b] 3)
  have HU := hid (use_back p a c zs b w.heap.size (w.alloc (.cells #[.int .i64 b] 3)) (x.below B1) hl (cellHeap (heap_new w _) 0 rfl) (by omega) hb)
  have HB := hid B1
  clear x hl hb B1 hpl h3
  go_enter Try.func44, Try.ntmps44
  go_wp2_with (first
    | (go_at_call 61; refine (asTime_any _ w).mono ?_; go_loud (rintro e w1 ⟨rfl, hw⟩; subst w1))
    | (go_at_call 60; refine HD.out.mono ?_; go_loud (rintro e w1 ⟨rfl, hw⟩; subst w1))
    | (go_at_call 62; refine HU.out.mono ?_; go_loud (rintro e w1 ⟨rfl, HI⟩)))
  go_ret
  exact ⟨rfl, HI.out.from HB.out⟩
end Go.Proofs.Ytgcpoanjjgbfjaa
