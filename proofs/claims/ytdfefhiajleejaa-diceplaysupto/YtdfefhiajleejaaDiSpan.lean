/-
  Span, Port and Backoff of the program.
-/
import Derived.Test.YtdfefhiajleejaaDiUse
namespace Go.Proofs.Ytdfefhiajleejaa
open Go.RowKit
set_option linter.all false

/-- a dice was used: it has zs now, the list lies where it lay. -/
def UseI (t : TypeId) (w : World) (p : Nat) (a : Option Addr) (zs : List Int) (w' : World) : Prop := ∃ a' c', DiceW t w' p a' c' zs ∧ blk a' = blk a ∧ But p w w'
theorem NextI.use {t : TypeId} {w : World} {p : Nat} {a : Option Addr} {zs : List Int} {w' : World} {a' : Option Addr} {c' : Nat} (h : NextI t w p a zs w' a' c') (m : Nat) : UseI t w p a zs.tail (w'.drewN m) :=
  ⟨a', c', h.dice.below (Below.trans (Below.refl _ _) ⟨rfl, rfl, rfl, Nat.le_refl _, fun _ _ => rfl⟩), h.blk, h.only.trans (But.drewN _ _ _)⟩
theorem UseI.from {t : TypeId} {w w0 : World} {p : Nat} {a : Option Addr} {zs : List Int} {w' : World} (h : UseI t w0 p a zs w') (hb : Below w.heap.size w w0) : UseI t w p a zs w' := by
  obtain ⟨a', c', h1, h2, h3⟩ := h
  exact ⟨a', c', h1, h2, (But.of_below hb).trans h3⟩
set_option maxHeartbeats 1000000 in
theorem use_span (p : Nat) (a : Option Addr) (c : Nat) (zs : List Int) (lo gap : Int) (l q : Nat) (w : World) (x : DiceW 46 w p a c zs) (hl : zs.length ≤ maxLen)
    (h1 : w.cell? ⟨l, 0, none⟩ = some (.int .i64 lo)) (h2 : w.cell? ⟨q, 0, none⟩ = some (.int .u64 gap)) (hlp : l ≠ p) (hqp : q ≠ p) (hg : 0 ≤ gap ∧ gap ≤ 18446744073709551615)
    (hs : -9223372036854775808 ≤ lo ∧ lo + restI (hd0 zs) gap ≤ 9223372036854775807) :
    Calls Try.prog 26 #[.pointer (some ⟨p, 0, none⟩), .func (.func 27) #[] #[.pointer (some ⟨l, 0, none⟩), .pointer (some ⟨q, 0, none⟩)]] w fun e w' => e = .returned (.int .i64 (lo + restI (hd0 zs) gap)) ∧ Hid (UseI 46 w p a zs.tail w') := by
  have HX := hid x
  have H1 := hid h1
  have H2 := hid h2
  have HL1 : Hid (l < w.heap.size) := World.block_lt_of_cell? w _ h1
  have HL2 : Hid (q < w.heap.size) := World.block_lt_of_cell? w _ h2
  have HN := hid (next_any p a c zs w x hl)
  have HW := hid (hd0_words x.words)
  clear x h1 h2 hl
  generalize hd0 zs = d at *
  go_enter Try.func26, Try.ntmps26
  go_wp2_with (first
    | (go_at_call 14; refine HN.out.mono ?_; go_loud (rintro e w1 ⟨rfl, a', c', hn⟩; have HI := hid hn; clear hn HN))
    | (go_at_call 27; refine (spanC_any d lo gap l q w1 (by rw [HI.out.only.cell (p := ⟨l, 0, none⟩) hlp HL1.out]; exact H1.out) (by rw [HI.out.only.cell (p := ⟨q, 0, none⟩) hqp HL2.out]; exact H2.out) HW.out hg hs).mono ?_; go_loud (rintro e w2 ⟨rfl, m, rfl⟩)))
  go_ret
  exact ⟨rfl, HI.out.use m⟩
set_option maxHeartbeats 1000000 in
theorem use_port (p : Nat) (a : Option Addr) (c : Nat) (zs : List Int) (w : World) (x : DiceW 46 w p a c zs) (hl : zs.length ≤ maxLen) :
    Calls Try.prog 26 #[.pointer (some ⟨p, 0, none⟩), .func (.func 29) #[] #[]] w fun e w' => e = .returned (.int .i64 (49152 + hd0 zs % 16384)) ∧ Hid (UseI 46 w p a zs.tail w') := by
  have HX := hid x
  have HN := hid (next_any p a c zs w x hl)
  have HW := hid (hd0_words x.words)
  clear x hl
  generalize hd0 zs = d at *
  go_enter Try.func26, Try.ntmps26
  go_wp2_with (first
    | (go_at_call 14; refine HN.out.mono ?_; go_loud (rintro e w1 ⟨rfl, a', c', hn⟩; have HI := hid hn; clear hn HN))
    | (go_at_call 29; refine (portC_any d w1 HW.out).mono ?_; go_loud (rintro e w2 ⟨rfl, hw⟩; subst w2)))
  go_ret
  exact ⟨rfl, HI.out.use 0⟩
set_option maxHeartbeats 1000000 in
theorem use_back (p : Nat) (a : Option Addr) (c : Nat) (zs : List Int) (b : Int) (l : Nat) (w : World) (x : DiceW 46 w p a c zs) (hl : zs.length ≤ maxLen)
    (h1 : w.cell? ⟨l, 0, none⟩ = some (.int .i64 b)) (hlp : l ≠ p) (hb : 1 ≤ b ∧ b ≤ 1125899906842624) :
    Calls Try.prog 26 #[.pointer (some ⟨p, 0, none⟩), .func (.func 32) #[] #[.pointer (some ⟨l, 0, none⟩)]] w fun e w' => e = .returned (.int .i64 (waitI b (hd0 zs))) ∧ Hid (UseI 46 w p a zs.tail w') := by
  have HX := hid x
  have H1 := hid h1
  have HL1 : Hid (l < w.heap.size) := World.block_lt_of_cell? w _ h1
  have HN := hid (next_any p a c zs w x hl)
  have HW := hid (hd0_words x.words)
  clear x h1 hl
  generalize hd0 zs = d at *
  go_enter Try.func26, Try.ntmps26
  go_wp2_with (first
    | (go_at_call 14; refine HN.out.mono ?_; go_loud (rintro e w1 ⟨rfl, a', c', hn⟩; have HI := hid hn; clear hn HN))
    | (go_at_call 32; refine (backC_any d b l w1 (by rw [HI.out.only.cell (p := ⟨l, 0, none⟩) hlp HL1.out]; exact H1.out) HW.out hb).mono ?_; go_loud (rintro e w2 ⟨rfl, m, rfl⟩)))
  go_ret
  exact ⟨rfl, HI.out.use m⟩

/-- a number from lo to hi, by the first of some draws; what is left of them. -/
def spanI (lo hi : Int) (zs : List Int) : Int := if hi ≤ lo then lo else lo + restI (hd0 zs) (hi - lo)
def spanL (lo hi : Int) (zs : List Int) : List Int := if hi ≤ lo then zs else zs.tail
set_option maxHeartbeats 1000000 in
theorem span_any (p : Nat) (a : Option Addr) (c : Nat) (zs : List Int) (lo hi : Int) (w : World) (x : DiceW 46 w p a c zs) (hl : zs.length ≤ maxLen) (h1 : -9223372036854775808 ≤ lo ∧ lo ≤ 9223372036854775807) (h2 : -9223372036854775808 ≤ hi ∧ hi ≤ 9223372036854775807) :
    Calls Try.prog 16 #[.pointer (some ⟨p, 0, none⟩), .int .i64 lo, .int .i64 hi] w fun e w' => e = .returned (.int .i64 (spanI lo hi zs)) ∧ Hid (UseI 46 w p a (spanL lo hi zs) w') := by
  have hpl := heap_lt x.box
  by_cases hh : hi ≤ lo
  · have HE : Hid (spanI lo hi zs = lo) := if_pos hh
    have HU : Hid (UseI 46 w p a (spanL lo hi zs) (w.alloc (.cells #[.int .i64 lo] 3))) := by
      unfold Hid spanL
      rw [if_pos hh]
      exact ⟨a, c, x.below (balloc w _), rfl, But.of_below (balloc w _)⟩
    clear x hl
    go_enter Try.func16, Try.ntmps16
    go_wp2
    go_ret
    exact ⟨ret_int HE.out.symm, HU⟩
  · have hg : 0 ≤ hi - lo ∧ hi - lo ≤ 18446744073709551615 := by omega
    have hr := restI_bd (hd0_words x.words) hg.1
    have HE : Hid (spanI lo hi zs = lo + restI (hd0 zs) (hi - lo)) := if_neg hh
    have HL : Hid (spanL lo hi zs = zs.tail) := if_neg hh
    have B1 : Below w.heap.size w ((w.alloc (.cells #[.int .i64 lo] 3)).alloc (.cells #[.int .u64 (hi - lo)] 50)) := bpush (balloc w _) _
    have HU := hid (use_span p a c zs lo (hi - lo) w.heap.size (w.heap.size + 1) ((w.alloc (.cells #[.int .i64 lo] 3)).alloc (.cells #[.int .u64 (hi - lo)] 50)) (x.below B1) hl
      (cellHeap ((heap_old _ _ (by simp)).trans (heap_new w _)) 0 rfl) (cellHeap (by have := heap_new (w.alloc (.cells #[.int .i64 lo] 3)) (.cells #[.int .u64 (hi - lo)] 50); rwa [World.size_alloc] at this) 0 rfl) (by omega) (by omega) hg ⟨h1.1, by omega⟩)
    have HB := hid B1
    obtain ⟨X, hX⟩ : ∃ X, IntKind.u64.wrap hi = X := ⟨_, rfl⟩
    obtain ⟨Y, hY⟩ : ∃ Y, IntKind.u64.wrap lo = Y := ⟨_, rfl⟩
    obtain ⟨G, hG⟩ : ∃ G, G = hi - lo := ⟨_, rfl⟩
    have hXY : IntKind.u64.wrap (X - Y) = G := by
      rw [hG, ← hX, ← hY]
      simp only [IntKind.wrap_u64]
      omega
    rw [← hG] at HU HB HE
    have hh2 : lo < hi := by omega
    clear x hl hr hg B1 hG h1 h2 hpl hh
    go_enter Try.func16, Try.ntmps16
    go_wp2_with (first
      | (go_at_call 26; refine HU.out.mono ?_; go_loud (rintro e w1 ⟨rfl, HI⟩)))
    go_ret
    exact ⟨ret_int HE.out.symm, by rw [HL.out]; exact HI.out.from HB.out⟩
set_option maxHeartbeats 1000000 in
theorem port_any (p : Nat) (a : Option Addr) (c : Nat) (zs : List Int) (w : World) (x : DiceW 46 w p a c zs) (hl : zs.length ≤ maxLen) :
    Calls Try.prog 17 #[.pointer (some ⟨p, 0, none⟩)] w fun e w' => e = .returned (.int .i64 (49152 + hd0 zs % 16384)) ∧ Hid (UseI 46 w p a zs.tail w') := by
  have HU := hid (use_port p a c zs w x hl)
  clear x hl
  generalize 49152 + hd0 zs % 16384 = R at *
  go_enter Try.func17, Try.ntmps17
  go_wp2_with (first
    | (go_at_call 26; refine HU.out.mono ?_; go_loud (rintro e w1 ⟨rfl, HI⟩)))
  go_ret
  exact ⟨rfl, HI⟩
set_option maxHeartbeats 1000000 in
theorem backoff_any (p : Nat) (a : Option Addr) (c : Nat) (zs : List Int) (base most try_ : Int) (w : World) (x : DiceW 46 w p a c zs) (hl : zs.length ≤ maxLen) (h3 : -9223372036854775808 ≤ try_ ∧ try_ ≤ 9223372036854775807) :
    Calls Try.prog 18 #[.pointer (some ⟨p, 0, none⟩), .int .i64 base, .int .i64 most, .int .i64 try_] w fun e w' => e = .returned (.int .i64 (waitI (aboutI base most try_) (hd0 zs))) ∧ Hid (UseI 46 w p a zs.tail w') := by
  have hpl := heap_lt x.box
  have HD : Hid (Calls Try.prog 30 #[.int .i64 (timeI base), .int .i64 (timeI most), .int .i64 try_] w fun e w' => e = .returned (.int .i64 (aboutI base most try_)) ∧ w' = w) := doubled_any (timeI base) (timeI most) try_ w (timeI_bd _) (timeI_bd _) h3
  have hb := aboutI_bd base most try_
  generalize aboutI base most try_ = b at *
  have B1 := balloc w (.cells #[.int .i64 b] 3)
  have HU := hid (use_back p a c zs b w.heap.size (w.alloc (.cells #[.int .i64 b] 3)) (x.below B1) hl (cellHeap (heap_new w _) 0 rfl) (by omega) hb)
  have HB := hid B1
  clear x hl hb B1 hpl h3
  go_enter Try.func18, Try.ntmps18
  go_wp2_with (first
    | (go_at_call 31; refine (asTime_any _ w).mono ?_; go_loud (rintro e w1 ⟨rfl, hw⟩; subst w1))
    | (go_at_call 30; refine HD.out.mono ?_; go_loud (rintro e w1 ⟨rfl, hw⟩; subst w1))
    | (go_at_call 26; refine HU.out.mono ?_; go_loud (rintro e w1 ⟨rfl, HI⟩)))
  go_ret
  exact ⟨rfl, HI.out.from HB.out⟩
end Go.Proofs.Ytdfefhiajleejaa
