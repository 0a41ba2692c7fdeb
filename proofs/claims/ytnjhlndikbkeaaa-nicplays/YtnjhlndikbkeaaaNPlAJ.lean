import Derived.Test.YtnjhlndikbkeaaaNPlJ
import Derived.Test.YtnjhlndikbkeaaaNLiveK
/-
  Do both stand alike?
-/
namespace Go.Proofs.Ytnjhlndikbkeaaa
open Go.RowKit
set_option linter.all false

/-- a descriptor that was looked at: the bytes lie in memory. -/
structure Seen (W : World) (a : Option Addr) (l c : Nat) (zs : List Int) : Prop where
  len : l = zs.length
  ok : Part.ok W ⟨a, c, zs⟩
theorem Seen.below {W W' : World} {a : Option Addr} {l c : Nat} {zs : List Int} (h : Seen W a l c zs) (hb : Below W.heap.size W W') : Seen W' a l c zs := ⟨h.len, Part.ok_below h.ok hb⟩
theorem Seen.conv {W : World} {a : Option Addr} {l c : Nat} {zs : List Int} (h : Seen W a l c zs) : (convert 43 9 (.slice a l c)).run Try.prog W = .ok (.string (strOfNums zs)) W := conv_slN h.ok h.len
theorem part_rowN {w : World} {a : Option Addr} {l c : Nat} {zs : List Int} (h : Row w 5 (.slice a l c) (u8s zs)) (hl : l = zs.length) (hz : ∀ z, z ∈ zs → 0 ≤ z ∧ z ≤ 255) : Part.ok w ⟨a, c, zs⟩ := by
  obtain ⟨pt, e1, e2, e3⟩ := h.part hz
  obtain ⟨pa, pc, pz⟩ := pt
  simp only [Part.val, Value.slice.injEq] at e1 e2
  subst e2
  obtain ⟨rfl, _, rfl⟩ := e1
  exact e3
/-- what both show at a place. -/
theorem looks (S : CS) (i : Int) : ∃ (b1 : Bool) (z1 : List Int) (n1 : Int) (b2 : Bool) (z2 : List Int) (n2 : Int),
    (∀ (c g h : Nat) (w : World), CardW w c g h S → Calls Try.prog 33 #[.pointer (some ⟨c, 0, none⟩), .int .i64 i] w fun e w' => ∃ a l c', e = .returned (.tuple #[.agg #[.bool b1, .slice a l c'], .int .i64 n1]) ∧ Hid (Seen w' a l c' z1) ∧ Hid (Below w.heap.size w w')) ∧
    (∀ (D : Nat → Prop) (x g cr h ct : Nat) (w : World), RefB w D x g cr h ct S → Calls Try.prog 34 #[.pointer (some ⟨x, 0, none⟩), .int .i64 i] w fun e w' => ∃ a l c', e = .returned (.tuple #[.agg #[.bool b1, .slice a l c'], .int .i64 n1]) ∧ Hid (Seen w' a l c' z1) ∧ Hid (Below w.heap.size w w')) ∧
    (∀ (c g h : Nat) (w : World), CardW w c g h S → Calls Try.prog 35 #[.pointer (some ⟨c, 0, none⟩), .int .i64 i] w fun e w' => ∃ a l c', e = .returned (.tuple #[.agg #[.bool b2, .slice a l c'], .int .i64 n2]) ∧ Hid (Seen w' a l c' z2) ∧ Hid (Below w.heap.size w w')) ∧
    (∀ (D : Nat → Prop) (x g cr h ct : Nat) (w : World), RefB w D x g cr h ct S → Calls Try.prog 36 #[.pointer (some ⟨x, 0, none⟩), .int .i64 i] w fun e w' => ∃ a l c', e = .returned (.tuple #[.agg #[.bool b2, .slice a l c'], .int .i64 n2]) ∧ Hid (Seen w' a l c' z2) ∧ Hid (Below w.heap.size w w')) := by
  obtain ⟨b1, z1, n1, hA, hB⟩ := show_two S.R i
  obtain ⟨b2, z2, n2, hC, hD⟩ := show_two S.T i
  refine ⟨b1, z1, n1, b2, z2, n2, fun c g h w x => (rx_any c g h S i w x).mono ?_, fun D x g cr h ct w y => (refRx_any D x g cr h ct S i w y).mono ?_, fun c g h w x => (tx_any c g h S i w x).mono ?_, fun D x g cr h ct w y => (refTx_any D x g cr h ct S i w y).mono ?_⟩
  · intro e w' hs
    obtain ⟨a, l, c', rfl, h1, h2, _, _, h3, h4⟩ := hA w w' e (fun j p hj => plOk x.rx hj) hs
    exact ⟨a, l, c', rfl, ⟨h1, part_rowN h2 h1 h3⟩, ⟨h4.os, h4.tape, h4.output, h4.size, fun k hk => h4.block k (fun e => e) hk⟩⟩
  · intro e w' hs
    obtain ⟨a, l, c', rfl, h1, _, h2, h3⟩ := hB w w' e hs
    exact ⟨a, l, c', rfl, ⟨h1, h2⟩, h3⟩
  · intro e w' hs
    obtain ⟨a, l, c', rfl, h1, h2, _, _, h3, h4⟩ := hC w w' e (fun j p hj => plOk x.tx hj) hs
    exact ⟨a, l, c', rfl, ⟨h1, part_rowN h2 h1 h3⟩, ⟨h4.os, h4.tape, h4.output, h4.size, fun k hk => h4.block k (fun e => e) hk⟩⟩
  · intro e w' hs
    obtain ⟨a, l, c', rfl, h1, _, h2, h3⟩ := hD w w' e hs
    exact ⟨a, l, c', rfl, ⟨h1, h2⟩, h3⟩
set_option maxRecDepth 20000 in
set_option maxHeartbeats 8000000 in
theorem alike_any {wB : World} {P : NP} {own : Mac} {n m : Nat} (w : World) (j : Nat) (h : NAll wB w P own n m j) (hj : j < 2199023255552) (ho : own.ok) :
    Calls Try.prog 12 #[.pointer (some ⟨P.gp, 0, none⟩)] w fun e w' => e = .returned (.bool true) ∧ NAll wB w' P own n m j := by
  obtain ⟨S, N, k, h, hc, hk⟩ := h
  have HE := hid h
  have HC := hid hc
  have HK := hid hk
  have HMQ : Hid (∀ w, (Op.equalIn 10000 24 (.agg #[.int .u8 own.b0, .int .u8 own.b1, .int .u8 own.b2, .int .u8 own.b3, .int .u8 own.b4, .int .u8 own.b5]) (.agg #[.int .u8 own.b0, .int .u8 own.b1, .int .u8 own.b2, .int .u8 own.b3, .int .u8 own.b4, .int .u8 own.b5])).run Try.prog w = .ok true w) := fun w => by
    have := mac_eq own own ho ho w
    rw [decide_eq_true rfl] at this
    exact this
  have HSQ := hid (stats_eq N.tk N.th N.sn N.rf (by have := hc.tk; omega) (by have := hc.tk; omega) (by have := hc.sn; omega) (by have := hc.sn; omega))
  have HCQ := hid (counts_eq S.ci S.cd S.co (by have := hc.small.1; omega) (by have := hc.small.2.1; omega) (by have := hc.small.2.2; omega))
  have HCW : Hid (∀ W, Below w.heap.size w W → CardW W P.c P.g P.h S ∧ NicW W P.q own P.c P.g P.h n m S N) := fun W hb => ⟨(HE.out.below hb).nic.1.card, (HE.out.below hb).nic.1⟩
  have HRW : Hid (∀ W, Below w.heap.size w W → ∃ D, RNicW W P.y own D P.x P.rg P.cr P.rh P.ct n m S N) := fun W hb => by
    obtain ⟨D, h1, _⟩ := (HE.out.below hb).ref
    exact ⟨D, h1⟩
  have HBX : Hid (∀ W, Below w.heap.size w W → BoxP W P) := fun W hb => (HE.out.below hb).boxP
  have HRG : Hid (Calls Try.prog 32 #[.pointer (some ⟨P.x, 0, none⟩)] w fun e w' => e = .returned (.tuple #[.int .i64 n, .int .i64 m]) ∧ Below w.heap.size w w') := by
    obtain ⟨D, h1, _⟩ := h.ref
    have := refRings_any D P.x P.rg P.cr P.rh P.ct S w h1.ref
    rw [h1.ln, h1.lm] at this
    exact this
  have hn64 : n ≤ 64 := by have h1 := h.nic.1; rw [← h1.ln]; exact h1.card.r2
  have hm64 : m ≤ 64 := by have h1 := h.nic.1; rw [← h1.lm]; exact h1.card.t2
  have b2 := h.boxP.c2
  have blt := h.boxP.lt
  clear h hc hk
  go_enter Try.func12, Try.ntmps12
  go_wp2_with (first
    | (go_at_call 32; refine HRG.out.mono ?_; go_loud (rintro e w1 ⟨rfl, hb1⟩; have HB1 := hid hb1; clear hb1 HRG))
    | fail)
  clear b2 blt
  go_loopw [5] (fun iv wr => ∃ i : Nat, i ≤ 64 ∧ iv = .int .i64 i ∧ Hid (Below w.heap.size w wr)) (fun iv _ => 64 - (intOf iv).toNat)
  case atStart => exact ⟨0, by omega, rfl, HB1⟩
  case round =>
    obtain ⟨i, hi, rfl, HB⟩ := hrel
    clear HB1
    obtain ⟨b0, b1, b2, b3, b4, blt⟩ := HBX.out _ HB.out
    by_cases hlt : i < n ∨ i < m
    · obtain ⟨z1, y1, n1, z2, y2, n2, hA, hB, hC, hD⟩ := looks S i
      have HA := hid (hA P.c P.g P.h wr (HCW.out _ HB.out).1)
      have HBB : Hid (∀ W, Below w.heap.size w W → Calls Try.prog 34 #[.pointer (some ⟨P.x, 0, none⟩), .int .i64 i] W fun e w' => ∃ a l c', e = .returned (.tuple #[.agg #[.bool z1, .slice a l c'], .int .i64 n1]) ∧ Hid (Seen w' a l c' y1) ∧ Hid (Below W.heap.size W w')) := fun W hb => by
        obtain ⟨D, h1⟩ := HRW.out W hb
        exact hB D P.x P.rg P.cr P.rh P.ct W h1.ref
      have HCC : Hid (∀ W, Below w.heap.size w W → Calls Try.prog 35 #[.pointer (some ⟨P.c, 0, none⟩), .int .i64 i] W fun e w' => ∃ a l c', e = .returned (.tuple #[.agg #[.bool z2, .slice a l c'], .int .i64 n2]) ∧ Hid (Seen w' a l c' y2) ∧ Hid (Below W.heap.size W w')) := fun W hb => hC P.c P.g P.h W (HCW.out W hb).1
      have HDD : Hid (∀ W, Below w.heap.size w W → Calls Try.prog 36 #[.pointer (some ⟨P.x, 0, none⟩), .int .i64 i] W fun e w' => ∃ a l c', e = .returned (.tuple #[.agg #[.bool z2, .slice a l c'], .int .i64 n2]) ∧ Hid (Seen w' a l c' y2) ∧ Hid (Below W.heap.size W w')) := fun W hb => by
        obtain ⟨D, h1⟩ := HRW.out W hb
        exact hD D P.x P.rg P.cr P.rh P.ct W h1.ref
      have HTE : Hid ((i : Int) < n ∨ (i : Int) < m) := by unfold Hid; omega
      clear hA hB hC hD
      have hcase : (i : Int) < n ∨ (¬ (i : Int) < n ∧ (i : Int) < m) := by have := HTE.out; omega
      have hi63 : i < 64 := by omega
      clear hlt HTE
      rcases hcase with hc1 | ⟨hc1, hc2⟩
      · skip
        go_wp2_with (first
          | (go_at_call 33; refine HA.out.mono ?_; go_loud (rintro e w2 ⟨a2, l2, c2, rfl, S2, B2⟩; have HB2 : Hid (Below w.heap.size w (w2.alloc (.cells #[.bool z1, .slice a2 l2 c2] 80))) := bpush (bstep HB.out B2.out) _; have HH2 := hid ((Holds.nil w2).push (.cells #[.bool z1, .slice a2 l2 c2] 80)); have S2' := hid (S2.out.below (balloc w2 (.cells #[.bool z1, .slice a2 l2 c2] 80))); obtain ⟨b0, b1, b2, b3, b4, blt⟩ := HBX.out _ HB2.out; clear b0 b1 b3 b4 S2 B2))
          | (go_at_call 34; refine (HBB.out _ HB2.out).mono ?_; go_loud (rintro e w3 ⟨a3, l3, c3, rfl, S3, B3⟩; have HB3 : Hid (Below w.heap.size w (w3.alloc (.cells #[.bool z1, .slice a3 l3 c3] 80))) := bpush (bstep HB2.out B3.out) _; have HH3 := hid ((HH2.out.below B3.out).push (.cells #[.bool z1, .slice a3 l3 c3] 80)); have S23 := hid ((S2'.out.below B3.out).below (balloc w3 (.cells #[.bool z1, .slice a3 l3 c3] 80))); have S33 := hid (S3.out.below (balloc w3 (.cells #[.bool z1, .slice a3 l3 c3] 80))); obtain ⟨b0, b1, b2, b3, b4, blt⟩ := HBX.out _ HB3.out; clear b1 b2 b3 b4 S2' S3 B3 HB2))
          | (go_at_call 35; refine (HCC.out _ HB3.out).mono ?_; go_loud (rintro e w4 ⟨a4, l4, c4, rfl, S4, B4⟩; have HB4 : Hid (Below w.heap.size w (w4.alloc (.cells #[.bool z2, .slice a4 l4 c4] 80))) := bpush (bstep HB3.out B4.out) _; have HH4 := hid ((HH3.out.below B4.out).push (.cells #[.bool z2, .slice a4 l4 c4] 80)); have S24 := hid ((S23.out.below B4.out).below (balloc w4 (.cells #[.bool z2, .slice a4 l4 c4] 80))); have S34 := hid ((S33.out.below B4.out).below (balloc w4 (.cells #[.bool z2, .slice a4 l4 c4] 80))); have S44 := hid (S4.out.below (balloc w4 (.cells #[.bool z2, .slice a4 l4 c4] 80))); obtain ⟨b0, b1, b2, b3, b4, blt⟩ := HBX.out _ HB4.out; clear b0 b1 b3 b4 S23 S33 S4 B4 HB3))
          | (go_at_call 36; refine (HDD.out _ HB4.out).mono ?_; go_loud (rintro e w5 ⟨a5, l5, c5, rfl, S5, B5⟩; have HB5 : Hid (Below w.heap.size w (w5.alloc (.cells #[.bool z2, .slice a5 l5 c5] 80))) := bpush (bstep HB4.out B5.out) _; have HH5 := hid ((HH4.out.below B5.out).push (.cells #[.bool z2, .slice a5 l5 c5] 80)); have V2 := ((S24.out.below B5.out).below (balloc w5 (.cells #[.bool z2, .slice a5 l5 c5] 80))).conv; have V3 := ((S34.out.below B5.out).below (balloc w5 (.cells #[.bool z2, .slice a5 l5 c5] 80))).conv; have V4 := ((S44.out.below B5.out).below (balloc w5 (.cells #[.bool z2, .slice a5 l5 c5] 80))).conv; have V5 := (S5.out.below (balloc w5 (.cells #[.bool z2, .slice a5 l5 c5] 80))).conv; have k20 := cellHeap (HH5.out.at 3 w2.heap.size (.cells #[.bool z1, .slice a2 l2 c2] 80 (0, 0)) rfl) 0 rfl; have k21 := cellHeap (HH5.out.at 3 w2.heap.size (.cells #[.bool z1, .slice a2 l2 c2] 80 (0, 0)) rfl) 1 rfl; have k30 := cellHeap (HH5.out.at 2 w3.heap.size (.cells #[.bool z1, .slice a3 l3 c3] 80 (0, 0)) rfl) 0 rfl; have k31 := cellHeap (HH5.out.at 2 w3.heap.size (.cells #[.bool z1, .slice a3 l3 c3] 80 (0, 0)) rfl) 1 rfl; have k40 := cellHeap (HH5.out.at 1 w4.heap.size (.cells #[.bool z2, .slice a4 l4 c4] 80 (0, 0)) rfl) 0 rfl; have k41 := cellHeap (HH5.out.at 1 w4.heap.size (.cells #[.bool z2, .slice a4 l4 c4] 80 (0, 0)) rfl) 1 rfl; generalize strOfNums y1 = X1 at V2 V3; generalize strOfNums y2 = X2 at V4 V5; clear S24 S34 S44 S5 B5 HB4))
          | fail)
        go_roundw
        case rel => exact ⟨i + 1, by omega, by go_num, HB5⟩
        case measure => simp [intOf]; omega
      · skip
        go_wp2_with (first
          | (go_at_call 33; refine HA.out.mono ?_; go_loud (rintro e w2 ⟨a2, l2, c2, rfl, S2, B2⟩; have HB2 : Hid (Below w.heap.size w (w2.alloc (.cells #[.bool z1, .slice a2 l2 c2] 80))) := bpush (bstep HB.out B2.out) _; have HH2 := hid ((Holds.nil w2).push (.cells #[.bool z1, .slice a2 l2 c2] 80)); have S2' := hid (S2.out.below (balloc w2 (.cells #[.bool z1, .slice a2 l2 c2] 80))); obtain ⟨b0, b1, b2, b3, b4, blt⟩ := HBX.out _ HB2.out; clear b0 b1 b3 b4 S2 B2))
          | (go_at_call 34; refine (HBB.out _ HB2.out).mono ?_; go_loud (rintro e w3 ⟨a3, l3, c3, rfl, S3, B3⟩; have HB3 : Hid (Below w.heap.size w (w3.alloc (.cells #[.bool z1, .slice a3 l3 c3] 80))) := bpush (bstep HB2.out B3.out) _; have HH3 := hid ((HH2.out.below B3.out).push (.cells #[.bool z1, .slice a3 l3 c3] 80)); have S23 := hid ((S2'.out.below B3.out).below (balloc w3 (.cells #[.bool z1, .slice a3 l3 c3] 80))); have S33 := hid (S3.out.below (balloc w3 (.cells #[.bool z1, .slice a3 l3 c3] 80))); obtain ⟨b0, b1, b2, b3, b4, blt⟩ := HBX.out _ HB3.out; clear b1 b2 b3 b4 S2' S3 B3 HB2))
          | (go_at_call 35; refine (HCC.out _ HB3.out).mono ?_; go_loud (rintro e w4 ⟨a4, l4, c4, rfl, S4, B4⟩; have HB4 : Hid (Below w.heap.size w (w4.alloc (.cells #[.bool z2, .slice a4 l4 c4] 80))) := bpush (bstep HB3.out B4.out) _; have HH4 := hid ((HH3.out.below B4.out).push (.cells #[.bool z2, .slice a4 l4 c4] 80)); have S24 := hid ((S23.out.below B4.out).below (balloc w4 (.cells #[.bool z2, .slice a4 l4 c4] 80))); have S34 := hid ((S33.out.below B4.out).below (balloc w4 (.cells #[.bool z2, .slice a4 l4 c4] 80))); have S44 := hid (S4.out.below (balloc w4 (.cells #[.bool z2, .slice a4 l4 c4] 80))); obtain ⟨b0, b1, b2, b3, b4, blt⟩ := HBX.out _ HB4.out; clear b0 b1 b3 b4 S23 S33 S4 B4 HB3))
          | (go_at_call 36; refine (HDD.out _ HB4.out).mono ?_; go_loud (rintro e w5 ⟨a5, l5, c5, rfl, S5, B5⟩; have HB5 : Hid (Below w.heap.size w (w5.alloc (.cells #[.bool z2, .slice a5 l5 c5] 80))) := bpush (bstep HB4.out B5.out) _; have HH5 := hid ((HH4.out.below B5.out).push (.cells #[.bool z2, .slice a5 l5 c5] 80)); have V2 := ((S24.out.below B5.out).below (balloc w5 (.cells #[.bool z2, .slice a5 l5 c5] 80))).conv; have V3 := ((S34.out.below B5.out).below (balloc w5 (.cells #[.bool z2, .slice a5 l5 c5] 80))).conv; have V4 := ((S44.out.below B5.out).below (balloc w5 (.cells #[.bool z2, .slice a5 l5 c5] 80))).conv; have V5 := (S5.out.below (balloc w5 (.cells #[.bool z2, .slice a5 l5 c5] 80))).conv; have k20 := cellHeap (HH5.out.at 3 w2.heap.size (.cells #[.bool z1, .slice a2 l2 c2] 80 (0, 0)) rfl) 0 rfl; have k21 := cellHeap (HH5.out.at 3 w2.heap.size (.cells #[.bool z1, .slice a2 l2 c2] 80 (0, 0)) rfl) 1 rfl; have k30 := cellHeap (HH5.out.at 2 w3.heap.size (.cells #[.bool z1, .slice a3 l3 c3] 80 (0, 0)) rfl) 0 rfl; have k31 := cellHeap (HH5.out.at 2 w3.heap.size (.cells #[.bool z1, .slice a3 l3 c3] 80 (0, 0)) rfl) 1 rfl; have k40 := cellHeap (HH5.out.at 1 w4.heap.size (.cells #[.bool z2, .slice a4 l4 c4] 80 (0, 0)) rfl) 0 rfl; have k41 := cellHeap (HH5.out.at 1 w4.heap.size (.cells #[.bool z2, .slice a4 l4 c4] 80 (0, 0)) rfl) 1 rfl; generalize strOfNums y1 = X1 at V2 V3; generalize strOfNums y2 = X2 at V4 V5; clear S24 S34 S44 S5 B5 HB4))
          | fail)
        go_roundw
        case rel => exact ⟨i + 1, by omega, by go_num, HB5⟩
        case measure => simp [intOf]; omega
    · have hc1 : ¬ (i : Int) < n := by omega
      have hc2 : ¬ (i : Int) < m := by omega
      clear hlt
      have HOW : Hid (Calls Try.prog 21 #[.pointer (some ⟨P.q, 0, none⟩)] wr fun e w' => e = .returned (.agg #[.int .u8 own.b0, .int .u8 own.b1, .int .u8 own.b2, .int .u8 own.b3, .int .u8 own.b4, .int .u8 own.b5]) ∧ Below wr.heap.size wr w') := own_any P.q own P.c P.g P.h n m S N wr (HCW.out _ HB.out).2
      have HNS : Hid (∀ W, Below w.heap.size w W → Calls Try.prog 22 #[.pointer (some ⟨P.q, 0, none⟩)] W fun e w' => e = .returned (.agg #[.int .i64 N.tk, .int .i64 N.th, .int .i64 N.sn, .int .i64 N.rf]) ∧ Below W.heap.size W w') := fun W hb => stats_any P.q own P.c P.g P.h n m S N W (HCW.out W hb).2
      have HRS : Hid (∀ W, Below w.heap.size w W → Calls Try.prog 37 #[.pointer (some ⟨P.y, 0, none⟩)] W fun e w' => e = .returned (.agg #[.int .i64 N.tk, .int .i64 N.th, .int .i64 N.sn, .int .i64 N.rf]) ∧ Below W.heap.size W w') := fun W hb => by
        obtain ⟨D, h1⟩ := HRW.out W hb
        exact rstats_any W h1
      have HRC : Hid (∀ W, Below w.heap.size w W → Calls Try.prog 39 #[.pointer (some ⟨P.x, 0, none⟩)] W fun e w' => e = .returned (.agg #[.int .i64 S.ci, .int .i64 S.cd, .int .i64 S.co]) ∧ Below W.heap.size W w') := fun W hb => by
        obtain ⟨D, h1⟩ := HRW.out W hb
        exact refCounts_any D P.x P.rg P.cr P.rh P.ct S W h1.ref
      have HRB : Hid (∀ W, Below w.heap.size w W → W.heap[P.y]? = some (.cells (N.rbox own P.x) 90 (0, 0))) := fun W hb => by
        obtain ⟨D, h1⟩ := HRW.out W hb
        exact h1.box
      clear b0 b2 b3 b4
      go_wp2_with (first
        | (go_at_call 21; refine Calls.mono HOW.out ?_; go_loud (rintro e w2 ⟨rfl, hb⟩; have HB2 : Hid (Below w.heap.size w (w2.alloc (.cells #[.int .u8 own.b0, .int .u8 own.b1, .int .u8 own.b2, .int .u8 own.b3, .int .u8 own.b4, .int .u8 own.b5] 24))) := bpush (bstep HB.out hb) _; have HH2 := hid ((Holds.nil w2).push (.cells #[.int .u8 own.b0, .int .u8 own.b1, .int .u8 own.b2, .int .u8 own.b3, .int .u8 own.b4, .int .u8 own.b5] 24)); obtain ⟨b0, b1, b2, b3, b4, blt⟩ := HBX.out _ HB2.out; clear b0 b2 b3 b4 hb))
        | (go_at_call 22; refine Calls.mono (HNS.out _ HB2.out) ?_; go_loud (rintro e w3 ⟨rfl, hb⟩; have HB3 : Hid (Below w.heap.size w (w3.alloc (.cells #[.int .i64 N.tk, .int .i64 N.th, .int .i64 N.sn, .int .i64 N.rf] 65))) := bpush (bstep HB2.out hb) _; have HH3 := hid ((HH2.out.below hb).push (.cells #[.int .i64 N.tk, .int .i64 N.th, .int .i64 N.sn, .int .i64 N.rf] 65)); obtain ⟨b0, b1, b2, b3, b4, blt⟩ := HBX.out _ HB3.out; clear b0 b1 b2 b4 hb))
        | (go_at_call 37; refine Calls.mono (HRS.out _ HB3.out) ?_; go_loud (rintro e w4 ⟨rfl, hb⟩; have HB4 : Hid (Below w.heap.size w (w4.alloc (.cells #[.int .i64 N.tk, .int .i64 N.th, .int .i64 N.sn, .int .i64 N.rf] 65))) := bpush (bstep HB3.out hb) _; have HH4 := hid ((HH3.out.below hb).push (.cells #[.int .i64 N.tk, .int .i64 N.th, .int .i64 N.sn, .int .i64 N.rf] 65)); obtain ⟨b0, b1, b2, b3, b4, blt⟩ := HBX.out _ HB4.out; clear b1 b2 b3 b4 hb))
        | (go_at_call 38; refine Calls.mono (counts_any P.c P.g P.h S _ (HCW.out _ HB4.out).1) ?_; go_loud (rintro e w5 ⟨rfl, hb⟩; have HB5 : Hid (Below w.heap.size w (w5.alloc (.cells #[.int .i64 S.ci, .int .i64 S.cd, .int .i64 S.co] 73))) := bpush (bstep HB4.out hb) _; have HH5 := hid ((HH4.out.below hb).push (.cells #[.int .i64 S.ci, .int .i64 S.cd, .int .i64 S.co] 73)); obtain ⟨b0, b1, b2, b3, b4, blt⟩ := HBX.out _ HB5.out; clear b0 b1 b3 b4 hb))
        | (go_at_call 39; refine Calls.mono (HRC.out _ HB5.out) ?_; go_loud (rintro e w6 ⟨rfl, hb⟩; have HB6 : Hid (Below w.heap.size w (w6.alloc (.cells #[.int .i64 S.ci, .int .i64 S.cd, .int .i64 S.co] 73))) := bpush (bstep HB5.out hb) _; have HH6 := hid ((HH5.out.below hb).push (.cells #[.int .i64 S.ci, .int .i64 S.cd, .int .i64 S.co] 73)); obtain ⟨b0, b1, b2, b3, b4, blt⟩ := HBX.out _ HB6.out; clear b0 b1 b2 b4 hb; have k3 := rnicC (HRB.out _ HB6.out); have w2k0 := cellHeap (HH6.out.at 4 w2.heap.size (.cells #[.int .u8 own.b0, .int .u8 own.b1, .int .u8 own.b2, .int .u8 own.b3, .int .u8 own.b4, .int .u8 own.b5] 24 (0, 0)) rfl) 0 rfl; have w2k1 := cellHeap (HH6.out.at 4 w2.heap.size (.cells #[.int .u8 own.b0, .int .u8 own.b1, .int .u8 own.b2, .int .u8 own.b3, .int .u8 own.b4, .int .u8 own.b5] 24 (0, 0)) rfl) 1 rfl; have w2k2 := cellHeap (HH6.out.at 4 w2.heap.size (.cells #[.int .u8 own.b0, .int .u8 own.b1, .int .u8 own.b2, .int .u8 own.b3, .int .u8 own.b4, .int .u8 own.b5] 24 (0, 0)) rfl) 2 rfl; have w2k3 := cellHeap (HH6.out.at 4 w2.heap.size (.cells #[.int .u8 own.b0, .int .u8 own.b1, .int .u8 own.b2, .int .u8 own.b3, .int .u8 own.b4, .int .u8 own.b5] 24 (0, 0)) rfl) 3 rfl; have w2k4 := cellHeap (HH6.out.at 4 w2.heap.size (.cells #[.int .u8 own.b0, .int .u8 own.b1, .int .u8 own.b2, .int .u8 own.b3, .int .u8 own.b4, .int .u8 own.b5] 24 (0, 0)) rfl) 4 rfl; have w2k5 := cellHeap (HH6.out.at 4 w2.heap.size (.cells #[.int .u8 own.b0, .int .u8 own.b1, .int .u8 own.b2, .int .u8 own.b3, .int .u8 own.b4, .int .u8 own.b5] 24 (0, 0)) rfl) 5 rfl; have w3k0 := cellHeap (HH6.out.at 3 w3.heap.size (.cells #[.int .i64 N.tk, .int .i64 N.th, .int .i64 N.sn, .int .i64 N.rf] 65 (0, 0)) rfl) 0 rfl; have w3k1 := cellHeap (HH6.out.at 3 w3.heap.size (.cells #[.int .i64 N.tk, .int .i64 N.th, .int .i64 N.sn, .int .i64 N.rf] 65 (0, 0)) rfl) 1 rfl; have w3k2 := cellHeap (HH6.out.at 3 w3.heap.size (.cells #[.int .i64 N.tk, .int .i64 N.th, .int .i64 N.sn, .int .i64 N.rf] 65 (0, 0)) rfl) 2 rfl; have w3k3 := cellHeap (HH6.out.at 3 w3.heap.size (.cells #[.int .i64 N.tk, .int .i64 N.th, .int .i64 N.sn, .int .i64 N.rf] 65 (0, 0)) rfl) 3 rfl; have w4k0 := cellHeap (HH6.out.at 2 w4.heap.size (.cells #[.int .i64 N.tk, .int .i64 N.th, .int .i64 N.sn, .int .i64 N.rf] 65 (0, 0)) rfl) 0 rfl; have w4k1 := cellHeap (HH6.out.at 2 w4.heap.size (.cells #[.int .i64 N.tk, .int .i64 N.th, .int .i64 N.sn, .int .i64 N.rf] 65 (0, 0)) rfl) 1 rfl; have w4k2 := cellHeap (HH6.out.at 2 w4.heap.size (.cells #[.int .i64 N.tk, .int .i64 N.th, .int .i64 N.sn, .int .i64 N.rf] 65 (0, 0)) rfl) 2 rfl; have w4k3 := cellHeap (HH6.out.at 2 w4.heap.size (.cells #[.int .i64 N.tk, .int .i64 N.th, .int .i64 N.sn, .int .i64 N.rf] 65 (0, 0)) rfl) 3 rfl; have w5k0 := cellHeap (HH6.out.at 1 w5.heap.size (.cells #[.int .i64 S.ci, .int .i64 S.cd, .int .i64 S.co] 73 (0, 0)) rfl) 0 rfl; have w5k1 := cellHeap (HH6.out.at 1 w5.heap.size (.cells #[.int .i64 S.ci, .int .i64 S.cd, .int .i64 S.co] 73 (0, 0)) rfl) 1 rfl; have w5k2 := cellHeap (HH6.out.at 1 w5.heap.size (.cells #[.int .i64 S.ci, .int .i64 S.cd, .int .i64 S.co] 73 (0, 0)) rfl) 2 rfl; have w6k0 := cellHeap (HH6.out.at 0 w6.heap.size (.cells #[.int .i64 S.ci, .int .i64 S.cd, .int .i64 S.co] 73 (0, 0)) rfl) 0 rfl; have w6k1 := cellHeap (HH6.out.at 0 w6.heap.size (.cells #[.int .i64 S.ci, .int .i64 S.cd, .int .i64 S.co] 73 (0, 0)) rfl) 1 rfl; have w6k2 := cellHeap (HH6.out.at 0 w6.heap.size (.cells #[.int .i64 S.ci, .int .i64 S.cd, .int .i64 S.co] 73 (0, 0)) rfl) 2 rfl; have y1 := k3.c1; have y2 := k3.c2; have y3 := k3.c3; have y4 := k3.c4; have y5 := k3.c5; have y6 := k3.c6; clear k3; have hmq := HMQ.out; have hsq := HSQ.out; have hcq := HCQ.out))
        | go_quiet (fail)
        | fail)
      go_ret
      exact ⟨rfl, S, N, k, (HE.out.below HB6.out).drewN _, HC.out, HK.out⟩
end Go.Proofs.Ytnjhlndikbkeaaa

/-
  The statement NicPlays: both are made, step by step.
-/
namespace Go.Proofs.Ytnjhlndikbkeaaa
open Go.RowKit
set_option linter.all false
def MacO (own : Mac) : Obj := .cells #[.int .u8 own.b0, .int .u8 own.b1, .int .u8 own.b2, .int .u8 own.b3, .int .u8 own.b4, .int .u8 own.b5] 24 (0, 0)
/-- both cards, the book and the pair's box, its places for the drivers as v1 and v3 say. -/
structure NMk (wB W : World) (own : Mac) (n m : Nat) (P : NP) (v1 v3 : Value) : Prop where
  box : W.heap[P.gp]? = some (.cells #[.pointer (some ⟨P.c, 0, none⟩), v1, .pointer (some ⟨P.x, 0, none⟩), v3, .pointer (some ⟨P.gk, 0, none⟩)] 39 (0, 0))
  card : CardW W P.c P.g P.h (CS.new n m)
  ref : RefB W (fun _ => False) P.x P.rg P.cr P.rh P.ct (CS.new n m)
  book : BookI W wB.heap.size P.gk (.slice none 0 0) (.slice none 0 0) []
  mac : W.heap[wB.heap.size]? = some (MacO own)
  c1 : ∀ k, CardK P.c P.g P.h k → wB.heap.size < k ∧ k < P.x
  r1 : ∀ k, RefK (fun _ => False) P.x P.rg P.rh k → P.x ≤ k ∧ k < P.gk
  g1 : P.gp = P.gk + 1
  bel : Below wB.heap.size wB W
theorem inNil {gk k : Nat} (h : InBook gk (.slice none 0 0) (.slice none 0 0) k) : k = gk := by rcases h with h | h | h <;> simp_all [Value.ownBlock]
section
variable {wB W W' : World} {own : Mac} {n m : Nat} {P : NP} {v1 v3 : Value}
theorem NMk.below (h : NMk wB W own n m P v1 v3) (hb : Below W.heap.size W W') : NMk wB W' own n m P v1 v3 :=
  ⟨kept h.box hb, h.card.below hb, h.ref.below hb, h.book.below hb, kept h.mac hb, h.c1, h.r1, h.g1, bstep h.bel hb⟩
theorem NMk.drewN (h : NMk wB W own n m P v1 v3) (j : Nat) : NMk wB (W.drewN j) own n m P v1 v3 := h.below (drewN_below _ _)
theorem NMk.xlt (h : NMk wB W own n m P v1 v3) : wB.heap.size < P.x ∧ P.x < P.gk := ⟨by have := h.c1 P.c (Or.inl rfl); omega, (h.r1 P.x (Or.inl rfl)).2⟩
theorem NMk.set {v1' v3' : Value} (h : NMk wB W own n m P v1 v3) (hb : But P.gp W W') (hx : W'.heap[P.gp]? = some (.cells #[.pointer (some ⟨P.c, 0, none⟩), v1', .pointer (some ⟨P.x, 0, none⟩), v3', .pointer (some ⟨P.gk, 0, none⟩)] 39 (0, 0))) : NMk wB W' own n m P v1' v3' := by
  have h1 := h.xlt
  have h2 := h.g1
  refine ⟨hx, h.card.keep fun k hk => hb.block k ?_ (h.card.lt k hk), h.ref.keep hb.size fun k hk => hb.block k ?_ (h.ref.lt k hk), h.book.keep (fun k hk => hb.block k ?_ (h.book.lt k hk)) (by simp), keptBut h.mac hb ?_, h.c1, h.r1, h.g1, h.bel.trans (hb.below ?_ h.bel.size)⟩
  · have := h.c1 k hk; omega
  · have := h.r1 k hk; omega
  · have := inNil hk; omega
  · omega
  · omega
theorem NMk.set1 (h : NMk wB W own n m P v1 v3) (v : Value) : NMk wB (W.setCell ⟨P.gp, 1, none⟩ v) own n m P v v3 := h.set (But.setCell _ _ _ _) (heap_setCell h.box)
theorem NMk.set3 (h : NMk wB W own n m P v1 v3) (v : Value) : NMk wB (W.setCell ⟨P.gp, 3, none⟩ v) own n m P v1 v := h.set (But.setCell _ _ _ _) (heap_setCell h.box)
theorem NMk.nicSet {q : Nat} (h : NMk wB W own n m P v1 v3) (hq : NicW W q own P.c P.g P.h n m (CS.new n m) NS.new) (hg : P.gp < q) (hb : But P.gp W W') : NicW W' q own P.c P.g P.h n m (CS.new n m) NS.new :=
  hq.keep fun k hk => hb.block k (by
    rcases hk with rfl | hk
    · omega
    · have := h.c1 k hk; have := h.xlt; have := h.g1; omega) (hq.lt k hk)
theorem NMk.refSet {y : Nat} (h : NMk wB W own n m P v1 v3) (hq : RNicW W y own (fun _ => False) P.x P.rg P.cr P.rh P.ct n m (CS.new n m) NS.new) (hg : P.gp < y) (hb : But P.gp W W') : RNicW W' y own (fun _ => False) P.x P.rg P.cr P.rh P.ct n m (CS.new n m) NS.new :=
  hq.keep hb.size fun k hk => hb.block k (by
    rcases hk with rfl | hk
    · omega
    · have := h.r1 k hk; have := h.xlt; have := h.g1; omega) (hq.lt k hk)
theorem NMk.all {q y : Nat} (h : NMk wB W own n m P (.pointer (some ⟨q, 0, none⟩)) (.pointer (some ⟨y, 0, none⟩))) (hq : NicW W q own P.c P.g P.h n m (CS.new n m) NS.new) (hy : RNicW W y own (fun _ => False) P.x P.rg P.cr P.rh P.ct n m (CS.new n m) NS.new) (hg : P.gp < q) (hqy : q < y) : ∃ P' : NP, P'.gp = P.gp ∧ NAll wB W P' own n m 0 := by
  have h1 := h.xlt
  have h2 := h.g1
  have hA : ∀ k, NicK q P.c P.g P.h k → wB.heap.size < k ∧ (k < P.x ∨ k = q) := fun k hk => by
    rcases hk with rfl | hk
    · omega
    · have := h.c1 k hk; omega
  have hR : ∀ k, RNicK (fun _ => False) y P.x P.rg P.rh k → P.x ≤ k ∧ (k < P.gk ∨ k = y) := fun k hk => by
    rcases hk with rfl | hk
    · omega
    · have := h.r1 k hk; omega
  refine ⟨⟨P.gp, P.gk, q, P.c, P.g, P.h, y, P.x, P.rg, P.cr, P.rh, P.ct⟩, rfl, CS.new n m, NS.new, 0, ⟨fun _ => False, .slice none 0 0, .slice none 0 0, [], ⟨h.box, hq, hy, h.book, fun k ha hr => ?_, fun ha => ?_, fun hr => ?_, fun k hk => ?_, fun t ht => by simp at ht, fun t ht => by simp at ht, h.bel⟩, by simp⟩, ⟨by simp [CS.small, CS.new], by simp [CS.new, NS.new, free_new], by simp [NS.new]⟩, by simp⟩
  · have := hA k ha; have := hR k hr; omega
  · have := hA _ ha; simp only at this; omega
  · have := hR _ hr; simp only at this; omega
  · refine ⟨?_, fun e => ?_, by simp⟩
    · rcases hk with rfl | hk | hk
      · simp only; omega
      · have := hA k hk; omega
      · have := hR k hk; omega
    · have e := inNil e
      rcases hk with rfl | hk | hk
      · simp only at e; omega
      · have := hA k hk; simp only at e; omega
      · have := hR k hk; simp only at e; omega
end
theorem mkStart {w w1 w2 w3 : World} {own : Mac} {n m c g h : Nat} (hn1 : 1 ≤ n) (hn : n ≤ 64) (hm1 : 1 ≤ m) (hm : m ≤ 64) (hl : Below (w.alloc (.cells #[.int .u8 own.b0, .int .u8 own.b1, .int .u8 own.b2, .int .u8 own.b3, .int .u8 own.b4, .int .u8 own.b5] 24)).heap.size (w.alloc (.cells #[.int .u8 own.b0, .int .u8 own.b1, .int .u8 own.b2, .int .u8 own.b3, .int .u8 own.b4, .int .u8 own.b5] 24)) w1)
    (hc : CardW w2 c g h (CS.new n m)) (hk : ∀ k, CardK c g h k → w1.heap.size ≤ k) (hd : Below w1.heap.size w1 w2) (he : RNewE w2 w3 n m) :
    ∃ P : NP, w3.heap.size + 1 = P.gp ∧ NMk w ((w3.alloc (.cells #[.slice none 0 0, .slice none 0 0] 35)).alloc (.cells #[.pointer (some ⟨c, 0, none⟩), .pointer none, .pointer (some ⟨w2.heap.size, 0, none⟩), .pointer none, .pointer (some ⟨w3.heap.size, 0, none⟩)] 39)) own n m P (.pointer none) (.pointer none) := by
  obtain ⟨rg, cr, rh, ct, r1, q1⟩ := he.ref hn1 hn hm1 hm
  have bel : Below w2.heap.size w2 w3 := by obtain ⟨_, _, _, _, _, h, _⟩ := he; exact h.bel
  have s1 := hl.size
  have s2 := hd.size
  have s3 := bel.size
  simp only [World.size_alloc] at s1
  have b3 := bpush (balloc w3 (.cells #[.slice none 0 0, .slice none 0 0] 35)) (.cells #[.pointer (some ⟨c, 0, none⟩), .pointer none, .pointer (some ⟨w2.heap.size, 0, none⟩), .pointer none, .pointer (some ⟨w3.heap.size, 0, none⟩)] 39)
  have hbx := heap_new (w3.alloc (.cells #[.slice none 0 0, .slice none 0 0] 35)) (.cells #[.pointer (some ⟨c, 0, none⟩), .pointer none, .pointer (some ⟨w2.heap.size, 0, none⟩), .pointer none, .pointer (some ⟨w3.heap.size, 0, none⟩)] 39)
  rw [World.size_alloc] at hbx
  refine ⟨⟨w3.heap.size + 1, w3.heap.size, 0, c, g, h, 0, w2.heap.size, rg, cr, rh, ct⟩, rfl, hbx, (hc.below bel).below b3, r1.below b3, (BookI.new w3 w.heap.size (by omega)).below (balloc _ _), kept (heap_new w _) (bstep (bstep (bstep hl hd) bel) b3), fun k hk' => ?_, fun k hk' => ?_, rfl, bstep (balloc w _) (bstep (bstep (bstep hl hd) bel) b3)⟩
  · have := hk k hk'; have := hc.lt k hk'; simp only; omega
  · have := q1 k hk'; have := r1.lt k hk'; simp only; omega
theorem cut2 {α β : Type} {G : Prop} {H : α → β → Prop} (P : α → β → Prop) (h1 : (∀ a b, H a b → P a b) → G) (h2 : ∀ a b, H a b → P a b) : G := h1 h2
end Go.Proofs.Ytnjhlndikbkeaaa
