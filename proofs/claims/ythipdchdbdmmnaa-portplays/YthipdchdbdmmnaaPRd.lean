/-
  Port: the document's table: Pick.
-/
import Derived.Test.YthipdchdbdmmnaaPRc
import Derived.Test.YthipdchdbdmmnaaPPick
import Derived.Test.YthipdchdbdmmnaaPDRef
namespace Go.Proofs.Ythipdchdbdmmnaa
open Go.RowKit
set_option linter.all false

/-- no block of the document's table is a dice's. -/
theorem RF.ne {w : World} {c : Nat} {v : Value} {M D : Int} {L : List Ab} (x : RPoW w c v M D L) {p : Nat} {C : Array Value} {t : TypeId} {f : Nat × Nat} (hp : w.heap[p]? = some (.cells C t f)) (h1 : t ≠ 89) (h2 : t ≠ 108) (h3 : t ≠ 110) (h4 : t ≠ 53) (h5 : t ≠ 5) : ¬ RF c v L p := by
  rintro (rfl | hv | ⟨y, hy, rfl | hq | ⟨d, hd, hb⟩⟩)
  · rw [x.box] at hp; simp only [Option.some.injEq, Obj.cells.injEq] at hp; exact h1 hp.2.1.symm
  · obtain ⟨cur, f, hc⟩ := x.row.obj hv
    rw [hc] at hp; simp only [Option.some.injEq, Obj.cells.injEq] at hp; exact h2 hp.2.1.symm
  · rw [(x.ents y hy).box] at hp; simp only [Option.some.injEq, Obj.cells.injEq] at hp; exact h3 hp.2.1.symm
  · obtain ⟨cur, hc⟩ := (x.ents y hy).row.obj hq
    rw [hc] at hp; simp only [Option.some.injEq, Obj.cells.injEq] at hp; exact h4 hp.2.1.symm
  · obtain ⟨cur, f, hc⟩ := ((x.ents y hy).data d hd).obj hb
    rw [hc] at hp; simp only [Option.some.injEq, Obj.cells.injEq] at hp; exact h5 hp.2.1.symm
structure RPickI (w w' : World) (c : Nat) (v : Value) (M D : Int) (L : List Ab) (S : List Pa) (p : Nat) (a : Option Addr) (zs : List Int) : Prop where
  tab : ∃ v' L', RPoW w' c v' M D L' ∧ abs L' = S ∧ (∀ k, RF c v' L' k → RF c v L k ∨ w.heap.size ≤ k)
  only : Only (fun k => RF c v L k ∨ k = p) w w'
  dice : ∃ a' c', DiceW 94 w' p a' c' zs ∧ blk a' = blk a
set_option maxRecDepth 20000 in
set_option maxHeartbeats 1000000 in
theorem rpick_no (c : Nat) (v : Value) (M D : Int) (L : List Ab) (p : Nat) (w : World) (x : RPoW w c v M D L) (hf : ((abs L).length : Int) = M) :
    Calls Try.prog 30 #[.pointer (some ⟨c, 0, none⟩), .pointer (some ⟨p, 0, none⟩)] w fun e w' => e = .returned (.tuple #[.int .i64 0, .int .i64 3]) ∧ w' = w.drew := by
  rw [abs_len] at hf
  obtain ⟨a, cp, hv, c0, c1, c2⟩ := x.cells
  have d0 : w.drew.cell? ⟨c, 0, none⟩ = some (.slice a L.length cp) := c0
  have d1 : w.drew.cell? ⟨c, 1, none⟩ = some (.int .i64 M) := c1
  have g2 : M ≤ (L.length : Int) := by omega
  clear x hf hv
  generalize L.length = N at *
  go_enter Try.func30, Try.ntmps30
  go_wp2
  go_region
  go_wp2
  go_ret2
  exact ⟨rfl, rfl⟩
set_option maxRecDepth 20000 in
set_option maxHeartbeats 4000000 in
theorem rpick_yes (c : Nat) (v : Value) (M D : Int) (L : List Ab) (p : Nat) (a : Option Addr) (cp : Nat) (zs : List Int) (w : World) (x : RPoW w c v M D L) (d : DiceW 94 w p a cp zs) (hl : zs.length ≤ maxLen) (hf : ((abs L).length : Int) ≠ M) :
    Calls Try.prog 30 #[.pointer (some ⟨c, 0, none⟩), .pointer (some ⟨p, 0, none⟩)] w fun e w' => e = .returned (.tuple #[.int .i64 (pickR (abs L) zs), .int .i64 0]) ∧ Hid (RPickI w w' c v M D L (aput (abs L) ⟨pickR (abs L) zs, 0, []⟩) p a zs.tail) := by
  have hfree := pickR_free (S := abs L) (by have := x.len; have := x.most; rw [abs_len]; omega) d.words
  obtain ⟨R, hR⟩ : ∃ R, R = pickR (abs L) zs := ⟨_, rfl⟩
  rw [← hR] at hfree ⊢
  rw [abs_len] at hf
  have hpn : ¬ RF c v L p := RF.ne x d.box (by decide) (by decide) (by decide) (by decide) (by decide)
  have HP : Hid (Calls Try.prog 54 #[.pointer (some ⟨p, 0, none⟩)] w.drew fun e w' => e = .returned (.int .i64 (49152 + hd0 zs % 16384)) ∧ Hid (RPoW w' c v M D L) ∧ Hid (But p w w') ∧ Hid (∃ a' c', DiceW 94 w' p a' c' zs.tail ∧ blk a' = blk a)) :=
    (refPort_any p a cp zs w.drew ⟨d.box, d.row.below (below_drewN w 1), d.words⟩ hl).mono fun e w' ⟨h1, h2⟩ => by
      obtain ⟨a', c', h3, h4, h5⟩ := h2.out
      have h6 : But p w w' := (But.drew p w).trans h5
      exact ⟨h1, x.keep fun k hk => h6.block k (fun e => hpn (e ▸ hk)) (x.lt k hk), h6, a', c', h3, h4⟩
  have HI : Hid (∀ w', RPoW w' c v M D L → ∀ n, Calls Try.prog 52 #[.pointer (some ⟨c, 0, none⟩), .int .i64 n] w' fun e w1 => e = .returned (.int .i64 (atI L n)) ∧ w1 = w') := fun w' x' n => rat_any c v M D L n w' x'
  have HA : Hid (∀ w', RPoW w' c v M D L → ∀ n, look L n = none → Calls Try.prog 53 #[.pointer (some ⟨c, 0, none⟩), .int .i64 n] w' fun e w1 => e = .returned (.tuple #[]) ∧ Hid (AddP w' w1 c n L)) := fun w' x' n h => radd_any c v M D L n w' x' h
  have HN : Hid (49152 ≤ 49152 + hd0 zs % 16384 ∧ 49152 + hd0 zs % 16384 ≤ 65535) := by have := hd0_words d.words; unfold Hid; omega
  have HR0 : Hid (pickN (abs L) 16 (49152 + hd0 zs % 16384) = R) := hR.symm
  have HFR := hid hfree
  have HM := hid hf
  obtain ⟨va, vc, hv, c0, c1, c2⟩ := x.cells
  have d0 : w.drew.cell? ⟨c, 0, none⟩ = some (.slice va L.length vc) := c0
  have d1 : w.drew.cell? ⟨c, 1, none⟩ = some (.int .i64 M) := c1
  have g2 : ¬ M ≤ (L.length : Int) := by have := x.len; omega
  have HXL := hid x.lt
  clear x d hl hf hfree hR c0 c1 c2 hv
  obtain ⟨NL, hNL⟩ : ∃ N, N = L.length := ⟨_, rfl⟩
  rw [← hNL] at d0 g2
  clear hNL
  generalize 49152 + hd0 zs % 16384 = n0 at *
  go_enter Try.func30, Try.ntmps30
  go_wp2
  go_region
  clear d0 d1
  go_wp2_with fail
  refine HP.out.mono ?_
  rintro e w2 ⟨rfl, HX, HB, HD⟩
  go_wp2
  go_loopw [6] (fun v wr => ∃ n : Int, v = .int .i64 n ∧ wr = w2 ∧ Hid (49152 ≤ n ∧ n ≤ 65535) ∧ ∃ f, Hid (pickN (abs L) f n = R)) (fun v _ => ((R - intOf4 v) % 16384).toNat)
  case atStart => exact ⟨n0, rfl, rfl, HN, 16, HR0⟩
  case round =>
    obtain ⟨n, rfl, rfl, H1, f, H2⟩ := hrel
    have n1 := H1.out.1
    have n2 := H1.out.2
    have HIn := hid (HI.out wr HX.out n)
    cases ho : look L n with
    | some y =>
      have hat : ¬ atI L n < 0 := fun e => by rw [(at_look L n).1 e] at ho; simp at ho
      have hne : n ≠ R := fun e => by
        have := HFR.out.1
        rw [← e, abs_look, ho] at this
        simp at this
      have hf1 : ∃ f', pickN (abs L) f' (behindI n) = R := by
        have h2 := H2.out
        cases f with
        | zero => exact absurd h2 hne
        | succ f =>
          refine ⟨f, ?_⟩
          rw [pickN, if_pos (by rw [abs_look, Option.isSome_map, ho]; rfl)] at h2
          exact h2
      have HF1 := hid hf1
      have HBR : Hid (49152 ≤ behindI n ∧ behindI n ≤ 65535 ∧ (R - behindI n) % 16384 < (R - n) % 16384) := by
        have := HFR.out.2
        unfold Hid behindI
        split <;> omega
      clear hf1 ho
      generalize atI L n = A at *
      by_cases h65 : n = 65535
      · have HBI : Hid (behindI n = 49152) := by unfold Hid behindI; rw [if_pos h65]
        rw [HBI.out] at HBR HF1
        subst h65
        clear HBI hne
        go_wp2_with fail
        refine HIn.out.mono ?_
        rintro e w3 ⟨rfl, hw⟩
        subst w3
        go_wp2
        go_roundw
        case rel =>
          obtain ⟨f', h⟩ := HF1.out
          exact ⟨49152, rfl, trivial, ⟨HBR.out.1, HBR.out.2.1⟩, f', h⟩
        case measure =>
          have := HBR.out.2.2
          simp only [intOf4]
          omega
      · have HBI : Hid (behindI n = n + 1) := by unfold Hid behindI; rw [if_neg h65]
        rw [HBI.out] at HBR HF1
        have g5 : ¬ 65535 < n + 1 := by omega
        clear HBI hne
        go_wp2_with fail
        refine HIn.out.mono ?_
        rintro e w3 ⟨rfl, hw⟩
        subst w3
        go_wp2
        go_roundw
        case rel =>
          obtain ⟨f', h⟩ := HF1.out
          exact ⟨n + 1, rfl, trivial, ⟨HBR.out.1, HBR.out.2.1⟩, f', h⟩
        case measure =>
          have := HBR.out.2.2
          simp only [intOf4]
          omega
    | none =>
      have hat : atI L n < 0 := (at_look L n).2 ho
      have hRn : n = R := by
        have h2 := H2.out
        rw [pick_at (by rw [abs_look, ho]; rfl)] at h2
        exact h2
      subst hRn
      have HAn := hid (HA.out wr HX.out n ho)
      have HZ : Hid (∀ w', AddP wr w' c n L → RPickI w w' c v M D L (aput (abs L) ⟨n, 0, []⟩) p a zs.tail) := fun w' h => by
        obtain ⟨v', L', r1, r2, r3⟩ := HX.out.added ⟨by omega, n2⟩ ho HM.out h
        have hsz := HB.out.size
        refine ⟨⟨v', L', r1, r2, fun k hk => (r3.foot k hk).imp_right fun h => by omega⟩, ?_, ?_⟩
        · refine ⟨r3.only.os.trans HB.out.os, r3.only.tape.trans HB.out.tape, r3.only.output.trans HB.out.output, Nat.le_trans hsz r3.only.size, fun k hk hkl => ?_⟩
          rw [r3.only.block k (fun h => hk (Or.inl h)) (by omega), HB.out.block k (fun h => hk (Or.inr h)) hkl]
        · obtain ⟨a', c', h1, h2⟩ := HD.out
          refine ⟨a', c', ⟨?_, ?_, h1.words⟩, h2⟩
          · exact (r3.only.block p (RF.ne HX.out h1.box (by decide) (by decide) (by decide) (by decide) (by decide)) (heap_lt h1.box)).trans h1.box
          · refine h1.row.keep fun b hb => ?_
            obtain ⟨cur, hc⟩ := h1.row.cells hb
            exact r3.only.block b (RF.ne HX.out hc (by decide) (by decide) (by decide) (by decide) (by decide)) (heap_lt hc)
      clear ho
      generalize atI L n = A at *
      go_wp2_with fail
      refine HIn.out.mono ?_
      rintro e w3 ⟨rfl, hw⟩
      subst w3
      go_wp2_with fail
      refine HAn.out.mono ?_
      rintro e w4 ⟨rfl, hA⟩
      go_wp2
      go_ret2
      exact ⟨rfl, HZ.out _ hA.out⟩
end Go.Proofs.Ythipdchdbdmmnaa
