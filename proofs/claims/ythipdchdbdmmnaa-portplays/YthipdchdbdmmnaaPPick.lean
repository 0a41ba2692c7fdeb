/-
  Port: Pick.
-/
import Derived.Test.YthipdchdbdmmnaaPActs
import Derived.Test.YthipdchdbdmmnaaPDSpan
namespace Go.Proofs.Ythipdchdbdmmnaa
open Go.RowKit
set_option linter.all false

/-! ### The first number that is free -/
def pickN (S : List Pa) : Nat → Int → Int
  | 0, n => n
  | f + 1, n => if (alook S n).isSome then pickN S f (behindI n) else n
def posI (a : Nat) : Int := 49152 + ((a % 16384 : Nat) : Int)
theorem posI_succ (a : Nat) : behindI (posI a) = posI (a + 1) := by unfold behindI posI; split <;> omega
theorem posI_rng (a : Nat) : 49152 ≤ posI a ∧ posI a ≤ 65535 := by unfold posI; omega
theorem posI_ne {a b : Nat} (h1 : a < b) (h2 : b < a + 16384) : posI b ≠ posI a := by unfold posI; omega
theorem posI_of {n : Int} (h : 49152 ≤ n ∧ n ≤ 65535) : ∃ a, n = posI a := ⟨(n - 49152).toNat, by unfold posI; omega⟩
theorem alook_del {S : List Pa} {i j : Int} (h : i ≠ j) : alook (adel S j) i = alook S i := by
  unfold alook adel
  rw [List.find?_filter]
  congr 1
  funext x
  by_cases e : x.n = i
  · simp [e, h]
  · simp [e]
theorem pick_del (S : List Pa) (a : Nat) : ∀ (f b : Nat), a < b → b + f < a + 16384 → pickN S f (posI b) = pickN (adel S (posI a)) f (posI b) ∧ pickN S f (posI b) ≠ posI a
  | 0, b, h1, h2 => ⟨rfl, posI_ne h1 (by omega)⟩
  | f + 1, b, h1, h2 => by
    have hne : posI b ≠ posI a := posI_ne h1 (by omega)
    simp only [pickN, alook_del hne, posI_succ]
    by_cases ho : (alook S (posI b)).isSome
    · rw [if_pos ho, if_pos ho]
      exact pick_del S a f (b + 1) (by omega) (by omega)
    · rw [if_neg ho, if_neg ho]
      exact ⟨rfl, hne⟩
theorem adel_len {S : List Pa} {i : Int} (h : (alook S i).isSome) : (adel S i).length < S.length := by
  obtain ⟨x, hx⟩ := Option.isSome_iff_exists.1 h
  unfold alook at hx
  have h1 := List.mem_of_find?_eq_some hx
  have h2 := List.find?_some hx
  unfold adel
  refine List.length_filter_lt_length_iff_exists.2 ⟨x, h1, ?_⟩
  simpa using h2
theorem pick_free : ∀ (f : Nat) (S : List Pa) (b : Nat), S.length ≤ f → f < 16384 → alook S (pickN S f (posI b)) = none
  | 0, S, b, h, _ => by
    have : S = [] := List.eq_nil_of_length_eq_zero (by omega)
    subst this
    rfl
  | f + 1, S, b, h, hf => by
    simp only [pickN]
    by_cases ho : (alook S (posI b)).isSome
    · rw [if_pos ho, posI_succ]
      obtain ⟨h1, h2⟩ := pick_del S b f (b + 1) (by omega) (by omega)
      have hl := adel_len ho
      have h3 := pick_free f (adel S (posI b)) (b + 1) (by omega) (by omega)
      rw [← h1, alook_del h2] at h3
      exact h3
    · rw [if_neg ho]
      simpa using ho
theorem pick_rng (S : List Pa) : ∀ (f : Nat) (n : Int), 49152 ≤ n ∧ n ≤ 65535 → 49152 ≤ pickN S f n ∧ pickN S f n ≤ 65535
  | 0, n, h => h
  | f + 1, n, h => by
    simp only [pickN]
    split
    · exact pick_rng S f _ (by unfold behindI; split <;> omega)
    · exact h
theorem pick_at {S : List Pa} {f : Nat} {n : Int} (h : alook S n = none) : pickN S f n = n := by
  cases f <;> simp [pickN, h]
/-- what Pick answers. -/
def pickR (S : List Pa) (zs : List Int) : Int := pickN S 16 (49152 + hd0 zs % 16384)
theorem pickR_free {S : List Pa} (h : S.length ≤ 16) {zs : List Int} (hz : Words zs) : alook S (pickR S zs) = none ∧ 49152 ≤ pickR S zs ∧ pickR S zs ≤ 65535 := by
  have h1 := hd0_words hz
  have h2 : 49152 ≤ 49152 + hd0 zs % 16384 ∧ 49152 + hd0 zs % 16384 ≤ 65535 := by omega
  refine ⟨?_, pick_rng S 16 _ h2⟩
  unfold pickR
  obtain ⟨a, ha⟩ := posI_of h2
  rw [ha]
  exact pick_free 16 S a h (by omega)
/-- a table behind a call that turned a block besides (a dice). -/
theorem drewN_size (w : World) (k : Nat) : (w.drewN k).heap.size = w.heap.size := rfl
def intOf4 : Value → Int | .int _ q => q | _ => 0
/-- what Pick leaves: the table, the dice. -/
structure PickI (w w' : World) (c m : Nat) (M D : Int) (L : List Ab) (S : List Pa) (p : Nat) (a : Option Addr) (zs : List Int) : Prop where
  tab : ∃ L', PoW w' c m M D L' ∧ abs L' = S ∧ (∀ k, PK m L' k → PK m L k ∨ w.heap.size ≤ k) ∧ (∀ k, k ∈ L'.flatMap (fun x => dblk x.ds) → k ∈ L.flatMap (fun x => dblk x.ds) ∨ w.heap.size ≤ k)
  only : Only (fun k => PK m L k ∨ k = p) w w'
  dice : ∃ a' c', DiceW 92 w' p a' c' zs ∧ blk a' = blk a
set_option maxHeartbeats 2000000 in
theorem ppick_no (c m : Nat) (M D : Int) (L : List Ab) (p : Nat) (w : World) (x : PoW w c m M D L) (hf : ((abs L).length : Int) = M) :
    Calls Try.prog 18 #[.pointer (some ⟨c, 0, none⟩), .pointer (some ⟨p, 0, none⟩)] w fun e w' => e = .returned (.tuple #[.int .i64 0, .int .i64 3]) ∧ ∃ k, w' = w.drewN k := by
  have HF := hid (full_any c m M D L w x)
  rw [abs_len] at hf
  rw [decide_eq_true hf] at HF
  clear x hf
  go_enter Try.func18, Try.ntmps18
  go_wp2_with (first
    | (go_at_call 43; refine HF.out.mono ?_; rintro e w1 ⟨rfl, k, rfl⟩))
  go_ret2
  exact ⟨rfl, k, rfl⟩
theorem PK.ne {w : World} {c m : Nat} {M D : Int} {L : List Ab} (x : PoW w c m M D L) {p : Nat} {C : Array Value} {t : TypeId} {f : Nat × Nat} (hp : w.heap[p]? = some (.cells C t f)) (h1 : t ≠ 85) (h2 : t ≠ 53) : ¬ PK m L p := by
  rintro (rfl | ⟨y, hy, rfl | hq⟩)
  · obtain ⟨es, clock, hm, _⟩ := x.map
    rw [hm] at hp; simp at hp
  · rw [(x.ents y hy).box] at hp; simp only [Option.some.injEq, Obj.cells.injEq] at hp; exact h1 hp.2.1.symm
  · obtain ⟨cur, hc⟩ := (x.ents y hy).row.obj hq
    rw [hc] at hp; simp only [Option.some.injEq, Obj.cells.injEq] at hp; exact h2 hp.2.1.symm
/-- no block of a table is a dice's box. -/
theorem PF.ne {w : World} {c m : Nat} {M D : Int} {L : List Ab} (x : PoW w c m M D L) {p : Nat} {C : Array Value} {f : Nat × Nat} (hp : w.heap[p]? = some (.cells C 92 f)) : ∀ k, PF c m L k → k ≠ p := by
  rintro k (rfl | hk | hk) rfl
  · rw [x.box] at hp; simp only [Option.some.injEq, Obj.cells.injEq] at hp; exact absurd hp.2.1 (by decide)
  · exact PK.ne x hp (by decide) (by decide) hk
  · obtain ⟨y, hy, hk⟩ := List.mem_flatMap.1 hk
    obtain ⟨d, hd, hg⟩ := mem_dblk.1 hk
    obtain ⟨cur, f, hc⟩ := ((x.ents y hy).data d hd).obj hg
    rw [hc] at hp; simp only [Option.some.injEq, Obj.cells.injEq] at hp; exact absurd hp.2.1 (by decide)
theorem PoW.useI {w w' : World} {c m : Nat} {M D : Int} {L : List Ab} (x : PoW w c m M D L) {p : Nat} {a : Option Addr} {zs : List Int} {C : Array Value} {f : Nat × Nat} (hp : w.heap[p]? = some (.cells C 92 f)) (h : But p w w') : PoW w' c m M D L :=
  x.keep fun k hk => h.block k (PF.ne x hp k hk) (x.lt k hk)
set_option maxHeartbeats 4000000 in
theorem ppick_yes (c m : Nat) (M D : Int) (L : List Ab) (p : Nat) (a : Option Addr) (cp : Nat) (zs : List Int) (w : World) (x : PoW w c m M D L) (d : DiceW 92 w p a cp zs) (hl : zs.length ≤ maxLen) (hf : ((abs L).length : Int) ≠ M) :
    Calls Try.prog 18 #[.pointer (some ⟨c, 0, none⟩), .pointer (some ⟨p, 0, none⟩)] w fun e w' => e = .returned (.tuple #[.int .i64 (pickR (abs L) zs), .int .i64 0]) ∧ Hid (PickI w w' c m M D L (aput (abs L) ⟨pickR (abs L) zs, 0, []⟩) p a zs.tail) := by
  have HF := hid (full_any c m M D L w x)
  have hfree := pickR_free (S := abs L) (by have := x.len; have := x.most; rw [abs_len]; omega) d.words
  obtain ⟨R, hR⟩ : ∃ R, R = pickR (abs L) zs := ⟨_, rfl⟩
  rw [← hR] at hfree ⊢
  rw [abs_len] at hf
  rw [decide_eq_false hf] at HF
  have HP : Hid (∀ k, Calls Try.prog 44 #[.pointer (some ⟨p, 0, none⟩)] (w.drewN k) fun e w' => e = .returned (.int .i64 (49152 + hd0 zs % 16384)) ∧ Hid (PoW w' c m M D L) ∧ Hid (But p w w') ∧ Hid (∃ a' c', DiceW 92 w' p a' c' zs.tail ∧ blk a' = blk a)) := fun k =>
    (port_any p a cp zs (w.drewN k) ⟨d.box, d.row.below (below_drewN w k), d.words⟩ hl).mono fun e w' ⟨h1, h2⟩ => by
      obtain ⟨a', c', h3, h4, h5⟩ := h2.out
      have h6 : But p w w' := (But.drewN p w k).trans h5
      exact ⟨h1, x.useI (zs := zs) (a := a) d.box h6, h6, a', c', h3, h4⟩
  have HI : Hid (∀ w', PoW w' c m M D L → ∀ n, 49152 ≤ n ∧ n ≤ 65535 → Calls Try.prog 42 #[.pointer (some ⟨c, 0, none⟩), .int .i64 n] w' fun e w1 => e = .returned (.bool (look L n).isSome) ∧ w1 = w') := fun w' x' n hn => isOpen_any c m M D L n w' x' (by unfold ipOk; omega)
  have HN : Hid (49152 ≤ 49152 + hd0 zs % 16384 ∧ 49152 + hd0 zs % 16384 ≤ 65535) := by have := hd0_words d.words; unfold Hid; omega
  have HR0 : Hid (pickN (abs L) 16 (49152 + hd0 zs % 16384) = R) := hR.symm
  have HFR := hid hfree
  have HM := hid hf
  have HWT := hid d.words.tail
  have HDL := hid (heap_lt d.box)
  clear x d hl hf hfree hR
  generalize 49152 + hd0 zs % 16384 = n0 at *
  go_enter Try.func18, Try.ntmps18
  go_wp2_with (first
    | (go_at_call 43; refine HF.out.mono ?_; rintro e w1 ⟨rfl, k, rfl⟩)
    | (go_at_call 44; refine (HP.out k).mono ?_; rintro e w2 ⟨rfl, HX, HB, HD⟩))
  go_loopw [6] (fun v wr => ∃ n : Int, v = .int .i64 n ∧ wr = w2 ∧ Hid (49152 ≤ n ∧ n ≤ 65535) ∧ ∃ f, Hid (pickN (abs L) f n = R)) (fun v _ => ((R - intOf4 v) % 16384).toNat)
  case atStart => exact ⟨n0, rfl, rfl, HN, 16, HR0⟩
  case round =>
    obtain ⟨n, rfl, rfl, H1, f, H2⟩ := hrel
    have n1 := H1.out.1
    have n2 := H1.out.2
    have HIn := hid (HI.out wr HX.out n H1.out)
    by_cases ho : (look L n).isSome = true
    · rw [ho] at HIn
      have HB2 := hid (behind_any n wr ⟨by omega, n2⟩)
      have hne : n ≠ R := fun e => by
        have := HFR.out.1
        rw [← e, abs_look] at this
        cases h : look L n <;> simp [h] at ho this
      have hf1 : ∃ f', pickN (abs L) f' (behindI n) = R := by
        have h2 := H2.out
        cases f with
        | zero => exact absurd h2 hne
        | succ f =>
          refine ⟨f, ?_⟩
          rw [pickN, if_pos (by rw [abs_look, Option.isSome_map]; exact ho)] at h2
          exact h2
      have HNE := hid hne
      have HF1 := hid hf1
      have HBR : Hid (49152 ≤ behindI n ∧ behindI n ≤ 65535 ∧ (R - behindI n) % 16384 < (R - n) % 16384) := by
        have := HFR.out.2
        unfold Hid behindI
        split <;> omega
      clear hne hf1
      generalize behindI n = n' at *
      go_wp2_with (first
        | (go_at_call 42; refine HIn.out.mono ?_; rintro e w3 ⟨rfl, rfl⟩)
        | (go_at_call 45; refine HB2.out.mono ?_; rintro e w3 ⟨rfl, rfl⟩))
      go_roundw
      case rel =>
        obtain ⟨f', h⟩ := HF1.out
        exact ⟨n', rfl, trivial, ⟨HBR.out.1, HBR.out.2.1⟩, f', h⟩
      case measure =>
        have := HBR.out.2.2
        simp only [intOf4]
        omega
    · rw [Bool.eq_false_iff.2 ho] at HIn
      have hnone : look L n = none := by simpa using ho
      have hRn : n = R := by
        have h2 := H2.out
        rw [pick_at (by rw [abs_look, hnone]; rfl)] at h2
        exact h2
      subst hRn
      obtain ⟨w5, hup, hz⟩ := HX.out.addRun ⟨by omega, n2⟩ hnone HM.out
      have c2 := HX.out.cells.2.2
      have HZ := hid hz
      clear hz hnone ho
      go_wp2_with (first
        | (go_at_call 42; refine HIn.out.mono ?_; rintro e w3 ⟨rfl, rfl⟩))
      go_ret2
      obtain ⟨L', z1, z2, z3⟩ := HZ.out
      have hsz := HB.out.size
      refine ⟨rfl, ⟨L', z1, z2, fun k hk => (z3.foot k hk).imp_right fun h => by omega, fun k hk => (z3.data k hk).imp_right fun h => by omega⟩, ?_, ?_⟩
      · refine ⟨z3.only.os.trans HB.out.os, z3.only.tape.trans HB.out.tape, z3.only.output.trans HB.out.output, Nat.le_trans hsz z3.only.size, fun k hk hkl => ?_⟩
        rw [z3.only.block k (fun h => hk (Or.inl h)) (by omega), HB.out.block k (fun h => hk (Or.inr h)) hkl]
      · obtain ⟨a', c', h1, h2⟩ := HD.out
        refine ⟨a', c', ⟨?_, ?_, h1.words⟩, h2⟩
        · exact (z3.only.block p (PK.ne HX.out h1.box (by decide) (by decide)) (heap_lt h1.box)).trans h1.box
        · refine h1.row.keep fun b hb => ?_
          obtain ⟨cur, hc⟩ := h1.row.cells hb
          exact z3.only.block b (PK.ne HX.out hc (by decide) (by decide)) (heap_lt hc)
end Go.Proofs.Ythipdchdbdmmnaa
