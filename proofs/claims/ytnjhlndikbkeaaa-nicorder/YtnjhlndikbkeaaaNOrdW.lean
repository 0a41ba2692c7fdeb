/-
  The walk of the statement NicOrder.
-/
import Derived.Test.YtnjhlndikbkeaaaFRefMineJ
namespace Go.Proofs.Ytnjhlndikbkeaaa
open Go.RowKit
set_option linter.all false

set_option maxRecDepth 20000 in
set_option maxHeartbeats 40000000 in
theorem order_yes (n m : Nat) (own : Mac) (a : Option Addr) (cc : Nat) (xs : List OpN) (w : World) (ho : own.ok) (hn1 : 1 ≤ n) (hn : n ≤ 64) (hm1 : 1 ≤ m) (hm : m ≤ 64) (hops : OpsN w a xs) (hsz : xs.length * 80 ≤ 140737488351232 ∧ ∀ i, i < xs.length → (xs.getD i OpN.nil).pt.zs.length ≤ 140737488351232 ∧ (xs.getD i OpN.nil).sp.zs.length ≤ 140737488351232) :
    Calls Try.prog 5 #[.int .i64 n, .int .i64 m, own.val, .slice a xs.length cc] w fun e w' => e = .returned (.bool true) ∧ Below w.heap.size w w' := by
  have HOPS := hid hops
  have HSZ := hid hsz.2
  have HO := hid ho
  have hN0 : xs.length ≤ 1759218604390 := by omega
  obtain ⟨L, hL⟩ : ∃ L, L = xs.length := ⟨_, rfl⟩
  have HL := hid hL
  rw [← hL] at hN0 ⊢
  clear hops hsz hL ho
  have HNN : Hid (∀ (c g h : Nat) (w' : World), CardW w' c g h (CS.new n m) → Calls Try.prog 9 #[.pointer (some ⟨c, 0, none⟩), own.val] w' fun e w'' => ∃ q, e = .returned (.pointer (some ⟨q, 0, none⟩)) ∧ NicW w'' q own c g h n m (CS.new n m) NS.new ∧ w'.heap.size ≤ q ∧ Below w'.heap.size w' w'') := fun c g h w' x => by
    have := nnew_yes own c g h (CS.new n m) w' x
    simpa [CS.new] using this
  have hov : own.val = .agg #[.int .u8 own.b0, .int .u8 own.b1, .int .u8 own.b2, .int .u8 own.b3, .int .u8 own.b4, .int .u8 own.b5] := rfl
  rw [hov] at HNN ⊢
  clear hov
  go_enter Try.func5, Try.ntmps5
  go_wp2_with fail
  refine (nlive_any _).mono ?_
  rintro e w1 ⟨rfl, hb1⟩
  have HB1 := hid (bstep (balloc w _) hb1)
  have HA1 := hid (kept (heap_new w (.cells #[.int .u8 own.b0, .int .u8 own.b1, .int .u8 own.b2, .int .u8 own.b3, .int .u8 own.b4, .int .u8 own.b5] 24)) hb1)
  have hw1 : w.heap.size < w1.heap.size := heap_lt HA1.out
  clear hb1
  go_wp2_with fail
  refine (new_yes n m w1 hn1 hn hm1 hm).mono ?_
  rintro e w2 ⟨c, g, h, rfl, hx2, hk2, hb2⟩
  have HX2 := hid hx2
  have HK2 := hid hk2
  have HB2 := hid (bstep HB1.out hb2)
  have HA2 := hid (kept HA1.out hb2)
  have ha2 : ∀ o, w2.cell? ⟨w.heap.size, o, none⟩ = (#[.int .u8 own.b0, .int .u8 own.b1, .int .u8 own.b2, .int .u8 own.b3, .int .u8 own.b4, .int .u8 own.b5] : Array Value)[o]? := fun o => cell_of_heap HA2.out o
  have hw2 : w.heap.size < w2.heap.size := heap_lt HA2.out
  clear hx2 hk2 hb2
  go_wp2_with fail
  refine (HNN.out c g h _ HX2.out).mono ?_
  rintro e w3 ⟨q, rfl, hx3, hq3, hb3⟩
  have HA3 := hid (kept HA2.out hb3)
  have HNA : Hid (¬ NicK q c g h w.heap.size) := by
    rintro (e | hk)
    · omega
    · have := HK2.out _ hk; omega
  have HI3 : Hid (OrdI w w3 n m q own c g h (CS.new n m) NS.new (.slice none 0 0) (.slice none 0 0) [] [] L 0) := ⟨⟨[], [], 0, 0, ⟨hx3, Win.new n false (by omega), Win.new m true (by omega), by simp [CS.new], by simp [CS.new], by simp [NS.new], by simp [NS.new], by simp [CS.new], by simp [CS.new], by simp [CS.new], by simp [CS.new, NS.new, free_new], by simp [NS.new]⟩, by simp, by simp, by omega⟩, ⟨RowO.nil _ _, RowO.nil _ _, by simp [Value.ownBlock], by simp [Value.ownBlock], by simp [Value.ownBlock], by simp, by simp, fun k hk => ⟨by
    rcases hk with rfl | hk
    · omega
    · have := HK2.out k hk; omega, hx3.lt k hk⟩, bstep HB2.out hb3⟩⟩
  clear hx3 hq3 hb3 HB1 HB2 HA1 HA2 HX2 HK2 hw1 hw2 ha2 HNN
  go_wp2_with fail
  go_loopw [13, 14, 15] (fun iv ov i wr => ∃ (k : Nat) (S : CS) (N : NS) (ai : Option Addr) (ci : Nat) (ao : Option Addr) (co : Nat) (inP : List Part) (outP : List (Value × List Int)), k ≤ L + 2 ∧ i = .int .i64 k ∧ iv = .slice ai inP.length ci ∧ ov = .slice ao outP.length co ∧ Hid (OrdI w wr n m q own c g h S N (.slice ai inP.length ci) (.slice ao outP.length co) inP outP L k) ∧ Hid (wr.heap[w.heap.size]? = some (.cells #[.int .u8 own.b0, .int .u8 own.b1, .int .u8 own.b2, .int .u8 own.b3, .int .u8 own.b4, .int .u8 own.b5] 24 (0, 0)))) (fun _ _ i _ => L + 2 - (intOf i).toNat)
  case atStart => exact ⟨0, _, _, none, 0, none, 0, [], [], by omega, rfl, rfl, rfl, HI3, HA3⟩
  case round =>
    obtain ⟨k, S, N, ai, ci, ao, co, inP, outP, hk, rfl, rfl, rfl, HI, HA⟩ := hrel
    clear HI3 HA3
    by_cases hlt : k < L
    · have hlt2 : (k : Int) < L := by omega
      have hlt3 : (k : Int) < L + 2 := by omega
      obtain ⟨b, o, ha, he, hok⟩ := HOPS.out k (by rw [← HL.out]; exact hlt)
      have hzl := HSZ.out k (by rw [← HL.out]; exact hlt)
      subst ha
      generalize xs.getD k OpN.nil = qq at he hok hzl
      obtain ⟨kd, ki, pt, ⟨d0, d1, d2, d3, d4, d5⟩, sk, sp⟩ := qq
      have hee : ∀ t u, (OpN.cs ⟨kd, ki, pt, ⟨d0, d1, d2, d3, d4, d5⟩, sk, sp⟩)[t]? = some u → wr.cell? ⟨b, o + k * 11 + t, none⟩ = some u := fun t u ht => cell_below HI.out.mem.bel (he t u ht)
      have HOKW := hid hok
      have hkd := hok.1
      have hki := hok.2.1
      have hskb := hok.2.2.2.2.1
      clear he hok
      obtain ⟨pa, pc, pz⟩ := pt
      obtain ⟨sa, sc, sz⟩ := sp
      simp only at hzl hkd hki hskb
      have e0 := hee 0 _ rfl
      have e1 := hee 1 _ rfl
      have e2 := hee 2 _ rfl
      have e3 := hee 3 _ rfl
      have e4 := hee 4 _ rfl
      have e5 := hee 5 _ rfl
      have e6 := hee 6 _ rfl
      have e7 := hee 7 _ rfl
      have e8 := hee 8 _ rfl
      have e9 := hee 9 _ rfl
      have e10 := hee 10 _ rfl
      clear hee
      simp only [Part.val, Nat.add_zero] at e0 e1 e2 e3 e4 e5 e6 e7 e8 e9 e10
      obtain ⟨pl, hpl⟩ : ∃ pl, pl = pz.length := ⟨_, rfl⟩
      obtain ⟨sl, hsl⟩ : ∃ sl, sl = sz.length := ⟨_, rfl⟩
      rw [← hpl] at e2 hzl
      rw [← hsl] at e10 hzl
      have HPL := hid hpl
      have HSL := hid hsl
      obtain ⟨hzl1, hzl2⟩ := hzl
      clear hpl hsl
      have hbl : b < wr.heap.size := World.block_lt_of_cell? wr _ e0
      have HIA := hid (HI.out.below (balloc wr (.cells #[.int .i64 kd, .int .i64 ki, .slice pa pl pc, .int .u8 d0, .int .u8 d1, .int .u8 d2, .int .u8 d3, .int .u8 d4, .int .u8 d5, .int .i64 sk, .slice sa sl sc] 47)))
      have HAA : Hid (∀ W, Below wr.heap.size wr W → W.heap[w.heap.size]? = some (.cells #[.int .u8 own.b0, .int .u8 own.b1, .int .u8 own.b2, .int .u8 own.b3, .int .u8 own.b4, .int .u8 own.b5] 24 (0, 0))) := fun W hb => kept HA.out hb
      obtain ⟨⟨came, laid, got, gone, hc, hin, hout, hfin⟩, hmem⟩ := HIA.out
      have HC := hid hc
      have HIN := hid hin
      have HOUT := hid hout
      have HM := hid hmem
      have HGN : Hid (∀ W, Only (NicK q c g h) (wr.alloc (.cells #[.int .i64 kd, .int .i64 ki, .slice pa pl pc, .int .u8 d0, .int .u8 d1, .int .u8 d2, .int .u8 d3, .int .u8 d4, .int .u8 d5, .int .i64 sk, .slice sa sl sc] 47)) W → W.heap[w.heap.size]? = some (.cells #[.int .u8 own.b0, .int .u8 own.b1, .int .u8 own.b2, .int .u8 own.b3, .int .u8 own.b4, .int .u8 own.b5] 24 (0, 0)) ∧ W.heap[wr.heap.size]? = some (.cells #[.int .i64 kd, .int .i64 ki, .slice pa pl pc, .int .u8 d0, .int .u8 d1, .int .u8 d2, .int .u8 d3, .int .u8 d4, .int .u8 d5, .int .i64 sk, .slice sa sl sc] 47 (0, 0))) := fun W hW => ⟨(hW.block _ HNA.out (heap_lt (HAA.out _ (balloc wr _)))).trans (HAA.out _ (balloc wr _)), (hW.block _ (fun hk => by have := (HI.out.mem.kin _ hk).2; omega) (by simp)).trans (heap_new wr _)⟩
      have hki2 : k < 4398046511104 := by omega
      clear hc hin hout hmem hfin
      by_cases k1 : kd = 1
      · subst k1
        as_aux_lemma =>
          have HARR := hid (ord_arrive HC.out hki2 ⟨pa, pc, pz⟩ (Part.ok_below HOKW.out.2.2.1 HM.out.bel) pl HPL.out.symm hzl1)
          have HOPN : Hid (∀ W, Below w.heap.size w W → Calls Try.prog 15 #[.slice pa pl pc] W fun e w'' => ∃ a n c, e = .returned (.tuple #[frameV (openR pz).d (openR pz).s (openR pz).k (.slice a n c), .int .i64 (openR pz).er]) ∧ Ans W w'' (openR pz).ys a n c) := fun W hb => by
            have := refOpen_u ⟨pa, pc, pz⟩ W (Part.ok_below HOKW.out.2.2.1 hb) (by simp only; rw [← HPL.out]; exact hzl1)
            rw [HPL.out]
            exact this
          have hzo := openR_ok pz HOKW.out.2.2.1.1
          have HMI : Hid (∀ a l c' W, Calls Try.prog 16 #[own.val, frameV (openR pz).d (openR pz).s (openR pz).k (.slice a l c')] W fun e w'' => e = .returned (.bool (mineB own (openR pz).d (openR pz).s)) ∧ Below W.heap.size W w'') := fun a l c' W => refMine_any own _ _ _ a l c' W HO.out hzo.1 hzo.2.1
          have HGB : Hid (goodB own pz = (decide ((openR pz).er = 0) && mineB own (openR pz).d (openR pz).s)) := rfl
          obtain ⟨GB, hGB⟩ : ∃ GB, GB = goodB own pz := ⟨_, rfl⟩
          have HGE := hid hGB
          rw [← hGB] at HGB
          generalize mineB own (openR pz).d (openR pz).s = MB at *
          generalize openR pz = R at *
          obtain ⟨⟨f0, f1, f2, f3, f4, f5⟩, ⟨t0, t1, t2, t3, t4, t5⟩, rk, ys, er⟩ := R
          simp only [frameV, Mac.val] at HOPN HMI HGB
          clear hzo hGB
          go_wp2_with fail
          refine HARR.out.mono ?_
          rintro e w4 ⟨z, S4, came4, rfl, hcm, hc4, ho4⟩
          have HC4 := hid hc4
          have HM4 := hid (HM.out.only ho4)
          have HCM := hid hcm
          have HOB4 := hid (HGN.out w4 ho4).2
          have hob : ∀ o, w4.cell? ⟨wr.heap.size, o, none⟩ = (#[.int .i64 1, .int .i64 ki, .slice pa pl pc, .int .u8 d0, .int .u8 d1, .int .u8 d2, .int .u8 d3, .int .u8 d4, .int .u8 d5, .int .i64 sk, .slice sa sl sc] : Array Value)[o]? := fun o => cell_of_heap HOB4.out o
          have HOW4 := hid (HGN.out w4 ho4).1
          have hl4 : wr.heap.size < w4.heap.size := by have := ho4.size; simp at this; omega
          clear hc4 ho4 hcm HARR
          go_wp2_with fail
          refine (HOPN.out _ HM4.out.bel).mono ?_
          rintro e w5 ⟨fa, fl, fc, rfl, _, _, hb5⟩
          have HB5 := hid (bpush hb5 (.cells #[.int .u8 f0, .int .u8 f1, .int .u8 f2, .int .u8 f3, .int .u8 f4, .int .u8 f5, .int .u8 t0, .int .u8 t1, .int .u8 t2, .int .u8 t3, .int .u8 t4, .int .u8 t5, .int .i64 rk, .slice fa fl fc] 51))
          have hown5 : ∀ o, w5.cell? ⟨w.heap.size, o, none⟩ = (#[.int .u8 own.b0, .int .u8 own.b1, .int .u8 own.b2, .int .u8 own.b3, .int .u8 own.b4, .int .u8 own.b5] : Array Value)[o]? := fun o => cell_of_heap (kept HOW4.out hb5) o
          have hol5 : w.heap.size < w5.heap.size := heap_lt (kept HOW4.out hb5)
          clear hb5 hob
          go_wp2_with fail
          refine (HMI.out _ _ _ _).mono ?_
          rintro e w6 ⟨rfl, hb6⟩
          have HB6 := hid (bstep HB5.out hb6)
          have HM6 := hid (HM4.out.below HB6.out)
          have HC6 := hid (HC4.out.below HB6.out)
          have HA6 := hid (kept HOW4.out HB6.out)
          have hob6 : ∀ o, w6.cell? ⟨wr.heap.size, o, none⟩ = (#[.int .i64 1, .int .i64 ki, .slice pa pl pc, .int .u8 d0, .int .u8 d1, .int .u8 d2, .int .u8 d3, .int .u8 d4, .int .u8 d5, .int .i64 sk, .slice sa sl sc] : Array Value)[o]? := fun o => cell_of_heap (kept HOB4.out HB6.out) o
          have hol6 : wr.heap.size < w6.heap.size := heap_lt (kept HOB4.out HB6.out)
          have HLO := hid HC.out.rx.lo1
          have hil : inP.length ≤ 64 := by
            have h1 := congrArg List.length HIN.out
            have h2 := List.length_filter_le (goodB own) (came.drop got)
            have h3 := HC.out.rx.hi
            simp at h1 h2
            omega
          clear hb6 HB5 hown5
          have HINN : Hid (z = false ∨ GB = false → inP.map Part.zs = (came4.drop got).filter (goodB own)) := fun hh => by
            rw [HCM.out, HIN.out]
            cases z with
            | false => rfl
            | true =>
              rw [if_pos rfl, List.drop_append_of_le_length HLO.out, List.filter_append]
              have : goodB own pz = false := by rw [← HGE.out]; simpa using hh
              simp [this]
          cases z with
          | false =>
            replace HINN := hid (HINN.out (Or.inl rfl))
            go_wp2
            go_roundw
            case rel => exact ⟨k + 1, S4, N, ai, ci, ao, co, inP, outP, by omega, by go_num, rfl, rfl, ⟨⟨came4, laid, got, gone, HC6.out, HINN.out, HOUT.out, by omega⟩, HM6.out⟩, HA6⟩
            case measure => simp [intOf]; omega
          | true =>
            by_cases her : er = 0
            · subst her
              cases MB with
              | false =>
                replace HINN := hid (HINN.out (Or.inr (by rw [HGB.out]; simp)))
                go_wp2
                go_roundw
                case rel => exact ⟨k + 1, S4, N, ai, ci, ao, co, inP, outP, by omega, by go_num, rfl, rfl, ⟨⟨came4, laid, got, gone, HC6.out, HINN.out, HOUT.out, by omega⟩, HM6.out⟩, HA6⟩
                case measure => simp [intOf]; omega
              | true =>
                obtain ⟨gv, off, cp, w7, hrun, hm7, hk7, hj7⟩ := HM6.out.pushI ⟨pa, pc, pz⟩ HOKW.out.2.2.1 (by omega)
                simp only [Part.val] at hrun
                rw [← HPL.out] at hrun
                have HRUN := hid hrun
                have HM7 := hid hm7
                have HC7 := hid (HC6.out.keep hk7)
                have HA7 : Hid (w7.heap[w.heap.size]? = some (.cells #[.int .u8 own.b0, .int .u8 own.b1, .int .u8 own.b2, .int .u8 own.b3, .int .u8 own.b4, .int .u8 own.b5] 24 (0, 0))) := (hj7 _ (heap_lt HA6.out) (HM6.out.ir.not HA6.out (by decide))).trans HA6.out
                clear hrun hm7 hk7 hj7
                go_wp2_with (first
                  | (at_builtin; refine wpList_append_run _ rfl _ _ 32 32 rfl _ _ rfl rfl HRUN.out ?_))
                go_roundw
                case rel =>
                  refine ⟨k + 1, S4, N, _, cp, ao, co, inP ++ [⟨pa, pc, pz⟩], outP, by omega, by go_num, by simp; rfl, rfl, ⟨⟨came4, laid, got, gone, HC7.out, ?_, HOUT.out, by omega⟩, by simpa using HM7.out⟩, HA7⟩
                  have hg : goodB own pz = true := by rw [← HGE.out, HGB.out]; simp
                  have hcm4 : came4 = came ++ [pz] := by simpa using HCM.out
                  rw [hcm4, List.drop_append_of_le_length HLO.out, List.filter_append, List.map_append, HIN.out]
                  simp [hg]
                case measure => simp [intOf]; omega
            · have her2 : (er == (0 : Int)) = false := by simpa using her
              replace HINN := hid (HINN.out (Or.inr (by rw [HGB.out]; simp [her])))
              go_wp2
              go_roundw
              case rel => exact ⟨k + 1, S4, N, ai, ci, ao, co, inP, outP, by omega, by go_num, rfl, rfl, ⟨⟨came4, laid, got, gone, HC6.out, HINN.out, HOUT.out, by omega⟩, HM6.out⟩, HA6⟩
              case measure => simp [intOf]; omega
      · by_cases k2 : kd = 2
        · subst k2
          as_aux_lemma =>
            have HDEP := hid (ord_depart HC.out hki2)
            by_cases hr : gone < laid.length
            · have hdrop := HC.out.tx.at hr
              obtain ⟨⟨v0, z0⟩, oR, hoR⟩ : ∃ p r, outP = p :: r := by
                cases outP with
                | nil => have := HOUT.out; rw [hdrop] at this; simp at this
                | cons p r => exact ⟨p, r, rfl⟩
              subst hoR
              have hz0 := HOUT.out
              rw [hdrop] at hz0
              simp only [List.map_cons, List.cons.injEq] at hz0
              obtain ⟨hz0, hrest⟩ := hz0
              subst hz0
              have HREST := hid hrest
              obtain ⟨a0, c0, hv0, _⟩ := (HM.out.op (v0, _) List.mem_cons_self).1.form
              simp only at hv0
              subst hv0
              obtain ⟨g0, off0, hao, _⟩ := HM.out.orr.cell 0 _ rfl
              subst hao
              have hform := HM.out.orr.form
              simp only [List.length_map, List.length_cons] at hform
              simp only [List.length_cons] at HM ⊢
              obtain ⟨l0, hl0⟩ : ∃ l0, l0 = (u8s (laid.getD gone [])).length := ⟨_, rfl⟩
              have HL0 := hid hl0
              rw [← hl0] at HM
              clear hdrop hrest hl0
              go_wp2_with fail
              refine HDEP.out.mono ?_
              rintro e w5 (⟨_, g', l', S5, rfl, hl5, hv5, hz5, hc5, ho5⟩ | ⟨hn, _⟩)
              rotate_left
              · exact absurd hr hn
              have HM5 := hid (HM.out.only ho5)
              have HC5 := hid hc5
              have HA5 := hid (HGN.out w5 ho5).1
              have hcell5 : w5.cell? ⟨g0, off0, none⟩ = some (.slice a0 l0 c0) := by
                obtain ⟨g9, o9, e9, h9⟩ := HM5.out.orr.cell 0 _ rfl
                simp only [Option.some.injEq, Addr.mk.injEq, and_true] at e9
                obtain ⟨rfl, rfl⟩ := e9
                exact h9
              have hcv1 : ∀ z, (convert 43 9 (.slice (some ⟨g', 0, none⟩) l' l')).run Try.prog (w5.drewN z) = .ok (.string (strOfNums (laid.getD gone []))) (w5.drewN z) := fun z => by
                have := conv_part ⟨some ⟨g', 0, none⟩, l', laid.getD gone []⟩ (w5.drewN z) (Part.ok_drewN (Part.of_row hv5 (by rw [hl5]; exact Nat.le_refl _) hz5) z)
                unfold Part.val at this
                simp only [← hl5] at this
                exact this
              have hcv2 : ∀ z, (convert 43 9 (.slice a0 l0 c0)).run Try.prog (w5.drewN z) = .ok (.string (strOfNums (laid.getD gone []))) (w5.drewN z) := fun z => (HM5.out.op _ List.mem_cons_self).1.conv (HM5.out.op _ List.mem_cons_self).2.1 z
              generalize strOfNums (laid.getD gone []) = SX at hcv1 hcv2
              clear hl5 hv5 hz5 hc5 ho5
              go_wp2_with fail
              go_quiet (fail)
              have hco : co = 1 ∨ ¬ co = 1 := Classical.em _
              rcases hco with hco | hco
              · subst hco
                have hnil : oR = [] := List.length_eq_zero_iff.1 (by omega)
                have HNIL := hid hnil
                clear hnil
                go_wp2
                go_roundw
                case rel =>
                  have hrest := HREST.out
                  rw [HNIL.out] at hrest
                  exact ⟨k + 1, S5, N, ai, ci, some ⟨g0, off0, none⟩, 0, inP, [], by omega, by go_num, rfl, rfl, ⟨⟨came, laid, got, gone + 1, HC5.out.below (drewN_below _ _), HIN.out, hrest, by omega⟩, (HM5.out.toO (OV' := .slice (some ⟨g0, off0, none⟩) 0 0) (outP' := []) HM5.out.orr.over (fun b hb => hb) (by simp)).below (drewN_below _ _)⟩, HA5⟩
                case measure => simp [intOf]; omega
              · go_wp2
                go_roundw
                case rel =>
                  have hd := HM5.out.orr.drop 1 (by omega)
                  simp only [List.map_cons, List.drop_succ_cons, List.drop_zero, Nat.add_sub_cancel] at hd
                  exact ⟨k + 1, S5, N, ai, ci, some ⟨g0, off0 + 1, none⟩, co - 1, inP, oR, by omega, by go_num, rfl, rfl, ⟨⟨came, laid, got, gone + 1, HC5.out.below (drewN_below _ _), HIN.out, HREST.out, by omega⟩, (HM5.out.toO (OV' := .slice (some ⟨g0, off0 + 1, none⟩) oR.length (co - 1)) (outP' := oR) hd (fun b hb => hb) (fun p hp => List.mem_cons_of_mem _ hp)).below (drewN_below _ _)⟩, HA5⟩
                case measure => simp [intOf]; omega
            · have hnil : outP = [] := by
                have := congrArg List.length HOUT.out
                simp at this
                exact List.length_eq_zero_iff.1 (by omega)
              subst hnil
              simp only [List.length_nil] at HM ⊢
              go_wp2_with fail
              refine HDEP.out.mono ?_
              rintro e w5 (⟨hn, _⟩ | ⟨_, rfl, hc5, ho5⟩)
              · exact absurd hn hr
              have HM5 := hid (HM.out.only ho5)
              have HC5 := hid hc5
              have HA5 := hid (HGN.out w5 ho5).1
              clear hc5 ho5
              go_wp2_with fail
              go_quiet (fail)
              go_wp2
              go_roundw
              case rel => exact ⟨k + 1, S, N, ai, ci, ao, co, inP, [], by omega, by go_num, rfl, rfl, ⟨⟨came, laid, got, gone, HC5.out.below (drewN_below _ _), HIN.out, HOUT.out, by omega⟩, HM5.out.below (drewN_below _ _)⟩, HA5⟩
              case measure => simp [intOf]; omega
        · by_cases k3 : kd = 3
          · subst k3
            have HPOLL := hid (ord_poll2 HC.out hki2 HO.out ki (by omega))
            have HIP := hid HM.out.ip
            go_wp2_with fail
            refine HPOLL.out.mono ?_
            rintro e w5 ⟨v, fs, S5, N5, got5, rfl, hg5, hgc5, hgl5, hf5, hc5, hr5, ho5, hlb⟩
            obtain ⟨av, cv, hv⟩ := hr5.form
            subst hv
            obtain ⟨hpd, hin5⟩ := polled_of HIN.out hg5 hf5 hr5 HIP.out
            have HPD := hid hpd
            have HIN5 := hid hin5
            have HM5 := hid (HM.out.only ho5)
            have HC5 := hid hc5
            have HOB5 := hid (HGN.out w5 ho5).2
            have HA5 := hid (HGN.out w5 ho5).1
            have HGC := hid hgc5
            have HGL := hid hgl5
            have o1 : w5.cell? ⟨wr.heap.size, 1, none⟩ = some (.int .i64 ki) := cellHeap HOB5.out 1 rfl
            have hl5 : wr.heap.size < w5.heap.size := heap_lt HOB5.out
            have hle := hpd.le
            have hcl5 := HM5.out.ir.form
            clear hr5 ho5 hc5 hf5 hg5 hgc5 hgl5 HPOLL hpd hin5
            generalize fs.length = lf at *
            have q1 : ¬ (inP.length : Int) < lf := by omega
            have q0 : (lf : Int) ≤ inP.length := by omega
            have q1n : ¬ inP.length < lf := by omega
            have HLE := hid hle
            have HCL := hid hcl5.2
            have HLB := hid hlb
            clear hcl5 hle hlb
            by_cases hkp : 0 < ki
            · have q7 : ¬ ki < (lf : Int) := by have := HLB.out; omega
              as_aux_lemma =>
                go_wp2_with fail
                clear o1
                go_loopw [24] (fun i wr2 => ∃ j : Nat, j ≤ lf ∧ i = .int .i64 j ∧ Hid (Below w5.heap.size w5 wr2)) (fun i _ => lf - (intOf i).toNat)
                case atStart => exact ⟨0, by omega, rfl, Below.refl _ _⟩
                case round =>
                  rename World => wr2
                  obtain ⟨j, hj, rfl, HB⟩ := hrel
                  by_cases hjl : j < lf
                  · skip
                    obtain ⟨gl, ⟨d0, d1, d2, d3, d4, d5⟩, ⟨s0, s1, s2, s3, s4, s5⟩, kk, fa, fn, fc, hone⟩ := HPD.out.one j hjl
                    have hav := hone.av
                    subst hav
                    have hjl2 : (j : Int) < lf := by omega
                    have x0 : wr2.cell? ⟨gl, j * 14, none⟩ = some (.int .u8 d0) := hone.cells _ HB.out 0 _ rfl
                    have x1 : wr2.cell? ⟨gl, j * 14 + 1, none⟩ = some (.int .u8 d1) := hone.cells _ HB.out 1 _ rfl
                    have x2 : wr2.cell? ⟨gl, j * 14 + 2, none⟩ = some (.int .u8 d2) := hone.cells _ HB.out 2 _ rfl
                    have x3 : wr2.cell? ⟨gl, j * 14 + 3, none⟩ = some (.int .u8 d3) := hone.cells _ HB.out 3 _ rfl
                    have x4 : wr2.cell? ⟨gl, j * 14 + 4, none⟩ = some (.int .u8 d4) := hone.cells _ HB.out 4 _ rfl
                    have x5 : wr2.cell? ⟨gl, j * 14 + 5, none⟩ = some (.int .u8 d5) := hone.cells _ HB.out 5 _ rfl
                    have x6 : wr2.cell? ⟨gl, j * 14 + 6, none⟩ = some (.int .u8 s0) := hone.cells _ HB.out 6 _ rfl
                    have x7 : wr2.cell? ⟨gl, j * 14 + 7, none⟩ = some (.int .u8 s1) := hone.cells _ HB.out 7 _ rfl
                    have x8 : wr2.cell? ⟨gl, j * 14 + 8, none⟩ = some (.int .u8 s2) := hone.cells _ HB.out 8 _ rfl
                    have x9 : wr2.cell? ⟨gl, j * 14 + 9, none⟩ = some (.int .u8 s3) := hone.cells _ HB.out 9 _ rfl
                    have x10 : wr2.cell? ⟨gl, j * 14 + 10, none⟩ = some (.int .u8 s4) := hone.cells _ HB.out 10 _ rfl
                    have x11 : wr2.cell? ⟨gl, j * 14 + 11, none⟩ = some (.int .u8 s5) := hone.cells _ HB.out 11 _ rfl
                    have x12 : wr2.cell? ⟨gl, j * 14 + 12, none⟩ = some (.int .i64 kk) := hone.cells _ HB.out 12 _ rfl
                    have x13 : wr2.cell? ⟨gl, j * 14 + 13, none⟩ = some (.slice fa fn fc) := hone.cells _ HB.out 13 _ rfl
                    have HSLD := hid (hone.sld _ HB.out)
                    simp only [frameV] at HSLD
                    have hjp : j < inP.length := by have := HLE.out; omega
                    have hmem : inP.getD j Part.nil ∈ inP := by rw [List.getD_eq_getElem?_getD, List.getElem?_eq_getElem hjp]; exact List.getElem_mem hjp
                    have HPT := hid (HIP.out _ hmem)
                    obtain ⟨gi, oi, hai, hci⟩ := (HM5.out.below HB.out).ir.cell j (inP.getD j Part.nil).val (by simp [List.getD_eq_getElem?_getD, hjp])
                    subst hai
                    have HWB := hid (bstep HM5.out.bel HB.out)
                    have hgl : gl < wr2.heap.size := World.block_lt_of_cell? wr2 _ x0
                    have hgi : gi < wr2.heap.size := World.block_lt_of_cell? wr2 _ hci
                    generalize inP.getD j Part.nil = PT at *
                    obtain ⟨ta, tc, tz⟩ := PT
                    simp only [Part.val] at hci
                    obtain ⟨tn, htn⟩ : ∃ tn, tn = tz.length := ⟨_, rfl⟩
                    have HTN := hid htn
                    rw [← htn] at hci
                    have hjp2 : (j : Int) < inP.length := by omega
                    clear hone hmem htn hjp
                    go_wp2_with fail
                    refine HSLD.out.mono ?_
                    rintro e w6 ⟨a6, n6, c6, rfl, hr6, hn6, hb6⟩
                    have hci6 : w6.cell? ⟨gi, oi + j, none⟩ = some (.slice ta tn tc) := cell_below hb6 hci
                    have hcv1 : ∀ z, (convert 43 9 (.slice a6 n6 c6)).run Try.prog (w6.drewN z) = .ok (.string (strOfNums tz)) (w6.drewN z) := fun z => hr6.conv HPT.out.1 z
                    have hcv2 : ∀ z, (convert 43 9 (.slice ta tn tc)).run Try.prog (w6.drewN z) = .ok (.string (strOfNums tz)) (w6.drewN z) := fun z => by
                      have := conv_part ⟨ta, tc, tz⟩ (w6.drewN z) (Part.ok_drewN (Part.ok_below (Part.ok_below HPT.out HWB.out) hb6) z)
                      unfold Part.val at this
                      simp only [← HTN.out] at this
                      exact this
                    have HB6 := hid (bstep HB.out hb6)
                    generalize strOfNums tz = SX at hcv1 hcv2
                    clear hr6 hn6 hb6 hci x0 x1 x2 x3 x4 x5 x6 x7 x8 x9 x10 x11 x12 x13 HSLD
                    go_wp2_with fail
                    go_quiet (fail)
                    go_wp2
                    go_roundw
                    case rel => first | exact ⟨j + 1, by omega, by go_num, HB6.out.trans ((drewN_below _ _).mono HB6.out.size)⟩ | exact ⟨_, .int .i64 ((j : Int) + 1), _, _, _, _, _, _, _, _, _, _, _, _, _, _, _, _, _, _, _, _, _, _, _, _, _, _, _, _, ⟨j + 1, by omega, by go_num, HB6.out.trans ((drewN_below _ _).mono HB6.out.size)⟩, rfl⟩
                    case measure => simp [intOf]; omega
                  · skip
                    have hjn : ¬ (j : Int) < lf := by omega
                    have HM6 := hid (HM5.out.below HB.out)
                    have HC6 := hid (HC5.out.below HB.out)
                    have HA6 := hid (kept HA5.out HB.out)
                    have HFIN : Hid (L < k + 1 → got5 = came.length) := fun hh => absurd hh (by omega)
                    cases ai with
                    | none =>
                      have h0 := HM6.out.ir
                      have h1 : inP = [] ∧ ci = 0 := by
                        rcases h0 with ⟨h2, h3⟩ | ⟨_, _, _, _, h2, _⟩
                        · simp only [Value.slice.injEq] at h2
                          exact ⟨by simpa using h3, h2.2.2⟩
                        · simp at h2
                      obtain ⟨rfl, rfl⟩ := h1
                      have h2 : lf = 0 := by have := HLE.out; simpa using this
                      subst h2
                      have HIN6 : Hid (([] : List Part).map Part.zs = (came.drop got5).filter (goodB own)) := HIN5
                      clear h0
                      go_wp2
                      go_roundw
                      case rel => exact ⟨k + 1, S5, N5, none, 0, ao, co, [], outP, by omega, by go_num, rfl, rfl, ⟨⟨came, laid, got5, gone, HC6.out, HIN6.out, HOUT.out, HFIN.out⟩, HM6.out⟩, HA6⟩
                      case measure => simp [intOf]; omega
                    | some ia =>
                      obtain ⟨gi, oi, hia⟩ : ∃ gi oi, ia = ⟨gi, oi, none⟩ := by
                        rcases HM6.out.ir with ⟨h2, h3⟩ | ⟨gi, oi, _, _, h2, _⟩
                        · simp at h2
                        · simp only [Value.slice.injEq, Option.some.injEq] at h2
                          exact ⟨gi, oi, h2.1⟩
                      subst hia
                      have q2 : (inP.length : Int) ≤ ci := by have := HCL.out; omega
                      have q3 : (lf : Int) ≤ ci := by omega
                      have q4 : lf ≤ ci := by omega
                      have q5 : lf ≤ inP.length := HLE.out
                      have q6 : inP.length ≤ ci := HCL.out
                      by_cases hroom : lf = ci
                      · have HRM := hid hroom
                        have HIN6 : Hid (([] : List Part).map Part.zs = (came.drop got5).filter (goodB own)) := by
                          have := HIN5.out
                          rw [List.drop_of_length_le (by omega)] at this
                          exact this
                        have hin0 : inP.length = lf := by omega
                        clear HRM
                        subst hroom
                        rw [hin0] at *
                        go_wp2
                        go_roundw
                        case rel => exact ⟨k + 1, S5, N5, some ⟨gi, oi, none⟩, 0, ao, co, [], outP, by omega, by go_num, rfl, rfl, ⟨⟨came, laid, got5, gone, HC6.out, HIN6.out, HOUT.out, HFIN.out⟩, HM6.out.toI (IV' := .slice (some ⟨gi, oi, none⟩) 0 0) (inP' := []) HM6.out.ir.over (fun b hb => hb) (by simp)⟩, HA6⟩
                        case measure => simp [intOf]; omega
                      · have HIN6 := hid HIN5.out
                        have hd := HM6.out.ir.drop lf q5
                        have HDR := hid hd
                        have HLN : Hid ((inP.drop lf).length = inP.length - lf) := List.length_drop
                        clear hd
                        go_wp2
                        go_roundw
                        case rel => exact ⟨k + 1, S5, N5, some ⟨gi, oi + lf, none⟩, ci - lf, ao, co, inP.drop lf, outP, by omega, by go_num, by rw [HLN.out], rfl, ⟨⟨came, laid, got5, gone, HC6.out, HIN6.out, HOUT.out, HFIN.out⟩, by
                          have h9 := HM6.out.toI (IV' := .slice (some ⟨gi, oi + lf, none⟩) (inP.length - lf) (ci - lf)) (inP' := inP.drop lf) (by rw [List.map_drop]; exact HDR.out) (fun b hb => hb) (fun p hp => List.mem_of_mem_drop hp)
                          rw [HLN.out]; exact h9⟩, HA6⟩
                        case measure => simp [intOf]; omega
            · have q7 : ¬ (0 : Int) < lf := by have := HLB.out; omega
              have q8 : ki ≤ 0 := by omega
              as_aux_lemma =>
                go_wp2_with fail
                clear o1
                go_loopw [24] (fun i wr2 => ∃ j : Nat, j ≤ lf ∧ i = .int .i64 j ∧ Hid (Below w5.heap.size w5 wr2)) (fun i _ => lf - (intOf i).toNat)
                case atStart => exact ⟨0, by omega, rfl, Below.refl _ _⟩
                case round =>
                  rename World => wr2
                  obtain ⟨j, hj, rfl, HB⟩ := hrel
                  by_cases hjl : j < lf
                  · skip
                    exact absurd hjl (by omega)
                  · skip
                    have hjn : ¬ (j : Int) < lf := by omega
                    have HM6 := hid (HM5.out.below HB.out)
                    have HC6 := hid (HC5.out.below HB.out)
                    have HA6 := hid (kept HA5.out HB.out)
                    have HFIN : Hid (L < k + 1 → got5 = came.length) := fun hh => absurd hh (by omega)
                    cases ai with
                    | none =>
                      have h0 := HM6.out.ir
                      have h1 : inP = [] ∧ ci = 0 := by
                        rcases h0 with ⟨h2, h3⟩ | ⟨_, _, _, _, h2, _⟩
                        · simp only [Value.slice.injEq] at h2
                          exact ⟨by simpa using h3, h2.2.2⟩
                        · simp at h2
                      obtain ⟨rfl, rfl⟩ := h1
                      have h2 : lf = 0 := by have := HLE.out; simpa using this
                      subst h2
                      have HIN6 : Hid (([] : List Part).map Part.zs = (came.drop got5).filter (goodB own)) := HIN5
                      clear h0
                      go_wp2
                      go_roundw
                      case rel => exact ⟨k + 1, S5, N5, none, 0, ao, co, [], outP, by omega, by go_num, rfl, rfl, ⟨⟨came, laid, got5, gone, HC6.out, HIN6.out, HOUT.out, HFIN.out⟩, HM6.out⟩, HA6⟩
                      case measure => simp [intOf]; omega
                    | some ia =>
                      obtain ⟨gi, oi, hia⟩ : ∃ gi oi, ia = ⟨gi, oi, none⟩ := by
                        rcases HM6.out.ir with ⟨h2, h3⟩ | ⟨gi, oi, _, _, h2, _⟩
                        · simp at h2
                        · simp only [Value.slice.injEq, Option.some.injEq] at h2
                          exact ⟨gi, oi, h2.1⟩
                      subst hia
                      have q2 : (inP.length : Int) ≤ ci := by have := HCL.out; omega
                      have q3 : (lf : Int) ≤ ci := by omega
                      have q4 : lf ≤ ci := by omega
                      have q5 : lf ≤ inP.length := HLE.out
                      have q6 : inP.length ≤ ci := HCL.out
                      by_cases hroom : lf = ci
                      · have HRM := hid hroom
                        have HIN6 : Hid (([] : List Part).map Part.zs = (came.drop got5).filter (goodB own)) := by
                          have := HIN5.out
                          rw [List.drop_of_length_le (by omega)] at this
                          exact this
                        have hin0 : inP.length = lf := by omega
                        clear HRM
                        subst hroom
                        rw [hin0] at *
                        go_wp2
                        go_roundw
                        case rel => exact ⟨k + 1, S5, N5, some ⟨gi, oi, none⟩, 0, ao, co, [], outP, by omega, by go_num, rfl, rfl, ⟨⟨came, laid, got5, gone, HC6.out, HIN6.out, HOUT.out, HFIN.out⟩, HM6.out.toI (IV' := .slice (some ⟨gi, oi, none⟩) 0 0) (inP' := []) HM6.out.ir.over (fun b hb => hb) (by simp)⟩, HA6⟩
                        case measure => simp [intOf]; omega
                      · have HIN6 := hid HIN5.out
                        have hd := HM6.out.ir.drop lf q5
                        have HDR := hid hd
                        have HLN : Hid ((inP.drop lf).length = inP.length - lf) := List.length_drop
                        clear hd
                        go_wp2
                        go_roundw
                        case rel => exact ⟨k + 1, S5, N5, some ⟨gi, oi + lf, none⟩, ci - lf, ao, co, inP.drop lf, outP, by omega, by go_num, by rw [HLN.out], rfl, ⟨⟨came, laid, got5, gone, HC6.out, HIN6.out, HOUT.out, HFIN.out⟩, by
                          have h9 := HM6.out.toI (IV' := .slice (some ⟨gi, oi + lf, none⟩) (inP.length - lf) (ci - lf)) (inP' := inP.drop lf) (by rw [List.map_drop]; exact HDR.out) (fun b hb => hb) (fun p hp => List.mem_of_mem_drop hp)
                          rw [HLN.out]; exact h9⟩, HA6⟩
                        case measure => simp [intOf]; omega
          · by_cases k4 : kd = 4
            · subst k4
              · skip
                have hmok : (⟨d0, d1, d2, d3, d4, d5⟩ : Mac).ok := HOKW.out.2.2.2.1
                have HSND := hid (ord_send HC.out hki2 HO.out ⟨d0, d1, d2, d3, d4, d5⟩ hmok sk ⟨sa, sc, sz⟩ (Part.ok_below HOKW.out.2.2.2.2.2 HM.out.bel) (by simp only; rw [← HSL.out]; exact hzl2))
                have HRS : Hid (∀ W, Below w.heap.size w W → Calls Try.prog 19 #[frameV ⟨d0, d1, d2, d3, d4, d5⟩ own sk (.slice sa sl sc)] W fun e w'' => ∃ a n c, e = .returned (.tuple #[.slice a n c, .int .i64 (sealE sk sz)]) ∧ Ans W w'' (sealB ⟨d0, d1, d2, d3, d4, d5⟩ own sk sz) a n c) := fun W hb => by
                  have := refSeal_u ⟨d0, d1, d2, d3, d4, d5⟩ own sk ⟨sa, sc, sz⟩ W hmok HO.out (by simp only; rw [← HSL.out]; exact hzl2) (Part.ok_below HOKW.out.2.2.2.2.2 hb)
                  rw [HSL.out]
                  exact this
                have HBD := hid (sealB_bd ⟨d0, d1, d2, d3, d4, d5⟩ own sk sz hmok HO.out HOKW.out.2.2.2.2.2.1)
                have hE : sealE sk sz = 0 ∨ sealE sk sz = 30 ∨ sealE sk sz = 2 := by
                  unfold sealE; split
                  · simp
                  · split <;> simp
                simp only [Part.val] at HSND
                rw [← HSL.out] at HSND
                have hroom : outP.length = laid.length - gone := by
                  have := congrArg List.length HOUT.out
                  simpa using this
                have hlo2 := HC.out.tx.lo1
                have hhi2 := HC.out.tx.hi
                have HOE : Hid (ordE sk sz (decide (laid.length < gone + m)) = if sealE sk sz = 0 then (if laid.length < gone + m then 0 else 3) else sealE sk sz) := by unfold Hid ordE; simp
                generalize sealB ⟨d0, d1, d2, d3, d4, d5⟩ own sk sz = Y at *
                generalize ordE sk sz (decide (laid.length < gone + m)) = E at *
                generalize sealE sk sz = FE at *
                simp only [sendV, frameV] at HSND HRS
                have HX1 := hid hroom
                have HX2 := hid hlo2
                have HX3 := hid hhi2
                have HX4 := hid hE
                clear hroom hlo2 hhi2 hE hmok
                go_wp2_with fail
                refine HSND.out.mono ?_
                rintro e w5 ⟨a5, l5, c5, S5, N5, laid5, rfl, hld, hc5, hr5, hn5, ho5⟩
                have HM5 := hid (HM.out.only ho5)
                have HC5 := hid hc5
                have HR5 := hid hr5
                have HLD := hid hld
                have HOB5 := hid (HGN.out w5 ho5).2
                have HOW5 := hid (HGN.out w5 ho5).1
                have o3 : w5.cell? ⟨wr.heap.size, 3, none⟩ = some (.int .u8 d0) := cellHeap HOB5.out 3 rfl
                have o4 : w5.cell? ⟨wr.heap.size, 4, none⟩ = some (.int .u8 d1) := cellHeap HOB5.out 4 rfl
                have o5 : w5.cell? ⟨wr.heap.size, 5, none⟩ = some (.int .u8 d2) := cellHeap HOB5.out 5 rfl
                have o6 : w5.cell? ⟨wr.heap.size, 6, none⟩ = some (.int .u8 d3) := cellHeap HOB5.out 6 rfl
                have o7 : w5.cell? ⟨wr.heap.size, 7, none⟩ = some (.int .u8 d4) := cellHeap HOB5.out 7 rfl
                have o8 : w5.cell? ⟨wr.heap.size, 8, none⟩ = some (.int .u8 d5) := cellHeap HOB5.out 8 rfl
                have o9 : w5.cell? ⟨wr.heap.size, 9, none⟩ = some (.int .i64 sk) := cellHeap HOB5.out 9 rfl
                have o10 : w5.cell? ⟨wr.heap.size, 10, none⟩ = some (.slice sa sl sc) := cellHeap HOB5.out 10 rfl
                have p0 : w5.cell? ⟨w.heap.size, 0, none⟩ = some (.int .u8 own.b0) := cellHeap HOW5.out 0 rfl
                have p1 : w5.cell? ⟨w.heap.size, 1, none⟩ = some (.int .u8 own.b1) := cellHeap HOW5.out 1 rfl
                have p2 : w5.cell? ⟨w.heap.size, 2, none⟩ = some (.int .u8 own.b2) := cellHeap HOW5.out 2 rfl
                have p3 : w5.cell? ⟨w.heap.size, 3, none⟩ = some (.int .u8 own.b3) := cellHeap HOW5.out 3 rfl
                have p4 : w5.cell? ⟨w.heap.size, 4, none⟩ = some (.int .u8 own.b4) := cellHeap HOW5.out 4 rfl
                have p5 : w5.cell? ⟨w.heap.size, 5, none⟩ = some (.int .u8 own.b5) := cellHeap HOW5.out 5 rfl
                have hl5 : wr.heap.size < w5.heap.size := heap_lt HOB5.out
                have hl6 : w.heap.size < w5.heap.size := heap_lt HOW5.out
                clear hld hc5 hr5 hn5 ho5 HSND e0 e1 e2 e3 e4 e5 e6 e7 e8 e9 e10 hbl
                go_wp2_with fail
                refine (HRS.out _ HM5.out.bel).mono ?_
                rintro e w6 ⟨a6, l6, c6, rfl, hr6, hn6, hb6⟩
                have HR6 := hid hr6
                have HN6 := hid hn6
                have HB6 := hid hb6
                clear hr6 hn6 hb6 o3 o4 o5 o6 o7 o8 o9 o10 p0 p1 p2 p3 p4 p5
                have hroom := HX1.out
                have hlo2 := HX2.out
                have hhi2 := HX3.out
                have hE := HX4.out
                have HM6 := hid (HM5.out.below HB6.out)
                have HC6 := hid (HC5.out.below HB6.out)
                have HA6 := hid (kept HOW5.out HB6.out)
                clear HRS
                rcases hE with hE | hE | hE
                · subst hE
                  by_cases hrm : laid.length < gone + m
                  · have hE0 : E = 0 := by rw [HOE.out]; simp [hrm]
                    subst hE0
                    have hlen : ¬ (m : Int) ≤ outP.length := by omega
                    have hol : outP.length ≤ 64 := by omega
                    clear hroom
                    have HR5' : Row w5 5 (.slice a5 l5 c5) (u8s Y) := by have := HR5.out; simpa using this
                    have hcv1 : (convert 43 9 (.slice a5 l5 c5)).run Try.prog w6 = .ok (.string (strOfNums Y)) w6 := (HR5'.below HB6.out).conv0 HBD.out.1
                    have hcv2 : (convert 43 9 (.slice a6 l6 c6)).run Try.prog w6 = .ok (.string (strOfNums Y)) w6 := HR6.out.conv0 HBD.out.1
                    generalize strOfNums Y = SX at hcv1 hcv2
                    obtain ⟨gv, off, cp, w7, hrun, hm7, hk7, hj7⟩ := HM6.out.pushO (.slice a6 l6 c6) Y HR6.out HBD.out.1 (fun b' hb' => by
                      have h9 := HN6.out b' hb'
                      have h8 := HM5.out.bel.size
                      exact ⟨by omega, fun hk' => by have := (HM5.out.kin _ hk').2; omega⟩) (by omega)
                    have HRUN := hid hrun
                    have HM7 := hid hm7
                    have HC7 := hid (HC6.out.keep hk7)
                    have HA7 : Hid (w7.heap[w.heap.size]? = some (.cells #[.int .u8 own.b0, .int .u8 own.b1, .int .u8 own.b2, .int .u8 own.b3, .int .u8 own.b4, .int .u8 own.b5] 24 (0, 0))) := (hj7 _ (heap_lt (w := w6) HA6.out) (HM6.out.orr.not HA6.out (by decide))).trans HA6.out
                    clear hrun hm7 hk7 hj7
                    go_wp2_with (first
                      | (at_builtin; refine wpList_append_run _ rfl _ _ 32 32 rfl _ _ rfl rfl HRUN.out ?_))
                    go_roundw
                    case rel =>
                      have hld : laid5 = laid ++ [Y] := by have := HLD.out; simpa using this
                      refine ⟨k + 1, S5, N5, ai, ci, _, cp, inP, outP ++ [(.slice a6 l6 c6, Y)], by omega, by go_num, rfl, by simp; rfl, ⟨⟨came, laid5, got, gone, HC7.out, HIN.out, ?_, by omega⟩, by simpa using HM7.out⟩, HA7⟩
                      rw [hld, List.drop_append_of_le_length hlo2, List.map_append, HOUT.out]
                      rfl
                    case measure => simp [intOf]; omega
                  · have hE0 : E = 3 := by rw [HOE.out]; simp [hrm]
                    subst hE0
                    have hlen : (m : Int) ≤ outP.length := by omega
                    clear hroom
                    replace HLD : Hid (laid5 = laid) := hid (by have := HLD.out; simpa using this)
                    go_wp2_with fail
                    skip
                    go_wp2
                    go_roundw
                    case rel => exact ⟨k + 1, S5, N5, ai, ci, ao, co, inP, outP, by omega, by go_num, rfl, rfl, ⟨⟨came, laid5, got, gone, HC6.out, HIN.out, (by rw [HLD.out]; exact HOUT.out), by omega⟩, HM6.out⟩, HA6⟩
                    case measure => simp [intOf]; omega
                · clear hroom
                  have hE0 : E = 30 := by rw [HOE.out, hE]; simp
                  subst hE0
                  subst hE
                  replace HLD : Hid (laid5 = laid) := hid (by have := HLD.out; simpa using this)
                  go_wp2_with fail
                  skip
                  go_wp2
                  go_roundw
                  case rel => exact ⟨k + 1, S5, N5, ai, ci, ao, co, inP, outP, by omega, by go_num, rfl, rfl, ⟨⟨came, laid5, got, gone, HC6.out, HIN.out, (by rw [HLD.out]; exact HOUT.out), by omega⟩, HM6.out⟩, HA6⟩
                  case measure => simp [intOf]; omega

                · clear hroom
                  have hE0 : E = 2 := by rw [HOE.out, hE]; simp
                  subst hE0
                  subst hE
                  replace HLD : Hid (laid5 = laid) := hid (by have := HLD.out; simpa using this)
                  go_wp2_with fail
                  skip
                  go_wp2
                  go_roundw
                  case rel => exact ⟨k + 1, S5, N5, ai, ci, ao, co, inP, outP, by omega, by go_num, rfl, rfl, ⟨⟨came, laid5, got, gone, HC6.out, HIN.out, (by rw [HLD.out]; exact HOUT.out), by omega⟩, HM6.out⟩, HA6⟩
                  case measure => simp [intOf]; omega
            · as_aux_lemma =>
                go_wp2
                go_roundw
                case rel => exact ⟨k + 1, S, N, ai, ci, ao, co, inP, outP, by omega, by go_num, rfl, rfl, ⟨⟨came, laid, got, gone, HC.out.next, HIN.out, HOUT.out, by omega⟩, HM.out⟩, HAA.out _ (balloc wr _)⟩
                case measure => simp [intOf]; omega
    · by_cases hend : k < L + 2
      · have hlt2 : ¬ (k : Int) < L := by omega
        have hlt3 : (k : Int) < (L : Int) + 2 := by omega
        have HIA := hid (HI.out.below (balloc wr (.cells #[.int .i64 3, .int .i64 (n : Int), .slice none 0 0, .int .u8 0, .int .u8 0, .int .u8 0, .int .u8 0, .int .u8 0, .int .u8 0, .int .i64 0, .slice none 0 0] 47)))
        have HAA : Hid (∀ W, Below wr.heap.size wr W → W.heap[w.heap.size]? = some (.cells #[.int .u8 own.b0, .int .u8 own.b1, .int .u8 own.b2, .int .u8 own.b3, .int .u8 own.b4, .int .u8 own.b5] 24 (0, 0))) := fun W hb => kept HA.out hb
        obtain ⟨⟨came, laid, got, gone, hc, hin, hout, hfin⟩, hmem⟩ := HIA.out
        have HC := hid hc
        have HIN := hid hin
        have HOUT := hid hout
        have HM := hid hmem
        have HGN : Hid (∀ W, Only (NicK q c g h) (wr.alloc (.cells #[.int .i64 3, .int .i64 (n : Int), .slice none 0 0, .int .u8 0, .int .u8 0, .int .u8 0, .int .u8 0, .int .u8 0, .int .u8 0, .int .i64 0, .slice none 0 0] 47)) W → W.heap[w.heap.size]? = some (.cells #[.int .u8 own.b0, .int .u8 own.b1, .int .u8 own.b2, .int .u8 own.b3, .int .u8 own.b4, .int .u8 own.b5] 24 (0, 0)) ∧ W.heap[wr.heap.size]? = some (.cells #[.int .i64 3, .int .i64 (n : Int), .slice none 0 0, .int .u8 0, .int .u8 0, .int .u8 0, .int .u8 0, .int .u8 0, .int .u8 0, .int .i64 0, .slice none 0 0] 47 (0, 0))) := fun W hW => ⟨(hW.block _ HNA.out (heap_lt (HAA.out _ (balloc wr _)))).trans (HAA.out _ (balloc wr _)), (hW.block _ (fun hk => by have := (HI.out.mem.kin _ hk).2; omega) (by simp)).trans (heap_new wr _)⟩
        have hki2 : k < 4398046511104 := by omega
        have hnp : (0 : Int) < n := by omega
        clear hc hin hout hmem hfin
        have HPOLL := hid (ord_poll2 HC.out hki2 HO.out n (by omega))
        have HIP := hid HM.out.ip
        go_wp2_with fail
        refine HPOLL.out.mono ?_
        rintro e w5 ⟨v, fs, S5, N5, got5, rfl, hg5, hgc5, hgl5, hf5, hc5, hr5, ho5, hlb⟩
        obtain ⟨av, cv, hv⟩ := hr5.form
        subst hv
        obtain ⟨hpd, hin5⟩ := polled_of HIN.out hg5 hf5 hr5 HIP.out
        have HPD := hid hpd
        have HIN5 := hid hin5
        have HM5 := hid (HM.out.only ho5)
        have HC5 := hid hc5
        have HOB5 := hid (HGN.out w5 ho5).2
        have HA5 := hid (HGN.out w5 ho5).1
        have HGC := hid hgc5
        have HGL := hid hgl5
        have o1 : w5.cell? ⟨wr.heap.size, 1, none⟩ = some (.int .i64 n) := cellHeap HOB5.out 1 rfl
        have hl5 : wr.heap.size < w5.heap.size := heap_lt HOB5.out
        have hle := hpd.le
        have hcl5 := HM5.out.ir.form
        clear hr5 ho5 hc5 hf5 hg5 hgc5 hgl5 HPOLL hpd hin5
        generalize fs.length = lf at *
        have q1 : ¬ (inP.length : Int) < lf := by omega
        have q0 : (lf : Int) ≤ inP.length := by omega
        have q1n : ¬ inP.length < lf := by omega
        have HLE := hid hle
        have HCL := hid hcl5.2
        have HLB := hid hlb
        clear hcl5 hle hlb
        have q7 : ¬ (n : Int) < (lf : Int) := by have := HLB.out; simp only [Int.toNat_natCast] at this; omega
        have q7n : ¬ n < lf := by omega
        as_aux_lemma =>
          go_wp2_with fail
          clear o1
          go_loopw [24] (fun i wr2 => ∃ j : Nat, j ≤ lf ∧ i = .int .i64 j ∧ Hid (Below w5.heap.size w5 wr2)) (fun i _ => lf - (intOf i).toNat)
          case atStart => exact ⟨0, by omega, rfl, Below.refl _ _⟩
          case round =>
            rename World => wr2
            obtain ⟨j, hj, rfl, HB⟩ := hrel
            by_cases hjl : j < lf
            · skip
              obtain ⟨gl, ⟨d0, d1, d2, d3, d4, d5⟩, ⟨s0, s1, s2, s3, s4, s5⟩, kk, fa, fn, fc, hone⟩ := HPD.out.one j hjl
              have hav := hone.av
              subst hav
              have hjl2 : (j : Int) < lf := by omega
              have x0 : wr2.cell? ⟨gl, j * 14, none⟩ = some (.int .u8 d0) := hone.cells _ HB.out 0 _ rfl
              have x1 : wr2.cell? ⟨gl, j * 14 + 1, none⟩ = some (.int .u8 d1) := hone.cells _ HB.out 1 _ rfl
              have x2 : wr2.cell? ⟨gl, j * 14 + 2, none⟩ = some (.int .u8 d2) := hone.cells _ HB.out 2 _ rfl
              have x3 : wr2.cell? ⟨gl, j * 14 + 3, none⟩ = some (.int .u8 d3) := hone.cells _ HB.out 3 _ rfl
              have x4 : wr2.cell? ⟨gl, j * 14 + 4, none⟩ = some (.int .u8 d4) := hone.cells _ HB.out 4 _ rfl
              have x5 : wr2.cell? ⟨gl, j * 14 + 5, none⟩ = some (.int .u8 d5) := hone.cells _ HB.out 5 _ rfl
              have x6 : wr2.cell? ⟨gl, j * 14 + 6, none⟩ = some (.int .u8 s0) := hone.cells _ HB.out 6 _ rfl
              have x7 : wr2.cell? ⟨gl, j * 14 + 7, none⟩ = some (.int .u8 s1) := hone.cells _ HB.out 7 _ rfl
              have x8 : wr2.cell? ⟨gl, j * 14 + 8, none⟩ = some (.int .u8 s2) := hone.cells _ HB.out 8 _ rfl
              have x9 : wr2.cell? ⟨gl, j * 14 + 9, none⟩ = some (.int .u8 s3) := hone.cells _ HB.out 9 _ rfl
              have x10 : wr2.cell? ⟨gl, j * 14 + 10, none⟩ = some (.int .u8 s4) := hone.cells _ HB.out 10 _ rfl
              have x11 : wr2.cell? ⟨gl, j * 14 + 11, none⟩ = some (.int .u8 s5) := hone.cells _ HB.out 11 _ rfl
              have x12 : wr2.cell? ⟨gl, j * 14 + 12, none⟩ = some (.int .i64 kk) := hone.cells _ HB.out 12 _ rfl
              have x13 : wr2.cell? ⟨gl, j * 14 + 13, none⟩ = some (.slice fa fn fc) := hone.cells _ HB.out 13 _ rfl
              have HSLD := hid (hone.sld _ HB.out)
              simp only [frameV] at HSLD
              have hjp : j < inP.length := by have := HLE.out; omega
              have hmem : inP.getD j Part.nil ∈ inP := by rw [List.getD_eq_getElem?_getD, List.getElem?_eq_getElem hjp]; exact List.getElem_mem hjp
              have HPT := hid (HIP.out _ hmem)
              obtain ⟨gi, oi, hai, hci⟩ := (HM5.out.below HB.out).ir.cell j (inP.getD j Part.nil).val (by simp [List.getD_eq_getElem?_getD, hjp])
              subst hai
              have HWB := hid (bstep HM5.out.bel HB.out)
              have hgl : gl < wr2.heap.size := World.block_lt_of_cell? wr2 _ x0
              have hgi : gi < wr2.heap.size := World.block_lt_of_cell? wr2 _ hci
              generalize inP.getD j Part.nil = PT at *
              obtain ⟨ta, tc, tz⟩ := PT
              simp only [Part.val] at hci
              obtain ⟨tn, htn⟩ : ∃ tn, tn = tz.length := ⟨_, rfl⟩
              have HTN := hid htn
              rw [← htn] at hci
              have hjp2 : (j : Int) < inP.length := by omega
              clear hone hmem htn hjp
              go_wp2_with fail
              refine HSLD.out.mono ?_
              rintro e w6 ⟨a6, n6, c6, rfl, hr6, hn6, hb6⟩
              have hci6 : w6.cell? ⟨gi, oi + j, none⟩ = some (.slice ta tn tc) := cell_below hb6 hci
              have hcv1 : ∀ z, (convert 43 9 (.slice a6 n6 c6)).run Try.prog (w6.drewN z) = .ok (.string (strOfNums tz)) (w6.drewN z) := fun z => hr6.conv HPT.out.1 z
              have hcv2 : ∀ z, (convert 43 9 (.slice ta tn tc)).run Try.prog (w6.drewN z) = .ok (.string (strOfNums tz)) (w6.drewN z) := fun z => by
                have := conv_part ⟨ta, tc, tz⟩ (w6.drewN z) (Part.ok_drewN (Part.ok_below (Part.ok_below HPT.out HWB.out) hb6) z)
                unfold Part.val at this
                simp only [← HTN.out] at this
                exact this
              have HB6 := hid (bstep HB.out hb6)
              generalize strOfNums tz = SX at hcv1 hcv2
              clear hr6 hn6 hb6 hci x0 x1 x2 x3 x4 x5 x6 x7 x8 x9 x10 x11 x12 x13 HSLD
              go_wp2_with fail
              go_quiet (fail)
              go_wp2
              go_roundw
              case rel => first | exact ⟨j + 1, by omega, by go_num, HB6.out.trans ((drewN_below _ _).mono HB6.out.size)⟩ | exact ⟨_, .int .i64 ((j : Int) + 1), _, _, _, _, _, _, _, _, _, _, _, _, _, _, _, _, _, _, _, _, _, _, _, _, _, _, _, _, ⟨j + 1, by omega, by go_num, HB6.out.trans ((drewN_below _ _).mono HB6.out.size)⟩, rfl⟩
              case measure => simp [intOf]; omega
            · skip
              have hjn : ¬ (j : Int) < lf := by omega
              have HM6 := hid (HM5.out.below HB.out)
              have HC6 := hid (HC5.out.below HB.out)
              have HA6 := hid (kept HA5.out HB.out)
              have HFIN : Hid (L < k + 1 → got5 = came.length) := fun _ => by have h1 := HGC.out; have h2 := HGL.out; have h3 := HC.out.rx.hi; have h4 := HC.out.rx.lo1; simp only [Int.toNat_natCast] at h1; omega
              cases ai with
              | none =>
                have h0 := HM6.out.ir
                have h1 : inP = [] ∧ ci = 0 := by
                  rcases h0 with ⟨h2, h3⟩ | ⟨_, _, _, _, h2, _⟩
                  · simp only [Value.slice.injEq] at h2
                    exact ⟨by simpa using h3, h2.2.2⟩
                  · simp at h2
                obtain ⟨rfl, rfl⟩ := h1
                have h2 : lf = 0 := by have := HLE.out; simpa using this
                subst h2
                have HIN6 : Hid (([] : List Part).map Part.zs = (came.drop got5).filter (goodB own)) := HIN5
                clear h0
                go_wp2
                go_roundw
                case rel => exact ⟨k + 1, S5, N5, none, 0, ao, co, [], outP, by omega, by go_num, rfl, rfl, ⟨⟨came, laid, got5, gone, HC6.out, HIN6.out, HOUT.out, HFIN.out⟩, HM6.out⟩, HA6⟩
                case measure => simp [intOf]; omega
              | some ia =>
                obtain ⟨gi, oi, hia⟩ : ∃ gi oi, ia = ⟨gi, oi, none⟩ := by
                  rcases HM6.out.ir with ⟨h2, h3⟩ | ⟨gi, oi, _, _, h2, _⟩
                  · simp at h2
                  · simp only [Value.slice.injEq, Option.some.injEq] at h2
                    exact ⟨gi, oi, h2.1⟩
                subst hia
                have q2 : (inP.length : Int) ≤ ci := by have := HCL.out; omega
                have q3 : (lf : Int) ≤ ci := by omega
                have q4 : lf ≤ ci := by omega
                have q5 : lf ≤ inP.length := HLE.out
                have q6 : inP.length ≤ ci := HCL.out
                by_cases hroom : lf = ci
                · have HRM := hid hroom
                  have HIN6 : Hid (([] : List Part).map Part.zs = (came.drop got5).filter (goodB own)) := by
                    have := HIN5.out
                    rw [List.drop_of_length_le (by omega)] at this
                    exact this
                  have hin0 : inP.length = lf := by omega
                  clear HRM
                  subst hroom
                  rw [hin0] at *
                  go_wp2
                  go_roundw
                  case rel => exact ⟨k + 1, S5, N5, some ⟨gi, oi, none⟩, 0, ao, co, [], outP, by omega, by go_num, rfl, rfl, ⟨⟨came, laid, got5, gone, HC6.out, HIN6.out, HOUT.out, HFIN.out⟩, HM6.out.toI (IV' := .slice (some ⟨gi, oi, none⟩) 0 0) (inP' := []) HM6.out.ir.over (fun b hb => hb) (by simp)⟩, HA6⟩
                  case measure => simp [intOf]; omega
                · have HIN6 := hid HIN5.out
                  have hd := HM6.out.ir.drop lf q5
                  have HDR := hid hd
                  have HLN : Hid ((inP.drop lf).length = inP.length - lf) := List.length_drop
                  clear hd
                  go_wp2
                  go_roundw
                  case rel => exact ⟨k + 1, S5, N5, some ⟨gi, oi + lf, none⟩, ci - lf, ao, co, inP.drop lf, outP, by omega, by go_num, by rw [HLN.out], rfl, ⟨⟨came, laid, got5, gone, HC6.out, HIN6.out, HOUT.out, HFIN.out⟩, by
                    have h9 := HM6.out.toI (IV' := .slice (some ⟨gi, oi + lf, none⟩) (inP.length - lf) (ci - lf)) (inP' := inP.drop lf) (by rw [List.map_drop]; exact HDR.out) (fun b hb => hb) (fun p hp => List.mem_of_mem_drop hp)
                    rw [HLN.out]; exact h9⟩, HA6⟩
                  case measure => simp [intOf]; omega
      · have hlt3 : ¬ (k : Int) < (L : Int) + 2 := by omega
        obtain ⟨⟨came, laid, got, gone, hc, hin, hout, hfin⟩, hmem⟩ := HI.out
        have hnil : inP = [] := by
          rw [hfin (by omega)] at hin
          simpa using hin
        subst hnil
        have HBE := hid hmem.bel
        clear hc hin hout hmem hfin
        go_wp2
        go_ret
        exact ⟨rfl, HBE.out⟩
end Go.Proofs.Ytnjhlndikbkeaaa
