/-
  WheelCuts, walked.
-/
import Derived.Test.YthgcjocjkeieaaaWCutW
namespace Go.Proofs.Ythgcjocjkeieaaa
open Go.RowKit
set_option linter.all false

/-- between two calls of the script: both wheels stand alike. -/
structure AhI (w0 w : World) (b1 b2 : Nat) (i : Nat) : Prop where
  ex : ∃ n l T, TG w0 w b1 b2 n l T n l T (.slice none 0 0) [] [] ∧ l ≤ i
/-- .. within a call of kind Arm. -/
theorem AhI.arm {w0 w : World} {b1 b2 i : Nat} (h : AhI w0 w b1 b2 i) (hi : i ≤ 140737488351232) (o : Obj) (t tag : Int) :
    Calls Try.prog 12 #[.pointer (some ⟨b1, 0, none⟩), .int .i64 t, .int .i64 tag] (w.alloc o) fun e w1 => ∃ a c : Int, e = .returned (.tuple #[.int .i64 a, .int .i64 c]) ∧ w1.heap[w.heap.size]? = some o ∧
      Hid (Calls Try.prog 12 #[.pointer (some ⟨b2, 0, none⟩), .int .i64 t, .int .i64 tag] w1 fun e w2 => e = .returned (.tuple #[.int .i64 a, .int .i64 c]) ∧ w2.heap[w.heap.size]? = some o ∧ Hid (AhI w0 w2 b1 b2 (i + 1))) := by
  obtain ⟨n, l, T, hg, hl⟩ := h.ex
  have hg0 := hg.push o
  refine (hg0.arm1 (by omega) t tag).mono ?_
  rintro e w1 ⟨rfl, H1⟩
  refine ⟨_, _, rfl, H1.out.holds _ (List.mem_cons_self ..), (H1.out.arm2 (by omega) t tag).mono ?_⟩
  rintro e w2 ⟨rfl, H2⟩
  refine ⟨rfl, H2.out.holds _ (List.mem_cons_self ..), n, _, _, H2.out.clear, ?_⟩
  unfold armL; split <;> omega
/-- .. of kind Advance. -/
theorem AhI.adv {w0 w : World} {b1 b2 i : Nat} (h : AhI w0 w b1 b2 i) (hi : i ≤ 140737488351232) (o : Obj) (t : Int) :
    Calls Try.prog 14 #[.pointer (some ⟨b1, 0, none⟩), .int .i64 t] (w.alloc o) fun e w1 => ∃ (ad : Option Addr) (cap L : Nat), e = .returned (.slice ad L cap) ∧ w1.heap[w.heap.size]? = some o ∧
      Hid (Calls Try.prog 14 #[.pointer (some ⟨b2, 0, none⟩), .int .i64 t] w1 fun e w2 => ∃ (ad2 : Option Addr) (cap2 : Nat), e = .returned (.slice ad2 L cap2) ∧
        Hid (Calls Try.prog 18 #[.slice ad L cap, .slice ad2 L cap2] w2 fun e w3 => e = .returned (.bool true) ∧ Hid (AhI w0 w3 b1 b2 (i + 1)))) := by
  obtain ⟨n, l, T, hg, hl⟩ := h.ex
  have hg0 := hg.push o
  refine (hg0.adv1 (by omega) t).mono ?_
  rintro e w1 ⟨ad, cap, F, rfl, T', HF, HA⟩
  have hg1 := HA.out.adopt
  refine ⟨ad, cap, F.length, rfl, hg1.holds _ (List.mem_cons_self ..), (hg1.adv2 (by omega) t).mono ?_⟩
  rintro e w2 ⟨ad2, cap2, F2, rfl, T2, HF2, HA2⟩
  obtain ⟨e1, e2⟩ := HF2.out.eq HF.out
  subst e1
  subst e2
  obtain ⟨m, K, x⟩ := hg.a
  have hlen := HF.out.len x.inv.2.2.1
  have hxl := x.len
  refine ⟨ad2, cap2, rfl, ((HA2.out.same rfl (by omega)).1).mono ?_⟩
  rintro e w3 ⟨rfl, H3⟩
  exact ⟨rfl, _, l, _, H3.out.drop.clear, by omega⟩
theorem AhI.idle {w0 w : World} {b1 b2 i : Nat} (h : AhI w0 w b1 b2 i) (o : Obj) : AhI w0 (w.alloc o) b1 b2 (i + 1) := by
  obtain ⟨n, l, T, hg, hl⟩ := h.ex
  exact ⟨n, l, T, hg.pass (balloc w o), by omega⟩
theorem AhI.below {w0 w : World} {b1 b2 i : Nat} (h : AhI w0 w b1 b2 i) : Below w0.heap.size w0 w := by
  obtain ⟨n, l, T, hg, hl⟩ := h.ex
  exact hg.below
theorem AhI.st {w0 w : World} {b1 b2 i : Nat} (h : AhI w0 w b1 b2 i) (to : Int) : ∃ n l T, StI w0 w b1 b2 n l T to n (.slice none 0 0) [] ∧ l ≤ i := by
  obtain ⟨n, l, T, hg, hl⟩ := h.ex
  obtain ⟨m, K, x⟩ := hg.a
  have hc := cnt_le x.inv.2.1 to
  exact ⟨n, l, T, ⟨T, hg, Or.inl ⟨rfl, rfl, rfl⟩, by omega, hc.1⟩, hl⟩
theorem StI.below {w0 w : World} {b1 b2 : Nat} {n l : Int} {T : List Tm} {to e : Int} {lv : Value} {L : List Tm} (h : StI w0 w b1 b2 n l T to e lv L) : Below w0.heap.size w0 w := by
  obtain ⟨T2, hg, _⟩ := h.ex
  exact hg.below
theorem StI.fin {w0 w : World} {b1 b2 : Nat} {n l : Int} {T : List Tm} {to e : Int} {lv : Value} {L : List Tm} (h : StI w0 w b1 b2 n l T to e lv L) (hl : l ≤ 9223372036854775807) :
    Calls Try.prog 14 #[.pointer (some ⟨b2, 0, none⟩), .int .i64 to] w fun en w1 => ∃ (ad : Option Addr) (cap : Nat) (F : List Tm), en = .returned (.slice ad F.length cap) ∧ ∃ (ad2 : Option Addr) (cap2 : Nat) (L2 : List Tm) (w2 : World), (Builtin.append_ #[41, 41] 41 #[lv, .slice ad F.length cap]).run Try.prog w1 = .ok (.slice ad2 L2.length cap2) w2 ∧
      Hid (Calls Try.prog 14 #[.pointer (some ⟨b1, 0, none⟩), .int .i64 to] w2 fun en w3 => ∃ ad3 cap3, en = .returned (.slice ad3 L2.length cap3) ∧ ∃ S, Hid (TA w0 w3 b1 b2 (cnt n to) l S (cnt n to) l S (.slice ad2 L2.length cap2) L2 [] (.slice ad3 L2.length cap3) L2) ∧ Hid (L2.length ≤ 1048576)) := by
  have hlen := h.len
  obtain ⟨T2, hg, hF, h1, h2⟩ := h.ex
  have hc := cnt_end hlen.2.2.1 h1 h2
  refine (h.go hl to (Int.le_refl _)).mono ?_
  rintro en w1 ⟨ad, cap, F, rfl, ad2, cap2, L2, w2, hrun, HS⟩
  obtain ⟨s1, s2⟩ := HS.out
  rw [hc] at s1 s2
  have hl2 := s1.len.1
  refine ⟨ad, cap, F, rfl, ad2, cap2, L2, w2, hrun, (s1.all s2 hl).mono ?_⟩
  rintro en w3 ⟨ad3, cap3, rfl, S, HT⟩
  exact ⟨ad3, cap3, rfl, S, HT, by unfold Hid; omega⟩
set_option maxRecDepth 20000 in
set_option maxHeartbeats 8000000 in
theorem wheelCuts_walk (xs : List OpW) (ao : Option Addr) (co : Nat) (as_ : Option Addr) (cs : Nat) (zs : List Int) (to : Int) (w : World) (hx : OpsAt w ao xs) (hsx : xs.length * 24 ≤ 140737488351232) (hz : PartI w as_ cs zs) (hsz : zs.length * 8 ≤ 140737488351232) (hto : -9223372036854775808 ≤ to ∧ to ≤ 9223372036854775807) :
    Calls Try.prog 6 #[.slice ao xs.length co, .slice as_ zs.length cs, .int .i64 to] w fun e w' => e = .returned (.bool true) ∧ Below w.heap.size w w' := by
  have HL := hid (live_any w)
  have HN1 := hid lv_new
  have HX := hid hx
  have HZ := hid hz
  have HSX := hid hsx
  have HSZ := hid hsz
  obtain ⟨N, hN⟩ : ∃ N, N = xs.length := ⟨_, rfl⟩
  obtain ⟨M, hM⟩ : ∃ M, M = zs.length := ⟨_, rfl⟩
  have HN := hid hN
  have HM := hid hM
  rw [← hN, ← hM]
  have hNb : N ≤ 140737488351232 := by omega
  have hMb : M ≤ 140737488351232 := by omega
  have hNi : (N : Int) ≤ 140737488351232 := by omega
  have hMi : (M : Int) ≤ 140737488351232 := by omega
  clear hx hz hsx hsz hN hM hto
  go_enter Try.func6, Try.ntmps6
  go_wp2_with (first
    | (go_at_call 7; refine HL.out.mono ?_; go_loud (rintro e w1 ⟨rfl, hb⟩; have HB := hid hb; clear hb HL))
    | (go_at_call 8; refine (HN2.out).mono ?_; go_loud (rintro e w3 ⟨b2, rfl, HT⟩; clear HN2 HV))
    | (go_at_call 8; refine (HN1.out w1).mono ?_; go_loud (rintro e w2 ⟨b1, rfl, HV⟩; have HN2 := hid (tg_new2 w1 HV.out)))
    | fail)
  clear HN1
  have HA0 : Hid (AhI w1 w3 b1 b2 0) := ⟨0, 0, [], HT.out, by omega⟩
  clear HT
  go_loopw [10, 11, 12, 13, 14, 15, 16, 17, 18] (fun iv _ _ _ _ _ _ _ _ wr => ∃ i : Nat, iv = .int .i64 i ∧ Hid (i ≤ N) ∧ Hid (AhI w1 wr b1 b2 i)) (fun iv _ _ _ _ _ _ _ _ _ => N - (intOf iv).toNat)
  case atStart => exact ⟨0, rfl, Nat.zero_le _, HA0⟩
  case round =>
    clear HA0
    obtain ⟨i, rfl, HI, HA⟩ := hrel
    by_cases hi : i < N
    · have hi2 : (i : Int) < N := by omega
      have hix : i < xs.length := by rw [← HN.out]; exact hi
      obtain ⟨ob, oo, hoa, k1, k2, k3, kk⟩ := HX.out i hix
      have hbw : Below w.heap.size w wr := bstep HB.out HA.out.below
      have hcell : ∀ p u, w.cell? p = some u → wr.cell? p = some u := fun p u h => by rw [hbw.cell (World.block_lt_of_cell? w p h)]; exact h
      have c1 := hcell _ _ k1
      have c2 := hcell _ _ k2
      have c3 := hcell _ _ k3
      subst hoa
      have HAr := hid (fun t tag => HA.out.arm (by omega) (.cells #[.int .i64 (xs.getD i OpW.nil).k, .int .i64 (xs.getD i OpW.nil).a, .int .i64 (xs.getD i OpW.nil).g] 34) t tag)
      have HAv := hid (fun t => HA.out.adv (by omega) (.cells #[.int .i64 (xs.getD i OpW.nil).k, .int .i64 (xs.getD i OpW.nil).a, .int .i64 (xs.getD i OpW.nil).g] 34) t)
      have HAi := hid (HA.out.idle (.cells #[.int .i64 (xs.getD i OpW.nil).k, .int .i64 (xs.getD i OpW.nil).a, .int .i64 (xs.getD i OpW.nil).g] 34))
      clear k1 k2 k3 kk hcell hbw hix HA
      generalize (xs.getD i OpW.nil).k = k at *
      generalize (xs.getD i OpW.nil).a = a at *
      generalize (xs.getD i OpW.nil).g = g at *
      by_cases h1 : k = 1
      · subst h1
        clear HAv HAi
        go_wp2_with (first
          | (go_at_call 12; refine HR2.out.mono ?_; go_loud (rintro e wb ⟨rfl, hh2, HA2⟩; have e0 := cellHeap hh2 0 rfl; clear HR2 hh2 d1 d2))
          | (go_at_call 12; refine (HAr.out a g).mono ?_; go_loud (rintro e wa ⟨ra, rc, rfl, hh, HR2⟩; have d1 := cellHeap hh 1 rfl; have d2 := cellHeap hh 2 rfl; clear hh HAr))
          | fail)
        go_roundw
        case rel => exact ⟨i + 1, by go_num, by unfold Hid; omega, HA2⟩
        case measure => simp [intOf]; omega
      · by_cases h3 : k = 3
        · subst h3
          clear HAr HAi h1
          go_wp2_with (first
            | (go_at_call 18; refine HR3.out.mono ?_; go_loud (rintro e wc ⟨rfl, HA2⟩; clear HR3))
            | (go_at_call 14; refine HR2.out.mono ?_; go_loud (rintro e wb ⟨ad2, cap2, rfl, HR3⟩; clear HR2))
            | (go_at_call 14; refine (HAv.out a).mono ?_; go_loud (rintro e wa ⟨ad, cap, Ln, rfl, hh, HR2⟩; have d1 := cellHeap hh 1 rfl; clear hh HAv))
            | fail)
          go_roundw
          case rel => exact ⟨i + 1, by go_num, by unfold Hid; omega, HA2⟩
          case measure => simp [intOf]; omega
        · clear HAr HAv
          go_wp2
          go_roundw
          case rel => exact ⟨i + 1, by go_num, by unfold Hid; omega, HAi⟩
          case measure => simp [intOf]; omega
    · have hie : i = N := by have := HI.out; omega
      subst hie
      obtain ⟨n, l, T, hS, hl⟩ := HA.out.st to
      have HS0 := hid hS
      have HLL : Hid (l ≤ 9223372036854775807) := by unfold Hid; omega
      have hn0 := hS.len.2.2.1
      have HN0 := hid hn0
      clear HA hS hl hi HI HX HSX hn0
      go_wp2_with fail
      go_loopw [19, 20, 21] (fun lv iv _ wz => ∃ (j : Nat) (e : Int) (ad : Option Addr) (cap : Nat) (L : List Tm), lv = .slice ad L.length cap ∧ iv = .int .i64 j ∧ Hid (j ≤ M) ∧ Hid (StI w1 wz b1 b2 n l T to e (.slice ad L.length cap) L)) (fun _ iv _ _ => M - (intOf iv).toNat)
      case atStart => exact ⟨0, n, none, 0, [], rfl, rfl, Nat.zero_le _, HS0⟩
      case round =>
        clear HS0
        obtain ⟨j, e, ad, cap, L, rfl, rfl, HJ, HS⟩ := hrel
        by_cases hj : j < M
        · have hj2 : (j : Int) < M := by omega
          have hjz : j < zs.length := by rw [← HM.out]; exact hj
          obtain ⟨ob, oo, hoa, k1⟩ := HZ.out.at_ j hjz
          have hbw : Below w.heap.size w wr := bstep HB.out HS.out.below
          have c1 : wr.cell? ⟨ob, oo + j, none⟩ = some (.int .i64 (zs.getD j 0)) := by rw [hbw.cell (World.block_lt_of_cell? w _ k1)]; exact k1
          subst hoa
          clear k1 hbw hjz
          by_cases hz : zs.getD j 0 ≤ to
          · have HG := hid (HS.out.go HLL.out _ hz)
            clear HS
            generalize zs.getD j 0 = z at *
            go_wp2_with (first
              | (go_at_call 14; refine HG.out.mono ?_; go_loud (rintro en wa ⟨ad1, cap1, F1, rfl, ad2, cap2, L2, wb, hrun, HS2⟩; have HRUN := hid hrun; clear hrun HG))
              | (at_builtin; refine wpList_append_run _ rfl _ _ _ _ rfl _ _ rfl rfl HRUN.out ?_)
              | fail)
            go_roundw
            case rel => exact ⟨j + 1, _, ad2, cap2, L2, rfl, by go_num, by unfold Hid; omega, HS2.out.1⟩
            case measure => simp [intOf]; omega
          · generalize zs.getD j 0 = z at *
            go_wp2
            go_roundw
            case rel => exact ⟨j + 1, e, ad, cap, L, rfl, by go_num, by unfold Hid; omega, HS⟩
            case measure => simp [intOf]; omega
        · have hje : j = M := by have := HJ.out; omega
          subst hje
          have HG := hid (HS.out.fin HLL.out)
          clear HS HJ hj HZ HSZ
          go_wp2_with (first
            | (go_at_call 14; refine HG2.out.mono ?_; go_loud (rintro en wc ⟨ad3, cap3, rfl, S, HTA, HLe⟩; clear HG2; obtain ⟨_, hsm⟩ := HTA.out.same rfl HLe.out; have HSM := hid hsm; clear hsm))
            | (go_at_call 14; refine HG.out.mono ?_; go_loud (rintro en wa ⟨ad1, cap1, F1, rfl, ad2, cap2, L2, wb, hrun, HG2⟩; have HRUN := hid hrun; clear hrun HG))
            | (at_builtin; refine wpList_append_run _ rfl _ _ _ _ rfl _ _ rfl rfl HRUN.out ?_)
            | (go_at_call 18; refine HSM.out.mono ?_; go_loud (rintro en wd ⟨rfl, HT4⟩; clear HSM HTA; have HX1 := hid (HT4.out.next1 HLL.out)))
            | (go_at_call 15; refine HX2.out.mono ?_; go_loud (rintro en wf ⟨rfl, HT6⟩; clear HX2 HT5; have HNa := hid HT6.out.now1; have HNb := hid HT6.out.now2; have HLa := hid HT6.out.len1; have HLb := hid HT6.out.len2))
            | (go_at_call 15; refine HX1.out.mono ?_; go_loud (rintro en we ⟨rfl, HT5⟩; clear HX1 HT4; have HX2 := hid (HT5.out.next2 HLL.out)))
            | (go_at_call 17; first | ((with_reducible refine HNa.out.mono ?_); go_loud (rintro en wg ⟨rfl, hw⟩; subst wg)) | ((with_reducible refine HNb.out.mono ?_); go_loud (rintro en wg ⟨rfl, hw⟩; subst wg)))
            | (go_at_call 16; first | ((with_reducible refine HLa.out.mono ?_); go_loud (rintro en wg ⟨rfl, hw⟩; subst wg)) | ((with_reducible refine HLb.out.mono ?_); go_loud (rintro en wg ⟨rfl, hw⟩; subst wg)))
            | fail)
          go_ret
          exact ⟨rfl, bstep HB.out HT6.out.below⟩
end Go.Proofs.Ythgcjocjkeieaaa
