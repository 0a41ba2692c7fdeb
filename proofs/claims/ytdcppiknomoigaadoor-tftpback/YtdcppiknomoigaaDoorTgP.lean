/-
  Tftp: the statement's owned, walked.
-/
import Derived.Test.YtdcppiknomoigaaDoorTgO
namespace Go.Proofs.YtdcppiknomoigaaDoor
open Go.RowKit
set_option linter.all false

theorem Gz.below' {B : Nat} {w1 : World} {gl : Nat} {vs : List Value} {wr wx : World} {i : Nat} {gv : Value} {gs : List Value} (h : Gz B w1 gl vs wr i gv gs) (hb : Below wr.heap.size wr wx) (hB : B ≤ w1.heap.size) : Below B w1 wx := h.below.trans (hb.mono (Nat.le_trans hB h.le))
set_option maxRecDepth 20000 in
set_option maxHeartbeats 16000000 in
theorem cowned_any (B gl m : Nat) (vs : List Value) (w : World) (hr : Rows B w vs) (hl : ListB w gl vs) (hm : m = vs.length) (hm3 : m ≤ 100) (hB : B ≤ w.heap.size) :
    Calls Tryd.prog 20 #[.slice (some ⟨gl, 0, none⟩) m m] w fun e w' => e = .returned (.bool true) ∧ Hid (Below B w w') := by
  have HR := hid hr
  have HM := hid hm
  have HB := hid hB
  have H0 := hid (Ov.start hr hl hB)
  have HVS : Hid (∀ j, j < vs.length → ∀ b, (vs.getD j nilS).ownBlock = some b → B ≤ b ∧ b < w.heap.size) := fun j hj b hb => by
    obtain ⟨l, h1, _⟩ := hr.each j hj
    exact ⟨hr.new j hj b hb, RowS.lt h1 hb⟩
  have hmz : (m : Int) ≤ 100 := by omega
  have HGL : Hid (gl < w.heap.size) := heap_lt hl
  clear hr hl hm hB
  go_enter Tryd.func20, Tryd.ntmps20
  go_wp2_with fail
  -- written over
  go_loopw [3, 4] (fun vi _ wr => ∃ i : Nat, vi = .int .i64 i ∧ Hid (i ≤ m) ∧ Hid (Ov B w gl vs wr i 0)) (fun vi _ _ => m - (intOfT vi).toNat)
  case atStart => exact ⟨0, rfl, Nat.zero_le _, H0⟩
  case round =>
    clear H0
    obtain ⟨i, rfl, HI, HO⟩ := hrel
    by_cases hi : i < m
    · have hi2 : (i : Int) < (m : Int) := by omega
      have hiz : (0 : Int) ≤ (i : Int) := by omega
      have hil : i < vs.length := by rw [← HM.out]; exact hi
      obtain ⟨l0, hl0, hl1, _⟩ := HO.out.each i hil
      obtain ⟨a, c, hv⟩ := hl0.form
      have HV := hid hv
      obtain ⟨N, hN⟩ : ∃ N, N = l0.length := ⟨_, rfl⟩
      rw [← hN] at HV hl1
      have hNz : (N : Int) ≤ 1000 := by omega
      clear hl0 hv hN
      go_wp2_with fail
      go_loopw [4] (fun vk wr => ∃ k : Nat, vk = .int .i64 k ∧ Hid (k ≤ N) ∧ Hid (Ov B w gl vs wr i k)) (fun vk _ => N - (intOfT vk).toNat)
      case atStart => exact ⟨0, rfl, Nat.zero_le _, HO⟩
      case round =>
        clear HO
        obtain ⟨k, rfl, HK, HO⟩ := hrel
        have hgc := listB_get HO.out.list hil
        rw [HV.out] at hgc
        by_cases hk : k < N
        · have hk2 : (k : Int) < (N : Int) := by omega
          have hkz : (0 : Int) ≤ (k : Int) := by omega
          obtain ⟨g, rfl, ⟨u0, c0⟩, ⟨u1, c1⟩, hf, hW⟩ := HO.out.write HR.out hil HV.out hk
          have HW := hid hW
          have f0 := hf (k * 2)
          have f1 := hf (k * 2 + 1)
          have hw : IntKind.i64.wrap (-100 - (i : Int)) = -100 - (i : Int) := by simp only [IntKind.wrap_i64]; omega
          clear hf hW HO
          go_wp2_with fail
          go_roundw
          case rel => exact ⟨k + 1, by first | rfl | (congr 1; omega), by unfold Hid; omega, HW⟩
          case measure => simp only [intOfT]; omega
        · have hk2 : ¬ (k : Int) < (N : Int) := by omega
          have HN2 := hid (HO.out.next hil HV.out (by omega))
          clear HO
          go_wp2_with fail
          go_roundw
          case rel => exact ⟨i + 1, by first | rfl | (congr 1; omega), by unfold Hid; omega, HN2⟩
          case measure => simp only [intOfT]; omega
    · have him : i = m := by have := HI.out; omega
      have hi2 : ¬ (i : Int) < (m : Int) := by omega
      have HO2 : Hid (Ov B w gl vs wr vs.length 0) := by have := HO.out; rw [him, HM.out] at this; exact this
      have HZ0 : Hid (Gz B wr gl vs wr 0 (.slice none 0 0) []) := Gz.start (w := w) HO2.out
      have HVR : Hid (∀ j, j < vs.length → ∀ b, (vs.getD j nilS).ownBlock = some b → B ≤ b ∧ b < wr.heap.size) := fun j hj b hb => by
        obtain ⟨l, h1, _⟩ := HO2.out.each j hj
        exact ⟨(HVS.out j hj b hb).1, RowS.lt h1 hb⟩
      have HBR := hid HO2.out.below
      have HLR := hid HO2.out.le
      have HGR : Hid (gl < wr.heap.size) := heap_lt HO2.out.list
      clear HO HO2 HVS HI him hi
      go_wp2_with fail
      obtain ⟨w1, hw1⟩ : ∃ w1, w1 = wr := ⟨_, rfl⟩
      rw [← hw1] at HVR HBR HLR HGR
      have HZ1 : Hid (Gz B w1 gl vs wr 0 (.slice none 0 0) []) := by unfold Hid; rw [hw1]; exact HZ0.out
      clear HZ0 hw1
      -- grown
      go_loopw [5, 6, 7, 8] (fun vg vi _ _ wr => ∃ (i gn gc : Nat) (ga : Option Addr) (gs : List Value), vg = .slice ga gn gc ∧ vi = .int .i64 i ∧ Hid (i ≤ m) ∧ Hid (gn = 5 * i ∧ Gz B w1 gl vs wr i (.slice ga gn gc) gs)) (fun _ vi _ _ _ => m - (intOfT vi).toNat)
      case atStart => exact ⟨0, 0, 0, none, [], rfl, rfl, Nat.zero_le _, rfl, HZ1.out⟩
      case round =>
        clear HZ1
        obtain ⟨i, gn, gc, ga, gs, rfl, rfl, HI, HG⟩ := hrel
        by_cases hi : i < m
        · have hi2 : (i : Int) < (m : Int) := by omega
          have hiz : (0 : Int) ≤ (i : Int) := by omega
          have hil : i < vs.length := by rw [← HM.out]; exact hi
          obtain ⟨a, N, c, hv, hN, hGW⟩ := HG.out.2.enter hil HVR.out HR.out.apart
          have hgc := listB_get HG.out.2.list hil
          rw [hv] at hgc
          have HGL5 := hid HG.out.2.len
          have HGW := hid hGW
          have HGN := hid HG.out.1
          clear hGW hv HG
          go_wp2_with fail
          go_loopw [5, 7, 8] (fun vg vx vk wr => ∃ (k gn gc nx cx : Nat) (ga ax : Option Addr) (gs : List Value), vg = .slice ga gn gc ∧ vx = .slice ax nx cx ∧ vk = .int .i64 k ∧ Hid (k ≤ 5) ∧ Hid (gs.length = 5 * i + k ∧ gn = 5 * i + k ∧ nx = N + k ∧ Gw B w1 gl vs wr i (.slice ax nx cx) nx (.slice ga gn gc) gs)) (fun _ _ vk _ => 5 - (intOfT vk).toNat)
          case atStart => exact ⟨0, gn, gc, N, c, ga, a, gs, rfl, rfl, rfl, Nat.zero_le _, HGL5.out, HGN.out, rfl, HGW.out⟩
          case round =>
            clear HGW HGL5 HGN
            obtain ⟨k, gn, gc, nx, cx, ga, ax, gs, rfl, rfl, rfl, HK, HG⟩ := hrel
            by_cases hk : k < 5
            · have hk2 : (k : Int) < 5 := by omega
              obtain ⟨h1, h2, h3, h4⟩ := HG.out
              obtain ⟨ad, cap, w2, hrun, hG2, _⟩ := h4.push HVR.out HR.out.apart hil (by omega) (fun t ht => by omega) HLR.out
              obtain ⟨w3, ad', cap', hrun3, hG3⟩ := hG2.aside (by omega) hk h1 (by omega) HLR.out HGR.out
              have HF : Hid ((gs ++ [Value.slice ad (nx + 1) cap]).length = 5 * i + (k + 1) ∧ gs.length + 1 = 5 * i + (k + 1) ∧ nx + 1 = N + (k + 1) ∧ Gw B w1 gl vs w3 i (.slice ad (nx + 1) cap) (nx + 1) (.slice ad' (gs.length + 1) cap') (gs ++ [.slice ad (nx + 1) cap])) := ⟨by simp; omega, by omega, by omega, hG3⟩
              have hw : IntKind.i64.wrap (-100 - (i : Int)) = -100 - (i : Int) := by simp only [IntKind.wrap_i64]; omega
              clear h1 h2 h3 h4 hG2 hG3 HG
              go_wp2_with (first
                | (at_builtin; refine wpList_append_run _ rfl _ _ 23 23 rfl _ _ rfl rfl hrun ?_; clear hrun)
                | (at_builtin; refine wpList_append_run _ rfl _ _ 44 44 rfl _ _ rfl rfl hrun3 ?_; clear hrun3)
                | fail)
              go_roundw
              case rel => exact ⟨k + 1, gs.length + 1, cap', nx + 1, cap, ad', ad, _, rfl, rfl, by first | rfl | (congr 1; omega), by unfold Hid; omega, HF.out⟩
              case measure => simp only [intOfT]; omega
            · have hk5 : k = 5 := by have := HK.out; omega
              subst hk5
              have HZ := hid (HG.out.2.2.2.leave HG.out.1)
              have HGN : Hid (gn = 5 * (i + 1)) := by have := HG.out.2.1; unfold Hid; omega
              clear HG HK hk
              go_wp2_with fail
              go_roundw
              case rel => exact ⟨i + 1, gn, gc, ga, gs, rfl, by first | rfl | (congr 1; omega), by unfold Hid; omega, HGN.out, HZ.out⟩
              case measure => simp only [intOfT]; omega
        · have him : i = m := by have := HI.out; omega
          have hi2 : ¬ (i : Int) < (m : Int) := by omega
          have hgn : gn = 5 * m := by rw [← him]; exact HG.out.1
          have HZ := hid HG.out.2
          have hgnz : (gn : Int) ≤ 500 := by omega
          have HLEN : Hid (gs.length = gn) := by have := HG.out.2.len; have := HG.out.1; unfold Hid; omega
          clear HG HI him hi hgn
          go_wp2_with fail
          obtain ⟨w2, hw2⟩ : ∃ w2, w2 = wr := ⟨_, rfl⟩
          rw [← hw2] at HZ
          have HB2 : Hid (Below w2.heap.size w2 wr) := by rw [hw2]; exact Below.refl _ _
          clear hw2
          -- and all read so
          go_loopw [9, 10] (fun vi _ wr => ∃ t : Nat, vi = .int .i64 t ∧ Hid (t ≤ gn) ∧ Hid (Below w2.heap.size w2 wr)) (fun vi _ _ => gn - (intOfT vi).toNat)
          case atStart => exact ⟨0, rfl, Nat.zero_le _, HB2⟩
          case round =>
            clear HB2
            obtain ⟨t, rfl, HT, HBW⟩ := hrel
            by_cases ht : t < gn
            · have ht2 : (t : Int) < (gn : Int) := by omega
              have htz : (0 : Int) ≤ (t : Int) := by omega
              have htl : t < gs.length := by rw [HLEN.out]; exact ht
              obtain ⟨b, Nt, cp, q1, q2, q3, q4, _, cur, q9⟩ := HZ.out.ent t htl
              obtain ⟨gg, gcap, hgv, kg2⟩ := HZ.out.grow.cell t htl
              have hge : gs[t] = Value.slice (some ⟨b, 0, none⟩) Nt cp := by
                rw [List.getD_eq_getElem?_getD, List.getElem?_eq_getElem htl] at q1; exact q1
              rw [hge] at kg2
              simp only [Value.slice.injEq] at hgv
              obtain ⟨hga, -, -⟩ := hgv
              subst hga
              have HKG := hid kg2
              have HGT : Hid (gg < w2.heap.size) := World.block_lt_of_cell? _ _ kg2
              have kg : wr.cell? ⟨gg, t, none⟩ = some (.slice (some ⟨b, 0, none⟩) Nt cp) := (HBW.out.cell (p := ⟨gg, t, none⟩) HGT.out).trans kg2
              clear kg2
              obtain ⟨tq, htq⟩ : ∃ tq : Nat, tq = t / 5 := ⟨_, rfl⟩
              have htqi : (t : Int) / 5 = (tq : Int) := by omega
              have htdiv : (t : Int).tdiv 5 = (tq : Int) := by rw [Int.tdiv_eq_ediv_of_nonneg htz]; exact htqi
              rw [← htq] at q3
              have htqb : tq ≤ 100 := by omega
              have HC : Hid (∀ k, k < Nt → w2.cell? ⟨b, k * 2, none⟩ = some (.string ⟨#[]⟩) ∧ w2.cell? ⟨b, k * 2 + 1, none⟩ = some (.int .i64 (-100 - (tq : Int)))) := fun k hk => by
                rcases q3 with h | ⟨b', o', h1, h2⟩
                · have := congrArg List.length h; rw [mkL_len] at this; simp at this; omega
                · simp only [Option.some.injEq, Addr.mk.injEq, and_true] at h1
                  obtain ⟨rfl, rfl⟩ := h1
                  have := h2 k _ (mkL_get hk)
                  rw [Nat.zero_add] at this
                  exact this
              have HLB : Hid (b < w2.heap.size) := q3.lt q4
              have hNz : (Nt : Int) ≤ 1005 := by omega
              have hw : IntKind.i64.wrap (-100 - (tq : Int)) = -100 - (tq : Int) := by simp only [IntKind.wrap_i64]; omega
              have hwq : IntKind.i64.wrap (tq : Int) = (tq : Int) := by simp only [IntKind.wrap_i64]; omega
              clear q1 q3 q9 hge htq
              have hq : ∀ wx, (Op.equalIn 10000 56 (.agg #[.string ⟨#[]⟩, .int .i64 (-100 - (tq : Int))]) (.agg #[.string ⟨#[]⟩, .int .i64 (-100 - (tq : Int))])).run Tryd.prog wx = .ok true wx := fun wx => choice_same _ _ wx
              go_wp2_with fail
              clear kg
              go_loopw [10] (fun vk wr => ∃ k : Nat, vk = .int .i64 k ∧ Hid (k ≤ Nt) ∧ Hid (Below w2.heap.size w2 wr)) (fun vk _ => Nt - (intOfT vk).toNat)
              case atStart => exact ⟨0, rfl, Nat.zero_le _, HBW⟩
              case round =>
                clear HBW
                obtain ⟨k, rfl, HK, HBW⟩ := hrel
                have kg : wr.cell? ⟨gg, t, none⟩ = some (.slice (some ⟨b, 0, none⟩) Nt cp) := (HBW.out.cell (p := ⟨gg, t, none⟩) HGT.out).trans HKG.out
                by_cases hk : k < Nt
                · have hk2 : (k : Int) < (Nt : Int) := by omega
                  have hkz : (0 : Int) ≤ (k : Int) := by omega
                  have c0 : wr.cell? ⟨b, k * 2, none⟩ = some (.string ⟨#[]⟩) := (HBW.out.cell (p := ⟨b, k * 2, none⟩) HLB.out).trans (HC.out k hk).1
                  have c1 : wr.cell? ⟨b, k * 2 + 1, none⟩ = some (.int .i64 (-100 - (tq : Int))) := (HBW.out.cell (p := ⟨b, k * 2 + 1, none⟩) HLB.out).trans (HC.out k hk).2
                  go_wp2_with fail
                  go_roundw
                  case rel => exact ⟨k + 1, by first | rfl | (congr 1; omega), by unfold Hid; omega, HBW⟩
                  case measure => simp only [intOfT]; omega
                · have hk2 : ¬ (k : Int) < (Nt : Int) := by omega
                  clear hq
                  go_wp2_with fail
                  go_roundw
                  case rel => exact ⟨t + 1, by first | rfl | (congr 1; omega), by unfold Hid; omega, HBW⟩
                  case measure => simp only [intOfT]; omega
            · have htm : t = gn := by have := HT.out; omega
              have ht2 : ¬ (t : Int) < (gn : Int) := by omega
              have HFIN : Hid (Below B w wr) := HBR.out.trans (HZ.out.below' HBW.out HLR.out)
              clear HT ht htm HZ HBW
              go_wp2_with fail
              go_ret
              exact ⟨rfl, HFIN⟩
end Go.Proofs.YtdcppiknomoigaaDoor
