/-
  The walk of the statement OctetSums.
-/
import Derived.Test.YtakjcjddbgapiaaDoorSumsC
namespace Go.Proofs.YtakjcjddbgapiaaDoor
open Go.RowKit
set_option linter.unusedVariables false

/-- the lent slices as parts. -/
def lentParts (gs : List Nat) (ps : List Part) : List Part := (List.range ps.length).map fun i => ⟨some ⟨gs.getD i 0, 0, none⟩, (ps.getD i Part.nil).zs.length + 2, (ps.getD i Part.nil).zs⟩
theorem lentParts_len (gs : List Nat) (ps : List Part) : (lentParts gs ps).length = ps.length := by simp [lentParts]
theorem lentParts_at (gs : List Nat) (ps : List Part) (i : Nat) (h : i < ps.length) : (lentParts gs ps).getD i Part.nil = ⟨some ⟨gs.getD i 0, 0, none⟩, (ps.getD i Part.nil).zs.length + 2, (ps.getD i Part.nil).zs⟩ := by
  simp [lentParts, List.getD_eq_getElem?_getD, h]
theorem getD_range (ps : List Part) : (List.range ps.length).map (fun i => (ps.getD i Part.nil).zs) = ps.map (·.zs) := by
  apply List.ext_getElem?
  intro i
  by_cases h : i < ps.length
  · simp [h, List.getD_eq_getElem?_getD]
  · simp [h]
theorem lentParts_flat (gs : List Nat) (ps : List Part) : flat (lentParts gs ps) = flat ps := by
  unfold flat lentParts
  rw [List.flatMap_def, List.flatMap_def, List.map_map]
  congr 1
  rw [← getD_range]
  rfl
theorem bulk_ge : ∀ (ps : List Part), (flat ps).length + ps.length = bulk ps
  | [] => rfl
  | p :: r => by
    have := bulk_ge r
    simp only [flat, bulk, List.flatMap_cons, List.length_append, List.length_cons, List.map_cons, List.sum_cons] at *
    omega

structure Stays (w0 wr : World) (g2 : Nat) (gs : List Nat) (ps : List Part) (k : Nat) : Prop where
  lie : ∀ i, k ≤ i → i < ps.length → wr.heap[gs.getD i 0]? = some (.cells (L2 (ps.getD i Part.nil).zs) 5 (0, 0))
  cell : ∀ i, i < ps.length → wr.cell? ⟨g2, i, none⟩ = some (lentVal (gs.getD i 0) (ps.getD i Part.nil))
  below : Below w0.heap.size w0 wr

theorem LentTo.done {w0 wr : World} {v : Value} {gs : List Nat} {ps : List Part} (h : LentTo w0 wr v gs ps ps.length) :
    (ps = [] ∧ v = .slice none 0 0) ∨ ∃ g2 cap, v = .slice (some ⟨g2, 0, none⟩) ps.length cap ∧ Stays w0 wr g2 gs ps 0 ∧ ∀ i, i < ps.length → gs.getD i 0 ≠ g2 := by
  rcases h.own.2 with ⟨rfl, h0⟩ | ⟨g2, cap, cur, rfl, hB, hg2, h1, h2, h3, h4⟩
  · left
    exact ⟨List.eq_nil_of_length_eq_zero h0, rfl⟩
  · right
    refine ⟨g2, cap, rfl, ⟨fun i _ hi => (h.lie i hi).2, fun i hi => ?_, h.below⟩, fun i hi e => ?_⟩
    · rw [cell_of_heap hg2]
      have e1 : (cur.toList.take (ps.length * 1))[i]? = (lentVals gs ps ps.length)[i]? := by rw [h4]
      rw [List.getElem?_take, if_pos (by omega)] at e1
      rw [← Array.getElem?_toList, e1]
      simp [lentVals, hi]
    · have := (h.lie i hi).2
      rw [e, hg2] at this
      simp at this

theorem Stays.next {w0 wr wn : World} {g2 : Nat} {gs : List Nat} {ps : List Part} {k : Nat} (h : Stays w0 wr g2 gs ps k) (hk : k < ps.length) (ho : Only (gs.getD k 0) wr wn) (hne : gs.getD k 0 ≠ g2)
    (hr : ∀ i j, i < j → j < ps.length → gs.getD i 0 < gs.getD j 0) (hB : w0.heap.size ≤ gs.getD k 0) : Stays w0 wn g2 gs ps (k + 1) := by
  refine ⟨fun i hi hl => ?_, fun i hi => ?_, h.below.trans (ho.below hB)⟩
  · rw [ho.block _ (by have := hr k i (by omega) hl; omega)]
    exact h.lie i (by omega) hl
  · rw [ho.cell (p := ⟨g2, i, none⟩) (fun e => hne e.symm)]
    exact h.cell i hi

theorem PartsAt.below {w w' : World} {a : Option Addr} {ps : List Part} (h : PartsAt w a ps) (hb : Below w.heap.size w w') : PartsAt w' a ps := by
  refine ⟨fun i hi => ?_, fun p hp => Part.ok_below (h.2 p hp) hb⟩
  obtain ⟨b, o, ha, hc⟩ := h.1 i hi
  exact ⟨b, o, ha, by rw [hb.cell (p := ⟨b, o + i, none⟩) (World.block_lt_of_cell? w _ hc)]; exact hc⟩

theorem stays_ok {w0 wr : World} {g2 : Nat} {gs : List Nat} {ps : List Part} (h : Stays w0 wr g2 gs ps 0) (hz : ∀ p, p ∈ ps → ∀ z, z ∈ p.zs → 0 ≤ z ∧ z ≤ 255) : ∀ p, p ∈ lentParts gs ps → p.ok wr := by
  intro p hp
  obtain ⟨i, hi, rfl⟩ := List.mem_map.1 hp
  have hi' : i < ps.length := by simpa using hi
  refine ⟨hz (ps.getD i Part.nil) (by rw [List.getD_eq_getElem?_getD, List.getElem?_eq_getElem hi']; exact List.getElem_mem hi'), Or.inr ⟨_, 0, rfl, fun j hj => ?_⟩⟩
  rw [cell_of_heap (h.lie i (Nat.zero_le _) hi'), Nat.zero_add, L2_lo _ _ hj]

theorem only_drew (g : Nat) (w : World) : Only g w w.drew := ⟨rfl, rfl, rfl, rfl, fun _ _ => rfl⟩
theorem L2_ints {zs : List Int} {j : Nat} {p : Part} (h : (L2 zs)[j]? = some p.val) : False := by
  have hm := Array.mem_of_getElem? h
  simp [L2, u8s, Part.val] at hm

set_option maxHeartbeats 1000000 in
theorem octetSums_walk (a : Option Addr) (c : Nat) (ps : List Part) (w : World) (ht : Pow10 w) (hpa : PartsAt w a ps) (hsz : ps.length * 24 ≤ 140737488351232 ∧ ∀ p, p ∈ ps → p.zs.length ≤ 140737488351232) :
    Calls Tryd.prog 7 #[.slice a ps.length c] w fun e w' => e = .returned (.bool true) ∧ Below w.heap.size w w' := by
  have HT : Hid (Pow10 w) := ht
  have HPA : Hid (∀ w', Below w.heap.size w w' → PartsAt w' a ps) := fun w' hb => hpa.below hb
  have HPW : Hid (PartsAt w a ps) := hpa
  have HZ : Hid (∀ p, p ∈ ps → ∀ z, z ∈ p.zs → 0 ≤ z ∧ z ≤ 255) := fun p hp => (hpa.2 p hp).1
  have HSZ : Hid (∀ p, p ∈ ps → p.zs.length ≤ 140737488351232) := hsz.2
  have HSG : Hid (∀ i, i < ps.length → (ps.getD i Part.nil) ∈ ps) := fun i hi => by rw [List.getD_eq_getElem?_getD, List.getElem?_eq_getElem hi]; exact List.getElem_mem hi
  obtain ⟨N, hN⟩ : ∃ N, N = ps.length := ⟨_, rfl⟩
  have HN : Hid (N = ps.length) := hN
  have hn := hsz.1
  rw [← hN] at hn ⊢
  clear hN ht hpa hsz
  go_enter Tryd.func7, Tryd.ntmps7
  go_wp2_with fail
  rw [HN.out]
  refine (beyond_any a c ps _ HPW.out.1 HSZ.out (by rw [← HN.out]; omega)).mono ?_
  rintro e w1 ⟨rfl, rfl⟩
  rw [← HN.out]
  by_cases hmuch : 2147483647 < bulk ps
  · have hd : decide (2147483647 < bulk ps) = true := by simpa using hmuch
    rw [hd]
    go_wp2
    go_ret
    exact ⟨rfl, Below.refl _ _⟩
  · have hd : decide (2147483647 < bulk ps) = false := by simpa using hmuch
    rw [hd]
    have hbk := bulk_ge ps
    have hN2 : N ≤ 2147483647 := by rw [HN.out]; omega
    have HFL : Hid ((flat ps).length ≤ 2147483647) := by unfold Hid; omega
    clear hd hmuch hbk hn
    go_wp2_with fail
    refine (live_any _ HT.out).mono ?_
    rintro e w2 ⟨rfl, hb2⟩
    have HB2 : Hid (Below w1.heap.size w1 w2) := hb2
    have hz2 : w1.heap.size ≤ w2.heap.size := hb2.size
    clear hb2
    go_wp2
    go_loopw [5, 6] (fun v i wr => ∃ (k : Nat) (gs : List Nat) (v0 : Value), k ≤ N ∧ i = .int .i64 k ∧ v0 = v ∧ LentTo w2 wr v0 gs ps k) (fun _ i _ => N - (intOf i).toNat)
    case atStart => exact ⟨0, [], _, Nat.zero_le _, rfl, rfl, LentTo.start w2 ps⟩
    case round =>
      obtain ⟨k, gs, v0, hk, rfl, rfl, hlent⟩ := hrel
      have HL : Hid (LentTo w2 wr v0 gs ps k) := hlent
      have hzr : w2.heap.size ≤ wr.heap.size := hlent.below.size
      have HPR : Hid (PartsAt wr a ps) := HPA.out _ (HB2.out.trans (hlent.below.mono hz2))
      clear hlent
      by_cases hlt : k < N
      · have hkp : k < ps.length := by rw [← HN.out]; exact hlt
        have hlt2 : (k : Int) < (N : Int) := by omega
        obtain ⟨b, o, hab, hcell⟩ := HPR.out.1 k hkp
        obtain ⟨v', w', hrun, hnext⟩ := HL.out.next (by omega) 31
        have hpk := HSG.out k hkp
        obtain ⟨p, hp0⟩ : ∃ p, p = ps.getD k Part.nil := ⟨_, rfl⟩
        rw [← hp0] at hcell hrun hpk
        have HOK : Hid (p.ok wr) := HPR.out.2 p hpk
        have HPL : Hid (p.zs.length ≤ 140737488351232) := HSZ.out p hpk
        unfold lentVal at hrun
        have HRUN : Hid _ := hrun
        have HNX : Hid (LentTo w2 w' v' (gs ++ [wr.heap.size]) ps (k + 1)) := hnext
        have HV : Hid (p.val = .slice p.a p.zs.length p.c) := rfl
        rw [HV.out] at hcell
        clear hrun hnext hp0 hpk
        subst hab
        go_wp2_with fail
        rw [← HV.out]
        refine (lent_any p _ HOK.out HPL.out).mono ?_
        rintro e wx ⟨rfl, rfl⟩
        go_wp2_with (first
          | (at_builtin; refine wpList_append_run _ rfl (.tmp 27) (.tmp 29) 31 31 rfl _ _ rfl rfl HRUN.out ?_))
        go_roundw
        case rel => exact ⟨k + 1, _, _, by omega, by go_num, rfl, HNX.out⟩
        case measure => simp [intOf]; omega
      · have hkN : k = N := by omega
        have hge : ¬ (k : Int) < (N : Int) := by omega
        have HL2 : Hid (LentTo w2 wr v0 gs ps ps.length) := by have := HL.out; rw [hkN, HN.out] at this; exact this
        have HB3 : Hid (Below w1.heap.size w1 wr) := HB2.out.trans (HL.out.below.mono hz2)
        clear HL hkN
        go_wp2_with fail
        rcases HL2.out.done with ⟨he, hv⟩ | ⟨g2, cap, hv, hst, hne⟩
        · rw [hv]
          refine (sum_nil none 0 _).mono ?_
          rintro e w4 ⟨rfl, rfl⟩
          go_wp2_with fail
          rw [HN.out]
          refine (refSum_any a c ps _ HPR.out (by have := HFL.out; omega) (by rw [← HN.out]; omega)).mono ?_
          rintro e w5 ⟨rfl, rfl⟩
          have hS : sumOf (flat ps) = sumOf [] := by rw [he]; rfl
          rw [hS]
          generalize sumOf [] = S
          clear hS hv he HL2
          go_wp2
          refine wp_loop_rounds 1 ?_
          rw [rounds_succ]
          go_wp2
          go_ret
          exact ⟨by simp, HB3.out⟩
        · rw [hv]
          have hs := sum_any g2 0 cap (lentParts gs ps) wr (fun i hi => by
            rw [lentParts_len] at hi
            rw [lentParts_at gs ps i hi, Nat.zero_add, hst.cell i hi]
            rfl) (stays_ok hst HZ.out) (by rw [lentParts_flat]; have := HFL.out; omega) (by rw [lentParts_len, ← HN.out]; omega)
          rw [lentParts_flat, lentParts_len] at hs
          refine hs.mono ?_
          rintro e w4 ⟨rfl, rfl⟩
          go_wp2_with fail
          rw [HN.out]
          refine (refSum_any a c ps _ HPR.out (by have := HFL.out; omega) (by rw [← HN.out]; omega)).mono ?_
          rintro e w5 ⟨rfl, rfl⟩
          rw [← HN.out]
          have HST : Hid (Stays w2 w5 g2 gs ps 0) := hst
          have HNE : Hid (∀ i, i < ps.length → gs.getD i 0 ≠ g2) := hne
          have HRI : Hid (∀ i j, i < j → j < ps.length → gs.getD i 0 < gs.getD j 0) := HL2.out.rise
          have HLO : Hid (∀ i, i < ps.length → w2.heap.size ≤ gs.getD i 0) := fun i hi => (HL2.out.lie i hi).1
          clear hs hst hne HL2 HPR hv
          generalize sumOf (flat ps) = S
          go_wp2
          go_loopw [10] (fun i wq => ∃ k : Nat, k ≤ N ∧ i = .int .i64 k ∧ Stays w2 wq g2 gs ps k) (fun i _ => N - (intOf i).toNat)
          case atStart => exact ⟨0, Nat.zero_le _, rfl, HST.out⟩
          case round =>
            obtain ⟨k, hk, rfl, hst⟩ := hrel
            by_cases hlt : k < N
            · have hkp : k < ps.length := by rw [← HN.out]; exact hlt
              have hlt2 : (k : Int) < (N : Int) := by omega
              have hPQ := HPA.out _ (HB2.out.trans (hst.below.mono hz2))
              obtain ⟨b, o, hab, hcell⟩ := hPQ.1 k hkp
              have hpk := HSG.out k hkp
              have HNX : Hid (∀ wn, Only (gs.getD k 0) wr wn → Stays w2 wn g2 gs ps (k + 1)) := fun wn ho => hst.next hkp ho (HNE.out k hkp) HRI.out (HLO.out k hkp)
              have hc2 := hst.cell k hkp
              have hlie := hst.lie k (Nat.le_refl _) hkp
              have hgn := HNE.out k hkp
              have hgl := HLO.out k hkp
              obtain ⟨g, hg0⟩ : ∃ g, g = gs.getD k 0 := ⟨_, rfl⟩
              obtain ⟨p, hp0⟩ : ∃ p, p = ps.getD k Part.nil := ⟨_, rfl⟩
              rw [← hp0] at hcell hpk hc2 hlie
              rw [← hg0] at hc2 hlie hgn HNX hgl
              have HOK : Hid (p.ok wr) := hPQ.2 p hpk
              have HPL : Hid (p.zs.length ≤ 140737488351232) := HSZ.out p hpk
              have HLIE : Hid (wr.heap[g]? = some (.cells (L2 p.zs) 5 (0, 0))) := hlie
              have HV : Hid (p.val = .slice p.a p.zs.length p.c) := rfl
              have HGN : Hid (g2 ≠ g) := fun e => hgn e.symm
              have HBN : Hid (b ≠ g) := fun e => by
                rw [e] at hcell
                rw [cell_of_heap hlie] at hcell
                exact L2_ints hcell
              unfold lentVal at hc2
              rw [HV.out] at hcell
              clear hp0 hg0 hpk hlie hgn hst hPQ
              subst hab
              go_wp2_with fail
              go_region_held3 (fun w' => w'.cell? ⟨g2, k, none⟩ = some (.slice (some ⟨g, 0, none⟩) p.zs.length (p.zs.length + 2)) ∧ w'.cell? ⟨b, o + k, none⟩ = some (.slice p.a p.zs.length p.c)) (first | (refine ⟨?_, ?_⟩ <;> assumption) | go_keep) (first
                | (go_at_call 19; rw [← HV.out]; refine (asLent_any g p wr.drew (show p.ok wr.drew from HOK.out) HPL.out (show wr.drew.heap[g]? = _ from HLIE.out)).mono ?_; rintro e w' ⟨rfl, hoo⟩; have ho : Only g wr w' := (only_drew g wr).trans hoo; have HO : Hid (Only g wr w') := ho; have s1 := hc2; have s2 := hcell; rw [← ho.cell (p := ⟨g2, k, none⟩) HGN.out] at s1; rw [← ho.cell (p := ⟨b, o + k, none⟩) HBN.out] at s2; clear ho hoo))
              all_goals go_wp2
              all_goals go_roundw
              all_goals first | exact ⟨k + 1, by omega, by go_num, HNX.out _ HO.out⟩ | (simp [intOf]; omega)
            · have hge : ¬ (k : Int) < (N : Int) := by omega
              have HB5 : Hid (Below w1.heap.size w1 wr) := HB2.out.trans (hst.below.mono hz2)
              clear hst
              go_wp2
              go_ret
              exact ⟨by simp, HB5.out⟩
end Go.Proofs.YtakjcjddbgapiaaDoor
