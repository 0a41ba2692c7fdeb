/-
  The document's Hash: Sum, walked.
-/
import Derived.Test.YtlephdpplfpliaaDRef7
import Derived.Deep.DeepCutAuto
namespace Go.Proofs.Ytlephdpplfpliaa
open Go.RowKit
set_option linter.all false

/-- what a Hash of the document's has counted. -/
def nOf (p : Nat) (w : World) : Nat := match w.cell? ⟨p, 2, none⟩ with
  | some (.int _ n) => n.toNat
  | _ => 0
theorem SmI.nOf {w wr : World} {p : Nat} {x : HS} {zs : List Int} (h : SmI w p x zs wr) : nOf p wr = zs.length := by
  obtain ⟨g, c, rv, hR, ho⟩ := h.ex
  unfold Go.Proofs.Ytlephdpplfpliaa.nOf
  rw [cell_of_heap hR.at_]
  simp
theorem pad_more (n j : Nat) : padL n j ++ [0] = padL n (j + 1) := by simp [padL, List.replicate_succ']
theorem pad_len (n j : Nat) : (padL n j).length = j + 1 := by simp [padL]
/-- the digest's first k bytes. -/
def oK (s : St) (k : Nat) : List Int := (outL s).take k ++ List.replicate (32 - k) 0
theorem oK_len (s : St) (k : Nat) (h : k ≤ 32) : (oK s k).length = 32 := by
  have := outL_len s
  simp [oK, this]; omega
theorem oK_at (s : St) (k i : Nat) (h : k ≤ 32) : (oK s k)[i]? = if i < k then (outL s)[i]? else if i < 32 then some 0 else none := by
  have hl := outL_len s
  have ht : ((outL s).take k).length = k := by rw [List.length_take, hl]; omega
  unfold oK
  by_cases h1 : i < k
  · rw [if_pos h1, List.getElem?_append_left (by omega), List.getElem?_take, if_pos h1]
  · rw [if_neg h1, List.getElem?_append_right (by omega), ht, List.getElem?_replicate]
    by_cases h2 : i < 32
    · rw [if_pos (by omega), if_pos h2]
    · rw [if_neg (by omega), if_neg h2]
theorem oK_all (s : St) : oK s 32 = outL s := by
  unfold oK
  rw [List.take_of_length_le (by rw [outL_len]; omega)]
  simp
theorem oK_set (s : St) (k : Nat) (h : k < 32) : (oK s k).set k ((outL s).getD k 0) = oK s (k + 1) := by
  have hl := outL_len s
  apply List.ext_getElem?
  intro i
  by_cases hik : i = k
  · subst hik
    rw [List.getElem?_set_self (by rw [oK_len _ _ (by omega)]; exact h), oK_at _ _ _ (by omega), if_pos (by omega), List.getD_eq_getElem?_getD, List.getElem?_eq_getElem (by omega)]
    rfl
  · rw [List.getElem?_set_ne (fun e => hik e.symm), oK_at _ _ _ (by omega), oK_at _ _ _ (by omega)]
    by_cases h1 : i < k
    · rw [if_pos h1, if_pos (by omega)]
    · rw [if_neg h1, if_neg (show ¬ i < k + 1 by omega)]
structure OutI (W1 : World) (o : Nat) (s : St) (k : Nat) (wz : World) : Prop where
  out : wz.heap[o]? = some (.cells (u8s (oK s k)).toArray 26 (0, 0))
  but : But o W1 wz
theorem OutI.step {W1 wz : World} {o : Nat} {s : St} {k : Nat} (h : OutI W1 o s k wz) (hk : k < 32) (z : Int) (hz : z = (outL s).getD k 0) : OutI W1 o s (k + 1) (wz.setCell ⟨o, k, none⟩ (.int .u8 z)) := by
  refine ⟨?_, h.but.trans (But.setCell _ _ _ _)⟩
  rw [heap_setCell_at h.out]
  have e : (u8s (oK s k)).toArray.setIfInBounds k (.int .u8 z) = (u8s (oK s (k + 1))).toArray := by
    rw [← oK_set s k hk, hz]; simp [u8s, List.map_set]
  rw [e]
set_option maxRecDepth 20000 in
set_option maxHeartbeats 4000000 in
theorem refHsum_any (p : Nat) (x : HS) (g c : Nat) (rv : Value) (w : World) (hR : RH p x x.n w g c rv) (hn : x.n ≤ 1152921504606840000) :
    Calls Try.prog 17 #[.pointer (some ⟨p, 0, none⟩)] w fun e w' => e = .returned (.agg (u8s (sumL x)).toArray) ∧ Below w.heap.size w w' := by
  have HR := Bk.hid hR
  have hpl : p < w.heap.size := (Array.getElem?_eq_some_iff.1 hR.at_).1
  -- the rest is copied
  obtain ⟨W, hW⟩ : ∃ W, W = w.alloc (.cells (u8s z32).toArray 26) := ⟨_, rfl⟩
  have hbW : Below w.heap.size w W := by rw [hW]; exact (Below.refl _ _).alloc (Nat.le_refl _) _
  have hresW : W.heap[w.heap.size]? = some (.cells (u8s z32).toArray 26 (0, 0)) := by rw [hW]; exact heap_alloc_last w _
  have hszW : W.heap.size = w.heap.size + 1 := by rw [hW]; simp
  obtain ⟨pt, hpv, hpz, hpo⟩ := (hR.r.below hbW).part (zs := x.rest) (fun z hz => hR.ok.2.2 z (List.mem_of_mem_take hz))
  have hrl : x.rest.length = x.n % 64 := HS.rest_len x hR.ok.2.1
  obtain ⟨v1, w1, hrun, hrow, hgr, hown⟩ := Bk.append_part (w := W.drew) (v := .slice none 0 0) (zs := []) (by exact Bk.Row.nil _ _) pt (by exact hpo) (by rw [hpz, hrl]; simp only [List.length_nil]; omega) 37
  rw [← hpv] at hrun
  obtain ⟨a1, c1, hv1, hjunk⟩ := hrow.form
  clear hjunk
  rw [Bk.u8s_len, List.nil_append, hpz, hrl] at hv1
  rw [List.nil_append, hpz] at hrow
  have hb1 : Below W.heap.size W w1 := ⟨hgr.os, hgr.tape, hgr.output, hgr.size, fun k hk => hgr.block k hk (by simp [Value.ownBlock])⟩
  have hbw1 : Below w.heap.size w w1 := hbW.trans (hb1.mono (by omega))
  have hs1 := hb1.size
  have hR1h := hR.h.below hbw1
  subst hv1
  have HS0 : Hid (SmI w w1.heap.size x [] (w1.alloc (.cells #[.slice (some ⟨g, 0, none⟩) 8 c, .slice a1 (x.n % 64) c1, .int .i64 0] 45))) := by
    have hb2 : Below w1.heap.size w1 (w1.alloc (.cells #[.slice (some ⟨g, 0, none⟩) 8 c, .slice a1 (x.n % 64) c1, .int .i64 0] 45)) := (Below.refl _ _).alloc (Nat.le_refl _) _
    refine ⟨⟨g, c, _, ⟨heap_alloc_last w1 _, hR1h.below hb2, hrow.below hb2, hR.ok⟩, fun k hk => ?_⟩, hbw1.trans (hb2.mono (by omega)), by omega, ?_⟩
    · rcases hown with h | h
      · rw [h] at hk; simp [Value.ownBlock] at hk
      · have := h k hk; simp at this; omega
    · rw [hb2.block _ (by omega), hb1.block _ (by omega)]; exact hresW
  have HRUN := Bk.hid hrun
  have hc0 : W.cell? ⟨p, 0, none⟩ = some (.slice (some ⟨g, 0, none⟩) 8 c) := by rw [cell_of_heap ((hbW.block p hpl).trans hR.at_)]; rfl
  have hc1 : W.cell? ⟨p, 1, none⟩ = some rv := by rw [cell_of_heap ((hbW.block p hpl).trans hR.at_)]; rfl
  have hc2 : ∀ wr, Below w.heap.size w wr → wr.cell? ⟨p, 2, none⟩ = some (.int .i64 x.n) := fun wr hb => by rw [cell_of_heap ((hb.block p hpl).trans hR.at_)]; rfl
  have HC2 := Bk.hid hc2
  have d0 : w1.cell? ⟨p, 0, none⟩ = some (.slice (some ⟨g, 0, none⟩) 8 c) := by rw [cell_of_heap ((hbw1.block p hpl).trans hR.at_)]; rfl
  have hpl1 : p < w1.heap.size := by omega
  have HX := Bk.hid hR.ok
  clear hc2 hR hb1 hbw1 hs1 hR1h hrow hgr hown hrun hpv hpz hpo hrl hbW hresW hszW pt
  rw [hW] at hc0 hc1 HRUN
  clear hW
  go_enter Try.func17, Try.ntmps17
  go_wp2_with (first
    | (refine wpList_alloc_to rfl 26 rfl (u8s z32).toArray (by kernel_rfl) ?_))
  go_region_law (refine Bk.step_append_run rfl (.const (.slice none 0 0)) (.tmp 15) 37 37 rfl _ _ rfl rfl HRUN.out ?_)
  all_goals
    clear HRUN hc0 hc1 d0 HR
    have hp1 : w1.heap.size < w1.heap.size + 1 := by omega
    obtain ⟨W0, hW0⟩ : ∃ W0, W0 = w1.alloc (.cells #[.slice (some ⟨g, 0, none⟩) 8 c, .slice a1 (x.n % 64) c1, .int .i64 0] 45) := ⟨_, rfl⟩
    rw [← hW0] at HS0 ⊢
    clear hW0 hp1
    have hq0 : p < w1.heap.size := hpl1
    generalize w1.heap.size = q at *
    have HW1 : Hid (Calls Try.prog 15 #[.pointer (some ⟨q, 0, none⟩), .slice (some ⟨W0.heap.size, 0, none⟩) 1 1] (W0.alloc (.cells #[.int .u8 128] 5)) fun e w' => e = .returned (.tuple #[]) ∧ Hid (SmI w q x (padL x.n 0) w')) := HS0.out.write 128 (by omega) (by simp)
    go_wp2_with (first | (go_at_call 15; refine HW1.out.mono ?_; rintro e w2 ⟨rfl, HS1⟩))
    have hgap := gap_bd x.n
    go_loopw [] (fun wr => ∃ j : Nat, j + 1 ≤ gapOf x.n ∧ Hid (SmI w q x (padL x.n j) wr)) (fun wr => 100 - nOf q wr)
    case atStart => exact ⟨0, by omega, HS1⟩
    case round =>
      obtain ⟨j, hj, HJ⟩ := hrel
      obtain ⟨ra, rc, hrest⟩ := HJ.out.len
      rw [pad_len] at hrest
      by_cases hlt : j + 1 < gapOf x.n
      · have hne : ¬ (x.n + (j + 1)) % 64 = 56 := by unfold gapOf at hlt; omega
        have hne2 : ¬ (((x.n + (j + 1)) % 64 : Nat) : Int) = 56 := by omega
        have HNX : Hid (Calls Try.prog 15 #[.pointer (some ⟨q, 0, none⟩), .slice (some ⟨wr.heap.size, 0, none⟩) 1 1] (wr.alloc (.cells #[.int .u8 0] 5)) fun e w' => e = .returned (.tuple #[]) ∧ Hid (SmI w q x (padL x.n (j + 1)) w')) := by
          unfold Hid
          have := HJ.out.write 0 (by omega) (by rw [pad_len]; omega)
          rw [pad_more] at this
          exact this
        have HM : Hid (nOf q wr = j + 1) := by unfold Hid; rw [HJ.out.nOf, pad_len]
        generalize (x.n + (j + 1)) % 64 = rl at *
        go_wp2_with (first | (go_at_call 15; refine HNX.out.mono ?_; rintro e w3 ⟨rfl, HS3⟩))
        go_roundw
        case rel => exact ⟨j + 1, by omega, HS3⟩
        case measure => rw [HS3.out.nOf, HM.out, pad_len]; omega
      · have heq : (x.n + (j + 1)) % 64 = 56 := by unfold gapOf at hlt hj; omega
        have hj2 : j = gapOf x.n - 1 := by omega
        rw [heq] at hrest
        have hcn := HC2.out wr HJ.out.bel
        have HJ2 : Hid (SmI w q x (padL x.n (gapOf x.n - 1) ++ lenB x.n 0) wr) := by
          unfold Hid
          rw [← hj2]
          simpa [lenB] using HJ.out
        have hmul : IntKind.u64.wrap ((x.n : Int) * 8) = (x.n : Int) * 8 := by simp only [IntKind.wrap_u64]; omega
        have hcv : IntKind.u64.wrap (x.n : Int) = (x.n : Int) := by simp only [IntKind.wrap_u64]; omega
        clear HJ hj2 heq hlt hj
        go_wp2
        have HNX0 : Hid (∀ (k : Nat), k < 8 → ∀ {wr : World}, Hid (SmI w q x (padL x.n (gapOf x.n - 1) ++ lenB x.n k) wr) → ∀ z : Int, z = ((8 * x.n / 2 ^ (56 - 8 * k) % 256 : Nat) : Int) → Calls Try.prog 15 #[.pointer (some ⟨q, 0, none⟩), .slice (some ⟨wr.heap.size, 0, none⟩) 1 1] (wr.alloc (.cells #[.int .u8 z] 5)) fun e w' => e = .returned (.tuple #[]) ∧ Hid (SmI w q x (padL x.n (gapOf x.n - 1) ++ lenB x.n (k + 1)) w')) := fun k hk wr hS z hz => by
          have := hS.out.write z (by omega) (by rw [List.length_append, pad_len]; simp [lenB]; omega)
          rw [List.append_assoc, hz, ← lenB_succ, ← hz] at this
          exact this
        go_loopw [5] (fun i wr => ∃ k : Nat, k ≤ 8 ∧ i = .int .i64 (56 - 8 * (k : Int)) ∧ Hid (SmI w q x (padL x.n (gapOf x.n - 1) ++ lenB x.n k) wr)) (fun i _ => (intOf i + 8).toNat)
        case atStart => exact ⟨0, by omega, rfl, HJ2⟩
        case round =>
          clear HJ2 hrest hcn
          obtain ⟨k, hk, rfl, HK⟩ := hrel
          rcases (show k = 0 ∨ k = 1 ∨ k = 2 ∨ k = 3 ∨ k = 4 ∨ k = 5 ∨ k = 6 ∨ k = 7 ∨ k = 8 by omega) with rfl | rfl | rfl | rfl | rfl | rfl | rfl | rfl | rfl
          · rw [show (56 : Int) - 8 * ((0 : Nat) : Int) = 56 from rfl]
            have HNX := HNX0.out 0 (by omega) HK
            clear HNX0
            go_wp2_with (first | (go_at_call 15; refine (HNX _ (by omega)).mono ?_; rintro e w4 ⟨rfl, HS4⟩))
            go_roundw
            case rel => exact ⟨0 + 1, by omega, rfl, HS4⟩
            case measure => simp [intOf]
          · rw [show (56 : Int) - 8 * ((1 : Nat) : Int) = 48 from rfl]
            have HNX := HNX0.out 1 (by omega) HK
            clear HNX0
            go_wp2_with (first | (go_at_call 15; refine (HNX _ (by omega)).mono ?_; rintro e w4 ⟨rfl, HS4⟩))
            go_roundw
            case rel => exact ⟨1 + 1, by omega, rfl, HS4⟩
            case measure => simp [intOf]
          · rw [show (56 : Int) - 8 * ((2 : Nat) : Int) = 40 from rfl]
            have HNX := HNX0.out 2 (by omega) HK
            clear HNX0
            go_wp2_with (first | (go_at_call 15; refine (HNX _ (by omega)).mono ?_; rintro e w4 ⟨rfl, HS4⟩))
            go_roundw
            case rel => exact ⟨2 + 1, by omega, rfl, HS4⟩
            case measure => simp [intOf]
          · rw [show (56 : Int) - 8 * ((3 : Nat) : Int) = 32 from rfl]
            have HNX := HNX0.out 3 (by omega) HK
            clear HNX0
            go_wp2_with (first | (go_at_call 15; refine (HNX _ (by omega)).mono ?_; rintro e w4 ⟨rfl, HS4⟩))
            go_roundw
            case rel => exact ⟨3 + 1, by omega, rfl, HS4⟩
            case measure => simp [intOf]
          · rw [show (56 : Int) - 8 * ((4 : Nat) : Int) = 24 from rfl]
            have HNX := HNX0.out 4 (by omega) HK
            clear HNX0
            go_wp2_with (first | (go_at_call 15; refine (HNX _ (by omega)).mono ?_; rintro e w4 ⟨rfl, HS4⟩))
            go_roundw
            case rel => exact ⟨4 + 1, by omega, rfl, HS4⟩
            case measure => simp [intOf]
          · rw [show (56 : Int) - 8 * ((5 : Nat) : Int) = 16 from rfl]
            have HNX := HNX0.out 5 (by omega) HK
            clear HNX0
            go_wp2_with (first | (go_at_call 15; refine (HNX _ (by omega)).mono ?_; rintro e w4 ⟨rfl, HS4⟩))
            go_roundw
            case rel => exact ⟨5 + 1, by omega, rfl, HS4⟩
            case measure => simp [intOf]
          · rw [show (56 : Int) - 8 * ((6 : Nat) : Int) = 8 from rfl]
            have HNX := HNX0.out 6 (by omega) HK
            clear HNX0
            go_wp2_with (first | (go_at_call 15; refine (HNX _ (by omega)).mono ?_; rintro e w4 ⟨rfl, HS4⟩))
            go_roundw
            case rel => exact ⟨6 + 1, by omega, rfl, HS4⟩
            case measure => simp [intOf]
          · rw [show (56 : Int) - 8 * ((7 : Nat) : Int) = 0 from rfl]
            have HNX := HNX0.out 7 (by omega) HK
            clear HNX0
            go_wp2_with (first | (go_at_call 15; refine (HNX _ (by omega)).mono ?_; rintro e w4 ⟨rfl, HS4⟩))
            go_roundw
            case rel => exact ⟨7 + 1, by omega, rfl, HS4⟩
            case measure => simp [intOf]
          · rw [show (56 : Int) - 8 * ((8 : Nat) : Int) = -8 from rfl]
            have HT : Hid (SmI w q x (tailL x.n) wr) := by unfold Hid; rw [tail_eq x.n (by omega)]; exact HK.out
            clear HK HNX0
            go_wp2_with (first
              | (refine wpList_alloc_to rfl 26 rfl (u8s z32).toArray (by kernel_rfl) ?_))
            obtain ⟨wv, hwv⟩ : ∃ wv, wv = wr := ⟨_, rfl⟩
            subst hwv
            obtain ⟨gH, cH, rvH, hRT, hjunk⟩ := HT.out.ex
            clear hjunk
            have HSL : Hid (sumL x = outL (absorb x (tailL x.n)).st) := rfl
            have hst := hRT.ok.1
            have HOA : Hid (∀ k, k < 32 → (outL (absorb x (tailL x.n)).st).getD k 0 = (absorb x (tailL x.n)).st.l.getD (k / 4) 0 / 2 ^ (24 - 8 * (k % 4)) % 256) := fun k hk => out_at _ hst k hk
            have hl8 : ∀ a, a < 8 → wv.cell? ⟨gH, a, none⟩ = some (.int .u32 ((absorb x (tailL x.n)).st.l.getD a 0)) := fun a ha => row_words hRT.h a (by rw [l_len]; exact ha)
            have hbd8 : ∀ a, 0 ≤ (absorb x (tailL x.n)).st.l.getD a 0 ∧ (absorb x (tailL x.n)).st.l.getD a 0 ≤ 4294967295 := fun a => getD_bd (by omega) (ok_at _ hst) a
            have hq0' : wv.cell? ⟨q, 0, none⟩ = some (.slice (some ⟨gH, 0, none⟩) 8 cH) := by rw [cell_of_heap hRT.at_]; rfl
            have hql : q < wv.heap.size := (Array.getElem?_eq_some_iff.1 hRT.at_).1
            have hgHl : gH < wv.heap.size := hRT.h.lt rfl
            have HL8 := Bk.hid hl8
            have HBD := Bk.hid hbd8
            have HQ0 := Bk.hid hq0'
            generalize (absorb x (tailL x.n)).st = S at *
            clear hl8 hbd8 hq0' hRT hst
            have HO0 : Hid (OutI (wv.alloc (.cells (u8s z32).toArray 26)) wv.heap.size S 0 (wv.alloc (.cells (u8s z32).toArray 26))) := ⟨heap_alloc_last wv _, But.refl _ _⟩
            go_loopw [7] (fun i wz => ∃ k : Nat, k ≤ 32 ∧ i = .int .i64 k ∧ Hid (OutI (wv.alloc (.cells (u8s z32).toArray 26)) wv.heap.size S k wz)) (fun i _ => 32 - (intOf i).toNat)
            case atStart => exact ⟨0, by omega, rfl, HO0⟩
            case round =>
              clear HO0
              obtain ⟨k, hk, rfl, HO⟩ := hrel
              by_cases hlt : k < 32
              · have hlt2 : (k : Int) < 32 := by omega
                have h4 : k / 4 < 8 := by omega
                have h42 : ((k / 4 : Nat) : Int) < 8 := by omega
                have hsz0 : wv.heap.size < (wv.alloc (.cells (u8s z32).toArray 26)).heap.size := by simp
                have k1 : wr.cell? ⟨q, 0, none⟩ = some (.slice (some ⟨gH, 0, none⟩) 8 cH) := by
                  rw [World.cell?_of_block (w := wv) (a := ⟨q, 0, none⟩) ((HO.out.but.block q (by omega) (by simp; omega)).trans (Bk.heap_old _ _ hql))]; exact HQ0.out
                have k2 : wr.cell? ⟨gH, k / 4, none⟩ = some (.int .u32 (S.l.getD (k / 4) 0)) := by
                  rw [World.cell?_of_block (w := wv) (a := ⟨gH, k / 4, none⟩) ((HO.out.but.block gH (by omega) (by simp; omega)).trans (Bk.heap_old _ _ hgHl))]; exact HL8.out _ h4
                have k3 : wr.cell? ⟨wv.heap.size, k, none⟩ = some (.int .u8 ((oK S k).getD k 0)) := by
                  rw [cell_of_heap HO.out.out, u8s_at _ _ (by rw [oK_len _ _ hk]; exact hlt)]
                have k4 : wr.frozen? ⟨wv.heap.size, k, none⟩ = false := frozen_of_heap HO.out.out _
                have hbd := HBD.out (k / 4)
                have hr0 : k % 4 = 0 ∨ k % 4 = 1 ∨ k % 4 = 2 ∨ k % 4 = 3 := by omega
                have HOK := Bk.hid (HOA.out k hlt)
                generalize S.l.getD (k / 4) 0 = hv at *
                rcases hr0 with hr | hr | hr | hr
                · have q1 : (k : Int) / 4 = (k / 4 : Nat) := by omega
                  have q2 : (k : Int).tdiv 4 = (k / 4 : Nat) := by rw [Int.tdiv_eq_ediv_of_nonneg (by omega)]; exact q1
                  have q3 : (k : Int) % 4 = 0 := by omega
                  have q4 : (k : Int).tmod 4 = 0 := by rw [Int.tmod_eq_emod_of_nonneg (by omega)]; exact q3
                  have HZ : Hid ((outL S).getD k 0 = hv / 2 ^ 24 % 256) := by
                    unfold Hid
                    rw [HOK.out, hr]
                  generalize k / 4 = a4 at *
                  clear hr
                  go_wp2
                  go_roundw
                  case rel => exact ⟨k + 1, by omega, by go_num, HO.out.step hlt _ (by rw [HZ.out]; first | rfl | omega | (simp only [IntKind.wrap_u8]; omega))⟩
                  case measure => simp [intOf]; omega
                · have q1 : (k : Int) / 4 = (k / 4 : Nat) := by omega
                  have q2 : (k : Int).tdiv 4 = (k / 4 : Nat) := by rw [Int.tdiv_eq_ediv_of_nonneg (by omega)]; exact q1
                  have q3 : (k : Int) % 4 = 1 := by omega
                  have q4 : (k : Int).tmod 4 = 1 := by rw [Int.tmod_eq_emod_of_nonneg (by omega)]; exact q3
                  have HZ : Hid ((outL S).getD k 0 = hv / 2 ^ 16 % 256) := by
                    unfold Hid
                    rw [HOK.out, hr]
                  generalize k / 4 = a4 at *
                  clear hr
                  go_wp2
                  go_roundw
                  case rel => exact ⟨k + 1, by omega, by go_num, HO.out.step hlt _ (by rw [HZ.out]; first | rfl | omega | (simp only [IntKind.wrap_u8]; omega))⟩
                  case measure => simp [intOf]; omega
                · have q1 : (k : Int) / 4 = (k / 4 : Nat) := by omega
                  have q2 : (k : Int).tdiv 4 = (k / 4 : Nat) := by rw [Int.tdiv_eq_ediv_of_nonneg (by omega)]; exact q1
                  have q3 : (k : Int) % 4 = 2 := by omega
                  have q4 : (k : Int).tmod 4 = 2 := by rw [Int.tmod_eq_emod_of_nonneg (by omega)]; exact q3
                  have HZ : Hid ((outL S).getD k 0 = hv / 2 ^ 8 % 256) := by
                    unfold Hid
                    rw [HOK.out, hr]
                  generalize k / 4 = a4 at *
                  clear hr
                  go_wp2
                  go_roundw
                  case rel => exact ⟨k + 1, by omega, by go_num, HO.out.step hlt _ (by rw [HZ.out]; first | rfl | omega | (simp only [IntKind.wrap_u8]; omega))⟩
                  case measure => simp [intOf]; omega
                · have q1 : (k : Int) / 4 = (k / 4 : Nat) := by omega
                  have q2 : (k : Int).tdiv 4 = (k / 4 : Nat) := by rw [Int.tdiv_eq_ediv_of_nonneg (by omega)]; exact q1
                  have q3 : (k : Int) % 4 = 3 := by omega
                  have q4 : (k : Int).tmod 4 = 3 := by rw [Int.tmod_eq_emod_of_nonneg (by omega)]; exact q3
                  have HZ : Hid ((outL S).getD k 0 = hv / 2 ^ 0 % 256) := by
                    unfold Hid
                    rw [HOK.out, hr]
                  generalize k / 4 = a4 at *
                  clear hr
                  go_wp2
                  go_roundw
                  case rel => exact ⟨k + 1, by omega, by go_num, HO.out.step hlt _ (by rw [HZ.out]; first | rfl | omega | (simp only [IntKind.wrap_u8]; omega))⟩
                  case measure => simp [intOf]; omega
              · have hkk : k = 32 := by omega
                have HD0 : Hid (wr.heap[wv.heap.size]? = some (.cells (u8s (sumL x)).toArray 26 (0, 0))) := by
                  unfold Hid
                  rw [HO.out.out, HSL.out, hkk, oK_all]
                have hwl : w.heap.size < wv.heap.size := (Array.getElem?_eq_some_iff.1 HT.out.res).1
                have HRS : Hid (wr.heap[w.heap.size]? = some (.cells (u8s z32).toArray 26 (0, 0))) := (HO.out.but.block _ (by omega) (by simp; omega)).trans ((Bk.heap_old _ _ hwl).trans HT.out.res)
                have HBL : Hid (Below w.heap.size w wr) := by
                  have b1 : Below w.heap.size w (wv.alloc (.cells (u8s z32).toArray 26)) := HT.out.bel.alloc HT.out.bel.size _
                  exact b1.trans (HO.out.but.below (by omega) b1.size)
                have HSZ0 : Hid ((u8s (sumL x)).length = 32) := by unfold Hid; rw [u8s_len, HSL.out]; rfl
                have hge : ¬ (k : Int) < 32 := by omega
                obtain ⟨SS, hS⟩ : ∃ SS, SS = sumL x := ⟨_, rfl⟩
                have HS := Bk.hid hS
                rw [← hS] at HD0 HSZ0
                clear hS hkk
                go_wp2_with (first
                  | (refine wpList_load_row rfl 26 _ rfl wv.heap.size rfl 26 (u8s SS).toArray (0, 0) _ HD0.out Try.underlying26 rfl (by rw [size32]; simp [HSZ0.out]) ?_)
                  | (refine wpList_store_row rfl 26 _ _ rfl w.heap.size (u8s SS).toArray rfl rfl 26 (u8s z32).toArray HRS.out (by rw [size32]; simp [HSZ0.out]) (by simp [HSZ0.out, z32_len]) (all_oneCell_toArray (u8s_one _)) ?_))
                refine bodyPost_ret (results_cell_row (P := Try.prog) rfl _ _ w.heap.size 26 (u8s SS).toArray (0, 0) _ rfl (setRow_heap _ _ _ _ _ _ HRS.out) Try.underlying26 rfl (by rw [size32]; simp [HSZ0.out])) rfl ⟨by rw [HS.out], ?_⟩
                exact below_setRow HBL.out (Nat.le_refl _) _
end Go.Proofs.Ytlephdpplfpliaa
