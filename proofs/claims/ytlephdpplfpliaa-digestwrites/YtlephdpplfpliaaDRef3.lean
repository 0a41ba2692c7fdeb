/-
  The document's digest: the eight words behind a block.
-/
import Derived.Test.YtlephdpplfpliaaDRef2
namespace Go.Proofs.Ytlephdpplfpliaa
open Go.RowKit
set_option linter.all false

/-- eight words, copied to the end of nothing. -/
theorem append_words (L : List Int) (h0 : L ≠ []) (hl : L.length ≤ 2000) (w : World) (hb c : Nat) (hc : ∀ j, j < L.length → w.cell? ⟨hb, j, none⟩ = some (.int .u32 (L.getD j 0))) :
    ∃ gg cc w', (Builtin.append_ #[43, 43] 43 #[.slice none 0 0, .slice (some ⟨hb, 0, none⟩) L.length c]).run Try.prog w = .ok (.slice (some ⟨gg, 0, none⟩) L.length cc) w' ∧
      Bk.Row w' 47 (.slice (some ⟨gg, 0, none⟩) L.length cc) (u32s L) ∧ w.heap.size ≤ gg ∧ Below w.heap.size w w' := by
  obtain ⟨i, hi, hz0, hz1, hz2⟩ := Bk.info_three infoU32
  obtain ⟨v', w', hrun, hown, hgr, _⟩ := run_append_own (P := Try.prog) w w.heap.size 43 43 47 i _ 1 4 Try.underlying43 hi hz0 hz1 hz2 rfl (by decide) (.slice none 0 0) 0 [] (World.ownsRow_nil w w.heap.size 47 1) ⟨hb, 0, none⟩ L.length c (u32s L) (by rw [u32s_len]; simp)
    (fun j u hj => by
      have hjl : j < (u32s L).length := (List.getElem?_eq_some_iff.1 hj).1
      rw [u32s_len] at hjl
      rw [show (⟨hb, 0, none⟩ : Addr).add j = ⟨hb, j, none⟩ from by unfold Addr.add; split <;> simp_all, hc j hjl]
      rw [← hj]
      simp [u32s, List.getD_eq_getElem?_getD, hjl])
    (u32s_one _) (by unfold maxLen; omega) (by omega) (Nat.le_refl _)
  rcases hown.2 with ⟨_, hz⟩ | ⟨g, cap, cur, hv, hB, hg, hll, hm, hs, htk⟩
  · exact absurd (List.eq_nil_of_length_eq_zero (by omega)) h0
  · subst hv
    simp only [Nat.zero_add] at hrun hll
    refine ⟨g, cap, w', hrun, Or.inr ⟨g, cap, cur, 0, 0, by rw [u32s_len], hg, Or.inr rfl, by rw [u32s_len]; omega, hm, by omega, ?_⟩, hB, (Below.refl _ _).grown hgr (Nat.le_refl _) (fun k hk => by simp [Value.ownBlock] at hk)⟩
    rw [u32s_len]
    simpa using htk

theorem turn_q (x n : Int) (w : World) (h0 : 0 ≤ x) (h1 : x ≤ 4294967295) (hn : 1 ≤ n) (hm : n ≤ 31) :
    Calls Try.prog 32 #[.int .u32 x, .int .i64 n] w fun e w' => e = .returned (.int .u32 (rr x n.toNat)) ∧ ∃ m, w' = w.drewN m :=
  (turn_i x n w h0 h1 hn hm).mono fun _ _ h => ⟨h.1, 1, h.2⟩
theorem below_dN {B : Nat} {a w : World} (h : Below B a w) (n : Nat) : Below B a (w.drewN n) := h.trans ⟨rfl, rfl, rfl, Nat.le_refl _, fun _ _ => rfl⟩
theorem Wd.drewN {w x : World} {L : List Int} {v : Value} (h : Wd w L v x) (n : Nat) : Wd w L v (x.drewN n) :=
  ⟨h.1.below (below_dN (Below.refl _ _) n), h.2.1, below_dN h.2.2 n⟩
theorem Wd.fresh {w X : World} {L : List Int} (hb : Below w.heap.size w X) (hl : L.length ≤ 2000) : Wd w L (.slice (some ⟨X.heap.size, 0, none⟩) L.length L.length) (X.alloc (.cells (u32s L).toArray 47)) := by
  have hs := hb.size
  have hr := Bk.Row.of_heap (vs := u32s L) (Bk.heap_new X (.cells (u32s L).toArray 47)) (by rw [u32s_len]; unfold maxLen; omega)
  rw [u32s_len] at hr
  exact ⟨hr, fun b hb => by simp [Value.ownBlock] at hb; omega, hb.alloc (by omega) _⟩
theorem addS_comm (s t : St) : addS s t = addS t s := by unfold addS; simp [Int.add_comm]
theorem Wd.set {w x : World} {L : List Int} {g n c : Nat} (h : Wd w L (.slice (some ⟨g, 0, none⟩) n c) x) (j : Nat) (hj : j < L.length) (y : Int) :
    x.frozen? ⟨g, j, none⟩ = false ∧ Wd w (L.set j y) (.slice (some ⟨g, 0, none⟩) n c) (x.setCell ⟨g, j, none⟩ (.int .u32 y)) := by
  obtain ⟨g', e, _, hf, hr⟩ := h.1.set j (by rw [u32s_len]; exact hj) (.int .u32 y)
  have hg : g' = g := by simp at e; exact e.symm
  subst hg
  have hB := h.2.1 g' rfl
  refine ⟨hf, ?_, h.2.1, ?_⟩
  · rw [show u32s (L.set j y) = (u32s L).set j (.int .u32 y) from by simp [u32s, List.map_set]]
    exact hr
  · exact h.2.2.trans ⟨rfl, rfl, rfl, by simp [World.setCell], fun k hk => Below.heap_setCell _ _ _ _ (by simp; omega)⟩
theorem uS_mod (e f g h k w : Int) : uS e f g h k w = (h + bits .xor .u32 (bits .xor .u32 (rr e 6) (rr e 11)) (rr e 25) + bits .xor .u32 (bits .and .u32 e f) (bits .and .u32 (bits .xor .u32 IntKind.u32.max e) g) + k + w) % 4294967296 := by
  unfold uS
  generalize bits .xor .u32 (bits .xor .u32 (rr e 6) (rr e 11)) (rr e 25) = p
  generalize bits .xor .u32 (bits .and .u32 e f) (bits .and .u32 (bits .xor .u32 IntKind.u32.max e) g) = q
  simp only [IntKind.wrap_u32]
  omega
set_option maxRecDepth 20000 in
set_option maxHeartbeats 4000000 in
theorem refGone_any (s : St) (hb hcap b o cap : Nat) (B : List Int) (w : World) (hs : s.ok) (hB : B.length = 64) (hz : ∀ z, z ∈ B → 0 ≤ z ∧ z ≤ 255) (hbl : b < w.heap.size) (hhl : hb < w.heap.size)
    (hc : ∀ j, j < 64 → w.cell? ⟨b, o + j, none⟩ = some (.int .u8 (B.getD j 0))) (hh : ∀ j, j < 8 → w.cell? ⟨hb, j, none⟩ = some (.int .u32 (s.l.getD j 0))) :
    Calls Try.prog 23 #[.slice (some ⟨hb, 0, none⟩) 8 hcap, .slice (some ⟨b, o, none⟩) 64 cap] w fun e w' => ∃ a n c, e = .returned (.slice a n c) ∧ Wd w (comp s B).l (.slice a n c) w' := by
  have HCO : Hid (comp s B = addS s (rnds (schedL B 64) s 64)) := rfl
  have HWO : Hid (∀ x : World, Below w.heap.size w x → Calls Try.prog 31 #[.slice (some ⟨b, o, none⟩) 64 cap] x fun e w' => ∃ a n c, e = .returned (.slice a n c) ∧ Wd x (schedL B 64) (.slice a n c) w') := fun x hx =>
    refWords_any b o cap B x hB hz (by have := hx.size; omega) (fun j hj => by rw [hx.cell (p := ⟨b, o + j, none⟩) hbl, hc j hj])
  have HHH : Hid (∀ x : World, Below w.heap.size w x → ∀ j, j < 8 → x.cell? ⟨hb, j, none⟩ = some (.int .u32 (s.l.getD j 0))) := fun x hx j hj => by rw [hx.cell (p := ⟨hb, j, none⟩) hhl, hh j hj]
  have HOK : Hid s.ok := hs
  clear hs hB hz hc hh
  go_enter Try.func23, Try.ntmps23
  go_wp2_with (first
    | (go_at_call 30; refine (refTable_any _).mono ?_; rintro e w1 ⟨rfl, rfl⟩)
    | (go_at_call 31; refine (HWO.out _ ((Below.refl _ _).alloc (Nat.le_refl _) _)).mono ?_; rintro e w2 ⟨a2, n2, c2, rfl, hw2⟩
       have hb2 : Below w.heap.size w w2 := ((Below.refl _ _).alloc (Nat.le_refl _) _).trans (hw2.2.2.mono (by simp))
       obtain ⟨g2, c2', e2, hcl2⟩ := hw2.cells (by rw [schedL_len]; omega)
       rw [schedL_len] at e2 hcl2
       obtain ⟨g3, c3, w3, hrun3, row3, hg3, hb3⟩ := append_words s.l (by simp [St.l]) (by rw [l_len]; omega) w2 hb hcap (fun j hj => HHH.out w2 hb2 j hj)
       rw [l_len] at hrun3 row3
       have HRUN := Bk.hid hrun3
       have HB2 := Bk.hid hb2
       have HB3 := Bk.hid hb3
       have HR3 := Bk.hid row3
       have HG3 := Bk.hid hg3
       have HC2 := Bk.hid hcl2
       have HW2 := Bk.hid hw2
       clear hrun3 row3 hg3 hb3 hcl2 hb2 hw2
       rw [e2] at HW2 ⊢
       clear e2)
    | (at_builtin; refine Bk.wpList_append_run _ rfl (.const (.slice none 0 0)) (.tmp 17) 43 43 rfl _ _ rfl rfl HRUN.out ?_))
  have HK : Hid (∀ x : World, Below w3.heap.size w3 x → ∀ j, j < 64 → x.cell? ⟨w.heap.size, j, none⟩ = some (.int .u32 (kL.getD j 0))) := fun x hx j hj => by
    have z2 := HW2.out.2.2.size
    have z3 := HB3.out.size
    simp only [World.size_alloc] at z2
    rw [hx.cell (p := ⟨w.heap.size, j, none⟩) (by simp; omega), HB3.out.cell (p := ⟨w.heap.size, j, none⟩) (by simp; omega), HW2.out.2.2.cell (p := ⟨w.heap.size, j, none⟩) (by simp), cell_of_heap (heap_alloc_new w _), u32s_at _ _ (by rw [show kL.length = 64 from rfl]; exact hj)]
  have HWC : Hid (∀ x : World, Below w3.heap.size w3 x → ∀ j, j < 64 → x.cell? ⟨g2, j, none⟩ = some (.int .u32 ((schedL B 64).getD j 0))) := fun x hx j hj => by
    have z3 := HB3.out.size
    have hl2 := HW2.out.1.lt (b := g2) rfl
    rw [hx.cell (p := ⟨g2, j, none⟩) (by simp; omega), HB3.out.cell (p := ⟨g2, j, none⟩) (by simp; omega), HC2.out j hj]
  have HST : Hid (Wd w s.l (.slice (some ⟨g3, 0, none⟩) 8 c3) w3) :=
    ⟨HR3.out, fun b hb => by have z2 := HB2.out.size; have hg := HG3.out; simp [Value.ownBlock] at hb; omega, HB2.out.trans (HB3.out.mono HB2.out.size)⟩
  have HWB : Hid (∀ z, z ∈ schedL B 64 → 0 ≤ z ∧ z ≤ 4294967295) := schedL_bd B 64
  generalize schedL B 64 = W at *
  have HS3 : Hid (w.heap.size ≤ w3.heap.size) := Nat.le_trans HB2.out.size HB3.out.size
  clear HW2 HR3 HG3 HC2 HB2 HB3 HRUN HWO
  go_loopw [7, 8] (fun r i wr => ∃ k : Nat, k ≤ 64 ∧ i = .int .i64 k ∧ Wd w (rnds W s k).l r wr ∧ Below w3.heap.size w3 wr) (fun _ i _ => 64 - (intOf i).toNat)
  case atStart => exact ⟨0, by omega, rfl, HST.out, Below.refl _ _⟩
  case round =>
    obtain ⟨k, hk, rfl, hw, hbw⟩ := hrel
    have HW := Bk.hid hw
    have HBW := Bk.hid hbw
    have hok := rnds_ok W s HOK.out k
    obtain ⟨g, c, e4, hcl⟩ := hw.cells (by rw [l_len]; omega)
    rw [l_len] at e4 hcl
    subst e4
    by_cases hlt : k < 64
    · have hlt2 : (k : Int) < 64 := by omega
      have ck := HK.out wr hbw k hlt
      have cw := HWC.out wr hbw k hlt
      have bk := getD_bd (by omega) kL_bd k
      have bw := getD_bd (by omega) HWB.out k
      have HN : Hid (rnds W s (k + 1) = rnd (kL.getD k 0) (W.getD k 0) (rnds W s k)) := rfl
      have hgl := hw.1.lt (b := g) rfl
      clear hw hbw
      obtain ⟨⟨a, b', cc, d, ee, ff, gg, hh⟩, hS⟩ : ∃ S, S = rnds W s k := ⟨_, rfl⟩
      rw [← hS] at hok HN hcl HW
      have oa : 0 ≤ a ∧ a ≤ 4294967295 := hok.1
      have ob : 0 ≤ b' ∧ b' ≤ 4294967295 := hok.2.1
      have oc : 0 ≤ cc ∧ cc ≤ 4294967295 := hok.2.2.1
      have od : 0 ≤ d ∧ d ≤ 4294967295 := hok.2.2.2.1
      have oe : 0 ≤ ee ∧ ee ≤ 4294967295 := hok.2.2.2.2.1
      have of : 0 ≤ ff ∧ ff ≤ 4294967295 := hok.2.2.2.2.2.1
      have og : 0 ≤ gg ∧ gg ≤ 4294967295 := hok.2.2.2.2.2.2.1
      have oh : 0 ≤ hh ∧ hh ≤ 4294967295 := hok.2.2.2.2.2.2.2
      have r0 : wr.cell? ⟨g, 0, none⟩ = some (.int .u32 a) := hcl 0 (by omega)
      have r1 : wr.cell? ⟨g, 1, none⟩ = some (.int .u32 b') := hcl 1 (by omega)
      have r2 : wr.cell? ⟨g, 2, none⟩ = some (.int .u32 cc) := hcl 2 (by omega)
      have r3 : wr.cell? ⟨g, 3, none⟩ = some (.int .u32 d) := hcl 3 (by omega)
      have r4 : wr.cell? ⟨g, 4, none⟩ = some (.int .u32 ee) := hcl 4 (by omega)
      have r5 : wr.cell? ⟨g, 5, none⟩ = some (.int .u32 ff) := hcl 5 (by omega)
      have r6 : wr.cell? ⟨g, 6, none⟩ = some (.int .u32 gg) := hcl 6 (by omega)
      have r7 : wr.cell? ⟨g, 7, none⟩ = some (.int .u32 hh) := hcl 7 (by omega)
      clear hok hcl hS
      generalize kL.getD k 0 = kt at *
      generalize W.getD k 0 = wt at *
      go_wp2_with fail
      go_quiet ((go_at_call 32; refine Calls.quiet_of (turn_q _ _ _ (by omega) (by omega) (by omega) (by omega))))
      go_wp2_with fail
      have HU := Bk.hid (uS_mod ee ff gg hh kt wt)
      rw [← HU.out]
      have bu := uS_bd ee ff gg hh kt wt
      have HN2 : Hid (rnds W s (k + 1) = ⟨(uS ee ff gg hh kt wt + vS a b' cc) % 4294967296, a, b', cc, (d + uS ee ff gg hh kt wt) % 4294967296, ee, ff, gg⟩) := HN.out
      generalize uS ee ff gg hh kt wt = u at *
      clear HN HU ck cw bk bw
      have HX : Hid (Below w.heap.size w (wr.drewN nq)) := below_dN HW.out.2.2 nq
      have HY : Hid (Below w3.heap.size w3 (wr.drewN nq)) := below_dN HBW.out nq
      have x0 : (wr.drewN nq).cell? ⟨g, 0, none⟩ = some (.int .u32 a) := r0
      have x1 : (wr.drewN nq).cell? ⟨g, 1, none⟩ = some (.int .u32 b') := r1
      have x2 : (wr.drewN nq).cell? ⟨g, 2, none⟩ = some (.int .u32 cc) := r2
      have x3 : (wr.drewN nq).cell? ⟨g, 3, none⟩ = some (.int .u32 d) := r3
      have x4 : (wr.drewN nq).cell? ⟨g, 4, none⟩ = some (.int .u32 ee) := r4
      have x5 : (wr.drewN nq).cell? ⟨g, 5, none⟩ = some (.int .u32 ff) := r5
      have x6 : (wr.drewN nq).cell? ⟨g, 6, none⟩ = some (.int .u32 gg) := r6
      have x7 : (wr.drewN nq).cell? ⟨g, 7, none⟩ = some (.int .u32 hh) := r7
      have xl : g < (wr.drewN nq).heap.size := hgl
      clear r0 r1 r2 r3 r4 r5 r6 r7 hgl HW HBW
      generalize wr.drewN nq = X at *
      go_quiet ((go_at_call 32; refine Calls.quiet_of (turn_q _ _ _ (by omega) (by omega) (by omega) (by omega))))
      go_wp2_with fail
      have HX2 : Hid (Below w.heap.size w (X.drewN nq)) := below_dN HX.out nq
      have HY2 : Hid (Below w3.heap.size w3 (X.drewN nq)) := below_dN HY.out nq
      have y0 : (X.drewN nq).cell? ⟨g, 0, none⟩ = some (.int .u32 a) := x0
      have y1 : (X.drewN nq).cell? ⟨g, 1, none⟩ = some (.int .u32 b') := x1
      have y2 : (X.drewN nq).cell? ⟨g, 2, none⟩ = some (.int .u32 cc) := x2
      have y3 : (X.drewN nq).cell? ⟨g, 3, none⟩ = some (.int .u32 d) := x3
      have y4 : (X.drewN nq).cell? ⟨g, 4, none⟩ = some (.int .u32 ee) := x4
      have y5 : (X.drewN nq).cell? ⟨g, 5, none⟩ = some (.int .u32 ff) := x5
      have y6 : (X.drewN nq).cell? ⟨g, 6, none⟩ = some (.int .u32 gg) := x6
      have y7 : (X.drewN nq).cell? ⟨g, 7, none⟩ = some (.int .u32 hh) := x7
      have yl : g < (X.drewN nq).heap.size := xl
      have HV : Hid (vS a b' cc = (bits .xor .u32 (bits .xor .u32 (rr a 2) (rr a 13)) (rr a 22) + bits .xor .u32 (bits .xor .u32 (bits .and .u32 a b') (bits .and .u32 a cc)) (bits .and .u32 b' cc)) % 4294967296) := rfl
      rw [← HV.out]
      have bv : 0 ≤ vS a b' cc ∧ vS a b' cc ≤ 4294967295 := by unfold vS; omega
      generalize vS a b' cc = v at *
      clear x0 x1 x2 x3 x4 x5 x6 x7 xl HX HY HV
      generalize X.drewN nq = Y at *
      go_region_held3 (fun x => x.cell? ⟨g, 0, none⟩ = some (.int .u32 a) ∧ x.cell? ⟨g, 1, none⟩ = some (.int .u32 b') ∧ x.cell? ⟨g, 2, none⟩ = some (.int .u32 cc) ∧ x.cell? ⟨g, 3, none⟩ = some (.int .u32 d) ∧ x.cell? ⟨g, 4, none⟩ = some (.int .u32 ee) ∧ x.cell? ⟨g, 5, none⟩ = some (.int .u32 ff) ∧ x.cell? ⟨g, 6, none⟩ = some (.int .u32 gg)) (first | (refine ⟨?_, ?_, ?_, ?_, ?_, ?_, ?_⟩ <;> assumption) | go_keep) (fail)
      go_wp2_with fail
      go_roundw
      case rel =>
        refine ⟨k + 1, by omega, by go_num, ?_, ?_⟩
        · rw [HN2.out]
          exact (Wd.fresh (L := [(u + v) % 4294967296, a, b', cc, (d + u) % 4294967296, ee, ff, gg]) HX2.out (by simp)).drew
        · exact (HY2.out.alloc HY2.out.size _).drew
      case measure => simp [intOf]; omega
    · have HA : Hid (Wd w (part8 (rnds W s 64) s 0) (.slice (some ⟨g, 0, none⟩) 8 c) wr) := by
        have hk64 : k = 64 := by omega
        subst hk64
        exact HW.out
      have HAO : Hid (rnds W s 64).ok := rnds_ok W s HOK.out 64
      have HCC : Hid ((comp s B).l = part8 (rnds W s 64) s 8) := by
        unfold Hid
        rw [part8_end, HCO.out, addS_comm]
      generalize rnds W s 64 = A at *
      have hge : ¬ (k : Int) < 64 := by omega
      clear hw hbw hcl hok HW HBW HCO HK HWC HWB HST
      go_wp2_with fail
      go_loopw [13] (fun i wr => ∃ k : Nat, k ≤ 8 ∧ i = .int .i64 k ∧ Wd w (part8 A s k) (.slice (some ⟨g, 0, none⟩) 8 c) wr) (fun i _ => 8 - (intOf i).toNat)
      case atStart => exact ⟨0, by omega, rfl, HA.out⟩
      case round =>
        clear hge hlt hk HA
        obtain ⟨k, hk, rfl, hw⟩ := hrel
        have HW := Bk.hid hw
        by_cases hlt : k < 8
        · have hlt2 : (k : Int) < 8 := by omega
          have ch := HHH.out wr hw.2.2 k hlt
          have cr : wr.cell? ⟨g, k, none⟩ = some (.int .u32 (A.l.getD k 0)) := by
            obtain ⟨g', c', e', hcl⟩ := hw.cells (by rw [part8_len A s k hk]; omega)
            rw [part8_len A s k hk] at e' hcl
            have hg' : g' = g := by simp at e'; exact e'.1.symm
            rw [hg'] at hcl
            rw [hcl k hlt, part8_at A s k hlt]
          have fr := (hw.set k (by rw [part8_len A s k hk]; exact hlt) 0).1
          obtain ⟨_, hn⟩ := hw.drew.set k (by rw [part8_len A s k hk]; exact hlt) ((A.l.getD k 0 + s.l.getD k 0) % 4294967296)
          rw [part8_next A s k hlt] at hn
          have HN := Bk.hid hn
          have bs := getD_bd (by omega) (ok_at s HOK.out) k
          have ba := getD_bd (by omega) (ok_at A HAO.out) k
          generalize s.l.getD k 0 = p at *
          generalize A.l.getD k 0 = q at *
          clear hn hw
          have sm : IntKind.u32.wrap (q + p) = (q + p) % 4294967296 := by simp only [IntKind.wrap_u32]
          have k0 : (0 : Int) ≤ (k : Int) := by omega
          go_wp2
          go_region
          go_wp2
          go_roundw
          case rel => exact ⟨k + 1, by omega, by go_num, HN.out⟩
          case measure => simp [intOf]; omega
        · have HF : Hid (Wd w (comp s B).l (.slice (some ⟨g, 0, none⟩) 8 c) wr) := by
            have hk8 : k = 8 := by omega
            subst hk8
            unfold Hid
            rw [HCC.out]
            exact hw
          have hge : ¬ (k : Int) < 8 := by omega
          clear hw
          go_wp2_with fail
          go_ret
          exact ⟨_, _, _, rfl, HF.out⟩
end Go.Proofs.Ytlephdpplfpliaa
