import Derived.Test.YtdcppiknomoigaaDoorTgI
import Derived.Test.YtdcppiknomoigaaDoorTgM
import Derived.Test.YtdcppiknomoigaaDoorTfN
import Derived.Test.YtdcppiknomoigaaDoorTgH
import Derived.Test.YtdcppiknomoigaaDoorBBookJ
import Derived.Test.YtdcppiknomoigaaDoorTgP
import Derived.Test.YtdcppiknomoigaaDoorTfCJ
import Derived.Test.YtdcppiknomoigaaDoorTgD
/-
  The walk of the statement TftpEncodes. Written by mktgen.py.
-/
namespace Go.Proofs.YtdcppiknomoigaaDoor
open Go.RowKit
set_option linter.all false

theorem lent_part {w : World} {g : Nat} {pt : Part} (hz : ∀ z, z ∈ pt.zs → 0 ≤ z ∧ z ≤ 255) (hg : w.heap[g]? = some (.cells (L2 pt.zs) 5 (0, 0))) : Part.ok w ⟨some ⟨g, 0, none⟩, pt.zs.length + 2, pt.zs⟩ :=
  Part.of_heap hg 0 (by omega) (fun j hj => by rw [Nat.zero_add]; exact L2_lo pt.zs j hj) hz
theorem enc_len {p : Tp} (h : p.may = 0) : p.enc.length ≤ 70000 := by
  unfold Tp.may at h
  obtain ⟨op, fl, md, ch, bk, da, cd, tx⟩ := p
  simp only at h
  unfold Tp.enc
  simp only
  by_cases o1 : op = 1
  · subst o1
    rw [may_1] at h
    rw [if_pos rfl]
    by_cases hx : fileB fl = false ∨ md ≠ nOct
    · rw [if_pos hx] at h; cases h
    · rw [if_neg hx] at h
      simp only [not_or, Bool.not_eq_false, ne_eq, Classical.not_not] at hx
      have hk : chOk ch ch.length = true := by
        unfold okE at h
        by_cases hk : chOk ch ch.length = true
        · exact hk
        · rw [if_neg hk] at h; cases h
      have h1 := hx.1
      unfold fileB at h1
      simp only [Bool.and_eq_true, decide_eq_true_eq] at h1
      have h2 := chsB_66 hk
      have h3 : (nums md).length = 5 := by rw [hx.2]; rfl
      simp only [op2, List.length_append, List.length_cons, List.length_nil, nums_len] at *
      omega
  · rw [if_neg o1]
    by_cases o3 : op = 3
    · subst o3
      rw [may_3] at h
      rw [if_pos rfl]
      unfold dataE at h
      split at h
      · cases h
      · split at h
        · cases h
        · simp only [op2, List.length_append, List.length_cons, List.length_nil]; omega
    · rw [if_neg o3]
      by_cases o4 : op = 4
      · rw [if_pos o4]; simp [op2]
      · rw [if_neg o4]
        by_cases o5 : op = 5
        · subst o5
          rw [may_5] at h
          rw [if_pos rfl]
          unfold errE at h
          split at h
          · cases h
          · split at h
            · cases h
            · split at h
              · cases h
              · simp only [op2, List.length_append, List.length_cons, List.length_nil, nums_len]; omega
        · rw [if_neg o5]
          by_cases o6 : op = 6
          · subst o6
            rw [may_6] at h
            have hk : chOk ch ch.length = true := by
              unfold okE at h
              by_cases hk : chOk ch ch.length = true
              · exact hk
              · rw [if_neg hk] at h; cases h
            have h2 := chsB_66 hk
            simp only [op2, List.length_append, List.length_cons, List.length_nil]; omega
          · rw [may_no ⟨o1, o3, o4, o5, o6⟩] at h; cases h
/-- what Encode answers. -/
def encY (p : Tp) : List Int := if p.may = 0 then p.enc else []
theorem encY_bd (p : Tp) (hd : ∀ z, z ∈ p.da → 0 ≤ z ∧ z ≤ 255) : (∀ z, z ∈ encY p → 0 ≤ z ∧ z ≤ 255) ∧ (encY p).length ≤ 70000 := by
  unfold encY
  by_cases h : p.may = 0
  · rw [if_pos h]; exact ⟨enc_bd p hd, enc_len h⟩
  · rw [if_neg h]; simp
set_option maxRecDepth 20000 in
set_option maxHeartbeats 16000000 in
theorem tftpEncodes_walk (t : Tp) (xa : Option Addr) (xc : Nat) (xb : Option Addr) (xe : Nat) (u : Tp) (ya : Option Addr) (yc : Nat) (yb : Option Addr) (ye : Nat) (w : World) (hE : Env w) (hx : TpS t xa xc xb xe w) (hy : TpS u ya yc yb ye w) :
    Calls Tryd.prog 4 #[.agg (tpC t xa xc xb xe), .agg (tpC u ya yc yb ye)] w fun e w' => e = .returned (.bool true) ∧ Below w.heap.size w w' := by
  have LV : Hid (∀ w', Below w.heap.size w w' → Calls Tryd.prog 8 #[] w' fun e w'' => e = .returned (.bool true) ∧ Hid (Below w'.heap.size w' w'')) := fun w' hb => live_any w' (hE.below hb)
  have R1 : Hid (∀ w', Below w.heap.size w w' → _) := fun w' hb => refEncode_any t xa xc xb xe w' (hx.below hb)
  have R2 : Hid (∀ w', Below w.heap.size w w' → _) := fun w' hb => refEncode_any u ya yc yb ye w' (hy.below hb)
  have L1 : Hid (∀ w', Below w.heap.size w w' → _) := fun w' hb => clent_any t.ch xa t.ch.length xc w' (hx.ch.below hb) rfl hx.cn
  have L2' : Hid (∀ w', Below w.heap.size w w' → _) := fun w' hb => lent_any ⟨xb, xe, t.da⟩ w' (Part.ok_below hx.da hb) hx.dn
  have E1 : Hid (∀ (gc gd : Nat) (w' : World), Below w.heap.size w w' → w'.heap[gc]? = some (.cells (lentC t.ch) 56 (0, 0)) → w'.heap[gd]? = some (.cells (L2 t.da) 5 (0, 0)) → _) := fun gc gd w' hb h1 h2 =>
    encode_any t (some ⟨gc, 0, none⟩) (t.ch.length + 2) (some ⟨gd, 0, none⟩) (t.da.length + 2) w' (hE.below hb) ⟨lentC_chv h1, by omega, hx.cn, lent_part (pt := ⟨xb, xe, t.da⟩) hx.da.1 h2, hx.dn, hx.fl, hx.md, hx.tx⟩
  have E2 : Hid (∀ w', Below w.heap.size w w' → _) := fun w' hb => encode_any u ya yc yb ye w' (hE.below hb) (hy.below hb)
  have K1 : Hid (∀ (gc : Nat) (w' : World), Below w.heap.size w w' → w'.heap[gc]? = some (.cells (lentC t.ch) 56 (0, 0)) → _) := fun gc w' hb h1 => ckept_any gc t.ch xa t.ch.length xc w' h1 (hx.ch.below hb) rfl hx.cn
  have S1 : Hid (∀ (gd : Nat) (w' : World), Below w.heap.size w w' → w'.heap[gd]? = some (.cells (L2 t.da) 5 (0, 0)) → _) := fun gd w' hb h1 => asLent_any gd ⟨xb, xe, t.da⟩ w' (Part.ok_below hx.da hb) hx.dn h1
  have D1 := hid (encY_bd t hx.da.1)
  have D2 := hid (encY_bd u hy.da.1)
  have FY1 : Hid ((if t.may = 0 then t.enc else []) = encY t) := rfl
  have FY2 : Hid ((if u.may = 0 then u.enc else []) = encY u) := rfl
  clear hE hx hy
  rw [FY1.out] at R1 E1
  rw [FY2.out] at R2 E2
  generalize encY t = Y1 at *
  generalize encY u = Y2 at *
  generalize t.may = E at *
  generalize u.may = F at *
  obtain ⟨xop, xfl, xmd, xch, xbk, xdl, xcd, xtx⟩ := t
  obtain ⟨yop, yfl, ymd, ych, ybk, ydl, ycd, ytx⟩ := u
  simp only [tpC, Part.val] at *
  generalize lentC xch = LC at *
  generalize L2 xdl = LD at *
  generalize xch.length = xn at *
  generalize xdl.length = xm at *
  generalize ych.length = yn at *
  generalize ydl.length = ym at *
  clear FY1 FY2
  go_enter Tryd.func4, Tryd.ntmps4
  go_wp2_with fail
  have hh0 := ((Holds.nil w).push (.cells #[.int .i64 xop, .string xfl, .string xmd, .slice xa xn xc, .int .i64 xbk, .slice xb xm xe, .int .i64 xcd, .string xtx] 26)).push (.cells #[.int .i64 yop, .string yfl, .string ymd, .slice ya yn yc, .int .i64 ybk, .slice yb ym ye, .int .i64 ycd, .string ytx] 26)
  simp only [World.size_alloc] at hh0
  have hb0 := bpush (bpush (Below.refl _ w) (.cells #[.int .i64 xop, .string xfl, .string xmd, .slice xa xn xc, .int .i64 xbk, .slice xb xm xe, .int .i64 xcd, .string xtx] 26)) (.cells #[.int .i64 yop, .string yfl, .string ymd, .slice ya yn yc, .int .i64 ybk, .slice yb ym ye, .int .i64 ycd, .string ytx] 26)
  refine (LV.out _ hb0).mono ?_
  rintro e w1 ⟨rfl, hb1⟩
  have HH1 := hid (hh0.below hb1.out)
  have HB1 := hid (bstep hb0 hb1.out)
  have z01 : w.heap.size + 2 ≤ w1.heap.size := by have := hb1.out.size; simpa using this
  clear hh0 hb0 hb1 LV
  have HX1 := hid (heap_new w1 (.cells #[.int .i64 0, .string ⟨#[]⟩, .string ⟨#[]⟩, .slice none 0 0, .int .i64 0, .slice none 0 0, .int .i64 0, .string ⟨#[]⟩] 26))
  go_upto_region 5 with (first
    | (refine wpList_load_row rfl 26 _ rfl w.heap.size rfl 26 #[.int .i64 xop, .string xfl, .string xmd, .slice xa xn xc, .int .i64 xbk, .slice xb xm xe, .int .i64 xcd, .string xtx] (0, 0) _ (HH1.out.at 1 _ _ rfl) Tryd.underlying26 rfl (by kernel_rfl) ?_)
    | (refine wpList_store_row rfl 26 _ _ rfl w1.heap.size #[.int .i64 xop, .string xfl, .string xmd, .slice xa xn xc, .int .i64 xbk, .slice xb xm xe, .int .i64 xcd, .string xtx] rfl rfl 26 _ HX1.out (by kernel_rfl) rfl (by first | kernel_rfl | simp [Value.oneCell']) ?_)
    | fail)
  have hst : But w1.heap.size (w1.alloc (.cells #[.int .i64 0, .string ⟨#[]⟩, .string ⟨#[]⟩, .slice none 0 0, .int .i64 0, .slice none 0 0, .int .i64 0, .string ⟨#[]⟩] 26)) ((w1.alloc (.cells #[.int .i64 0, .string ⟨#[]⟩, .string ⟨#[]⟩, .slice none 0 0, .int .i64 0, .slice none 0 0, .int .i64 0, .string ⟨#[]⟩] 26)).setRow w1.heap.size #[.int .i64 xop, .string xfl, .string xmd, .slice xa xn xc, .int .i64 xbk, .slice xb xm xe, .int .i64 xcd, .string xtx]) := But.setRow _ _ _
  have hsr : ((w1.alloc (.cells #[.int .i64 0, .string ⟨#[]⟩, .string ⟨#[]⟩, .slice none 0 0, .int .i64 0, .slice none 0 0, .int .i64 0, .string ⟨#[]⟩] 26)).setRow w1.heap.size #[.int .i64 xop, .string xfl, .string xmd, .slice xa xn xc, .int .i64 xbk, .slice xb xm xe, .int .i64 xcd, .string xtx]).heap[w1.heap.size]? = some (.cells #[.int .i64 xop, .string xfl, .string xmd, .slice xa xn xc, .int .i64 xbk, .slice xb xm xe, .int .i64 xcd, .string xtx] 26 (0, 0)) := setRow_heap _ _ _ _ _ _ HX1.out
  have hbl := bpush (Below.refl w1.heap.size w1) (.cells #[.int .i64 0, .string ⟨#[]⟩, .string ⟨#[]⟩, .slice none 0 0, .int .i64 0, .slice none 0 0, .int .i64 0, .string ⟨#[]⟩] 26)
  have hbb : Below w1.heap.size w1 ((w1.alloc (.cells #[.int .i64 0, .string ⟨#[]⟩, .string ⟨#[]⟩, .slice none 0 0, .int .i64 0, .slice none 0 0, .int .i64 0, .string ⟨#[]⟩] 26)).setRow w1.heap.size #[.int .i64 xop, .string xfl, .string xmd, .slice xa xn xc, .int .i64 xbk, .slice xb xm xe, .int .i64 xcd, .string xtx]) := bbut hbl hst (Nat.le_refl _)
  have HH2 := hid ((HH1.out.below hbb).cons hsr)
  have HB2 := hid (bstep HB1.out hbb)
  have z12 : w1.heap.size < ((w1.alloc (.cells #[.int .i64 0, .string ⟨#[]⟩, .string ⟨#[]⟩, .slice none 0 0, .int .i64 0, .slice none 0 0, .int .i64 0, .string ⟨#[]⟩] 26)).setRow w1.heap.size #[.int .i64 xop, .string xfl, .string xmd, .slice xa xn xc, .int .i64 xbk, .slice xb xm xe, .int .i64 xcd, .string xtx]).heap.size := heap_lt hsr
  clear hst hsr hbl hbb HH1 HB1 HX1
  generalize (w1.alloc (.cells #[.int .i64 0, .string ⟨#[]⟩, .string ⟨#[]⟩, .slice none 0 0, .int .i64 0, .slice none 0 0, .int .i64 0, .string ⟨#[]⟩] 26)).setRow w1.heap.size #[.int .i64 xop, .string xfl, .string xmd, .slice xa xn xc, .int .i64 xbk, .slice xb xm xe, .int .i64 xcd, .string xtx] = w2 at *
  generalize w1.heap.size = gx at *
  clear w1

  have cc : ∀ q, w2.cell? ⟨w.heap.size, q, none⟩ = (#[.int .i64 xop, .string xfl, .string xmd, .slice xa xn xc, .int .i64 xbk, .slice xb xm xe, .int .i64 xcd, .string xtx] : Array Value)[q]? := fun q => cell_of_heap (HH2.out.at 2 _ _ rfl) q
  have HJ : Hid (∀ v, v.heap[w2.heap.size]? = some (.cells LC 56 (0, 0)) → Below w2.heap.size w2 v → Holds (v.setCell ⟨gx, 3, none⟩ (.slice (some ⟨w2.heap.size, 0, none⟩) xn (xn + 2))) ((w2.heap.size, (.cells LC 56 (0, 0))) :: (gx, .cells #[.int .i64 xop, .string xfl, .string xmd, .slice (some ⟨w2.heap.size, 0, none⟩) xn (xn + 2), .int .i64 xbk, .slice xb xm xe, .int .i64 xcd, .string xtx] 26) :: (w.heap.size + 1, .cells #[.int .i64 yop, .string yfl, .string ymd, .slice ya yn yc, .int .i64 ybk, .slice yb ym ye, .int .i64 ycd, .string ytx] 26) :: (w.heap.size, .cells #[.int .i64 xop, .string xfl, .string xmd, .slice xa xn xc, .int .i64 xbk, .slice xb xm xe, .int .i64 xcd, .string xtx] 26) :: []) ∧ Below w.heap.size w (v.setCell ⟨gx, 3, none⟩ (.slice (some ⟨w2.heap.size, 0, none⟩) xn (xn + 2))) ∧ w2.heap.size < (v.setCell ⟨gx, 3, none⟩ (.slice (some ⟨w2.heap.size, 0, none⟩) xn (xn + 2))).heap.size) := fun v hg hb => by
    have h2 := HH2.out.below hb
    have hbt : But gx v (v.setCell ⟨gx, 3, none⟩ (.slice (some ⟨w2.heap.size, 0, none⟩) xn (xn + 2))) := But.setCell _ _ _ _
    have hlt := heap_lt hg
    have hlx := heap_lt (HH2.out.at 0 _ _ rfl)
    refine ⟨?_, bbut (bstep HB2.out hb) hbt (by omega), by simpa [World.setCell] using hlt⟩
    have hx := heap_setCell (j := 3) (v := .slice (some ⟨w2.heap.size, 0, none⟩) xn (xn + 2)) (h2.at 0 _ _ rfl)
    have hp := keptBut (h2.at 2 _ _ rfl) hbt (by omega)
    have hq := keptBut (h2.at 1 _ _ rfl) hbt (by omega)
    have hn := keptBut hg hbt (by omega)
    exact ((((Holds.nil _).cons hp).cons hq).cons hx).cons hn
  go_upto_region 6 with (first
    | (go_at_call 9; refine (L1.out _ HB2.out).mono ?_; go_loud (rintro e v ⟨rfl, H3⟩; have c3 : v.cell? ⟨gx, 3, none⟩ = some (.slice xa xn xc) := cell_of_heap ((HH2.out.below H3.out.2.1).at 0 _ _ rfl) 3; have f3 : v.frozen? ⟨gx, 3, none⟩ = false := frozen_of_heap ((HH2.out.below H3.out.2.1).at 0 _ _ rfl) 3; obtain ⟨hj1, hj2, hj3⟩ := HJ.out v H3.out.1 H3.out.2.1; have HH3 := hid hj1; have HB3 := hid hj2; have Z23 := hid hj3; clear hj1 hj2 hj3))
    | fail)
  have z23 := Z23.out
  have ygx : gx < w2.heap.size := heap_lt (HH2.out.at 0 _ _ rfl)
  clear HJ cc c3 f3 HH2 HB2 Z23
  generalize v.setCell ⟨gx, 3, none⟩ (.slice (some ⟨w2.heap.size, 0, none⟩) xn (xn + 2)) = w3 at *
  generalize w2.heap.size = gc at *
  clear H3
  have z23' : gc < w3.heap.size := heap_lt (HH3.out.at 0 _ _ rfl)
  have ygc : gx < gc := by omega
  have cc : ∀ q, w3.cell? ⟨w.heap.size, q, none⟩ = (#[.int .i64 xop, .string xfl, .string xmd, .slice xa xn xc, .int .i64 xbk, .slice xb xm xe, .int .i64 xcd, .string xtx] : Array Value)[q]? := fun q => cell_of_heap (HH3.out.at 3 _ _ rfl) q
  have HJ : Hid (∀ v, v.heap[w3.heap.size]? = some (.cells LD 5 (0, 0)) → Below w3.heap.size w3 v → Holds (v.setCell ⟨gx, 5, none⟩ (.slice (some ⟨w3.heap.size, 0, none⟩) xm (xm + 2))) ((w3.heap.size, (.cells LD 5 (0, 0))) :: (gx, .cells #[.int .i64 xop, .string xfl, .string xmd, .slice (some ⟨gc, 0, none⟩) xn (xn + 2), .int .i64 xbk, .slice (some ⟨w3.heap.size, 0, none⟩) xm (xm + 2), .int .i64 xcd, .string xtx] 26) :: (gc, .cells LC 56 (0, 0)) :: (w.heap.size + 1, .cells #[.int .i64 yop, .string yfl, .string ymd, .slice ya yn yc, .int .i64 ybk, .slice yb ym ye, .int .i64 ycd, .string ytx] 26) :: (w.heap.size, .cells #[.int .i64 xop, .string xfl, .string xmd, .slice xa xn xc, .int .i64 xbk, .slice xb xm xe, .int .i64 xcd, .string xtx] 26) :: []) ∧ Below w.heap.size w (v.setCell ⟨gx, 5, none⟩ (.slice (some ⟨w3.heap.size, 0, none⟩) xm (xm + 2))) ∧ w3.heap.size < (v.setCell ⟨gx, 5, none⟩ (.slice (some ⟨w3.heap.size, 0, none⟩) xm (xm + 2))).heap.size) := fun v hg hb => by
    have h2 := HH3.out.below hb
    have hbt : But gx v (v.setCell ⟨gx, 5, none⟩ (.slice (some ⟨w3.heap.size, 0, none⟩) xm (xm + 2))) := But.setCell _ _ _ _
    have hlt := heap_lt hg
    have hlx := heap_lt (HH3.out.at 1 _ _ rfl)
    refine ⟨?_, bbut (bstep HB3.out hb) hbt (by omega), by simpa [World.setCell] using hlt⟩
    have hx := heap_setCell (j := 5) (v := .slice (some ⟨w3.heap.size, 0, none⟩) xm (xm + 2)) (h2.at 1 _ _ rfl)
    have hp := keptBut (h2.at 3 _ _ rfl) hbt (by omega)
    have hq := keptBut (h2.at 2 _ _ rfl) hbt (by omega)
    have hn := keptBut hg hbt (by omega)
    have hc := keptBut (h2.at 0 _ _ rfl) hbt (by omega)
    exact (((((Holds.nil _).cons hp).cons hq).cons hc).cons hx).cons hn
  go_upto_region 7 with (first
    | (go_at_call 10; refine (L2'.out _ HB3.out).mono ?_; go_loud (rintro e v ⟨rfl, hv0⟩; have hv := hid hv0; clear hv0; have c3 : v.cell? ⟨gx, 5, none⟩ = some (.slice xb xm xe) := cell_of_heap ((HH3.out.below (hv.out ▸ bpush (Below.refl _ _) _)).at 1 _ _ rfl) 5; have f3 : v.frozen? ⟨gx, 5, none⟩ = false := frozen_of_heap ((HH3.out.below (hv.out ▸ bpush (Below.refl _ _) _)).at 1 _ _ rfl) 5; obtain ⟨hj1, hj2, hj3⟩ := HJ.out v (hv.out ▸ heap_new w3 _) (hv.out ▸ bpush (Below.refl _ _) _); have HH4 := hid hj1; have HB4 := hid hj2; have Z34 := hid hj3; clear hj1 hj2 hj3))
    | fail)
  have z34 := Z34.out
  have ygx : gx < w3.heap.size := heap_lt (HH3.out.at 1 _ _ rfl)
  clear HJ cc c3 f3 HH3 HB3 Z34
  generalize v.setCell ⟨gx, 5, none⟩ (.slice (some ⟨w3.heap.size, 0, none⟩) xm (xm + 2)) = w4 at *
  generalize w3.heap.size = gd at *
  have z34' : gd < w4.heap.size := heap_lt (HH4.out.at 0 _ _ rfl)
  have ygd : gc < gd := by omega
  have cc0 : ∀ q, w4.cell? ⟨gx, q, none⟩ = (#[.int .i64 xop, .string xfl, .string xmd, .slice (some ⟨gc, 0, none⟩) xn (xn + 2), .int .i64 xbk, .slice (some ⟨gd, 0, none⟩) xm (xm + 2), .int .i64 xcd, .string xtx] : Array Value)[q]? := fun q => cell_of_heap (HH4.out.at 1 _ _ rfl) q
  go_wp2_with fail
  clear cc0
  refine (E1.out gc gd _ HB4.out (HH4.out.at 2 _ _ rfl) (HH4.out.at 0 _ _ rfl)).mono ?_
  rintro e w5 ⟨a1, n1, c1, rfl, an⟩
  have HH5 := hid (HH4.out.below an.out.2.2)
  have HB5 := hid (bstep HB4.out an.out.2.2)
  have HR1_5 := hid an.out.1
  have HI1 := hid (ans_lt an.out)
  have z45 : w4.heap.size ≤ w5.heap.size := an.out.2.2.size
  clear an HH4 HB4
  have cc0 : ∀ q, w5.cell? ⟨w.heap.size + 1, q, none⟩ = (#[.int .i64 yop, .string yfl, .string ymd, .slice ya yn yc, .int .i64 ybk, .slice yb ym ye, .int .i64 ycd, .string ytx] : Array Value)[q]? := fun q => cell_of_heap (HH5.out.at 3 _ _ rfl) q
  go_wp2_with fail
  clear cc0
  refine (E2.out _ HB5.out).mono ?_
  rintro e w6 ⟨a2, n2, c2, rfl, an⟩
  have HH6 := hid (HH5.out.below an.out.2.2)
  have HB6 := hid (bstep HB5.out an.out.2.2)
  have HR1_6 := hid (HR1_5.out.below an.out.2.2)
  have HR2_6 := hid an.out.1
  have HI2 := hid (ans_lt an.out)
  have z56 : w5.heap.size ≤ w6.heap.size := an.out.2.2.size
  clear an HH5 HB5 HR1_5
  have cc0 : ∀ q, w6.cell? ⟨gx, q, none⟩ = (#[.int .i64 xop, .string xfl, .string xmd, .slice (some ⟨gc, 0, none⟩) xn (xn + 2), .int .i64 xbk, .slice (some ⟨gd, 0, none⟩) xm (xm + 2), .int .i64 xcd, .string xtx] : Array Value)[q]? := fun q => cell_of_heap (HH6.out.at 1 _ _ rfl) q
  go_wp2_with fail
  clear cc0
  refine (E1.out gc gd _ HB6.out (HH6.out.at 2 _ _ rfl) (HH6.out.at 0 _ _ rfl)).mono ?_
  rintro e w7 ⟨a3, n3, c3, rfl, an⟩
  have HH7 := hid (HH6.out.below an.out.2.2)
  have HB7 := hid (bstep HB6.out an.out.2.2)
  have HR1_7 := hid (HR1_6.out.below an.out.2.2)
  have HR2_7 := hid (HR2_6.out.below an.out.2.2)
  have HR3_7 := hid an.out.1
  have HI3 := hid (ans_lt an.out)
  have z67 : w6.heap.size ≤ w7.heap.size := an.out.2.2.size
  clear an HH6 HB6 HR1_6 HR2_6
  have cc0 : ∀ q, w7.cell? ⟨gx, q, none⟩ = (#[.int .i64 xop, .string xfl, .string xmd, .slice (some ⟨gc, 0, none⟩) xn (xn + 2), .int .i64 xbk, .slice (some ⟨gd, 0, none⟩) xm (xm + 2), .int .i64 xcd, .string xtx] : Array Value)[q]? := fun q => cell_of_heap (HH7.out.at 1 _ _ rfl) q
  have cc1 : ∀ q, w7.cell? ⟨w.heap.size, q, none⟩ = (#[.int .i64 xop, .string xfl, .string xmd, .slice xa xn xc, .int .i64 xbk, .slice xb xm xe, .int .i64 xcd, .string xtx] : Array Value)[q]? := fun q => cell_of_heap (HH7.out.at 4 _ _ rfl) q
  go_wp2_with fail
  clear cc0 cc1
  refine (K1.out gc _ HB7.out (HH7.out.at 2 _ _ rfl)).mono ?_
  rintro e w8 ⟨rfl, bt⟩
  have HH8 := hid (((((Holds.nil _).cons (keptBut (HH7.out.at 4 _ _ rfl) bt.out (by omega))).cons (keptBut (HH7.out.at 3 _ _ rfl) bt.out (by omega))).cons (keptBut (HH7.out.at 1 _ _ rfl) bt.out (by omega))).cons (keptBut (HH7.out.at 0 _ _ rfl) bt.out (by omega)))
  have HB8 := hid (bbut HB7.out bt.out (by omega))
  have HR1_8 := hid (HR1_7.out.but bt.out (fun b hb => by have := HI1.out b hb; omega))
  have HR2_8 := hid (HR2_7.out.but bt.out (fun b hb => by have := HI2.out b hb; omega))
  have HR3_8 := hid (HR3_7.out.but bt.out (fun b hb => by have := HI3.out b hb; omega))
  have z78 : w7.heap.size ≤ w8.heap.size := bt.out.size
  clear HH7 HB7 HR1_7 HR2_7 HR3_7
  have cc0 : ∀ q, w8.cell? ⟨gx, q, none⟩ = (#[.int .i64 xop, .string xfl, .string xmd, .slice (some ⟨gc, 0, none⟩) xn (xn + 2), .int .i64 xbk, .slice (some ⟨gd, 0, none⟩) xm (xm + 2), .int .i64 xcd, .string xtx] : Array Value)[q]? := fun q => cell_of_heap (HH8.out.at 1 _ _ rfl) q
  have cc1 : ∀ q, w8.cell? ⟨w.heap.size, q, none⟩ = (#[.int .i64 xop, .string xfl, .string xmd, .slice xa xn xc, .int .i64 xbk, .slice xb xm xe, .int .i64 xcd, .string xtx] : Array Value)[q]? := fun q => cell_of_heap (HH8.out.at 3 _ _ rfl) q
  go_wp2_with fail
  clear cc0 cc1
  refine (S1.out gd _ HB8.out (HH8.out.at 0 _ _ rfl)).mono ?_
  rintro e w9 ⟨rfl, bt⟩
  have HH9 := hid ((((Holds.nil _).cons (keptBut (HH8.out.at 3 _ _ rfl) bt (by omega))).cons (keptBut (HH8.out.at 2 _ _ rfl) bt (by omega))).cons (keptBut (HH8.out.at 1 _ _ rfl) bt (by omega)))
  have HB9 := hid (bbut HB8.out bt (by omega))
  have HR1_9 := hid (HR1_8.out.but bt (fun b hb => by have := HI1.out b hb; omega))
  have HR2_9 := hid (HR2_8.out.but bt (fun b hb => by have := HI2.out b hb; omega))
  have HR3_9 := hid (HR3_8.out.but bt (fun b hb => by have := HI3.out b hb; omega))
  have z89 : w8.heap.size ≤ w9.heap.size := bt.size
  clear HH8 HB8 HR1_8 HR2_8 HR3_8
  have cc0 : ∀ q, w9.cell? ⟨w.heap.size, q, none⟩ = (#[.int .i64 xop, .string xfl, .string xmd, .slice xa xn xc, .int .i64 xbk, .slice xb xm xe, .int .i64 xcd, .string xtx] : Array Value)[q]? := fun q => cell_of_heap (HH9.out.at 2 _ _ rfl) q
  go_wp2_with fail
  clear cc0
  refine (R1.out _ HB9.out).mono ?_
  rintro e w10 ⟨a4, n4, c4, rfl, an⟩
  have HH10 := hid (HH9.out.below an.out.2.2)
  have HB10 := hid (bstep HB9.out an.out.2.2)
  have HR1_10 := hid (HR1_9.out.below an.out.2.2)
  have HR2_10 := hid (HR2_9.out.below an.out.2.2)
  have HR3_10 := hid (HR3_9.out.below an.out.2.2)
  have HR4_10 := hid an.out.1
  have HI4 := hid (ans_lt an.out)
  have z910 : w9.heap.size ≤ w10.heap.size := an.out.2.2.size
  clear an HH9 HB9 HR1_9 HR2_9 HR3_9
  have cc0 : ∀ q, w10.cell? ⟨w.heap.size + 1, q, none⟩ = (#[.int .i64 yop, .string yfl, .string ymd, .slice ya yn yc, .int .i64 ybk, .slice yb ym ye, .int .i64 ycd, .string ytx] : Array Value)[q]? := fun q => cell_of_heap (HH10.out.at 1 _ _ rfl) q
  go_wp2_with fail
  clear cc0
  refine (R2.out _ HB10.out).mono ?_
  rintro e w11 ⟨a5, n5, c5, rfl, an⟩
  have HH11 := hid (HH10.out.below an.out.2.2)
  have HB11 := hid (bstep HB10.out an.out.2.2)
  have HR1_11 := hid (HR1_10.out.below an.out.2.2)
  have HR2_11 := hid (HR2_10.out.below an.out.2.2)
  have HR3_11 := hid (HR3_10.out.below an.out.2.2)
  have HR4_11 := hid (HR4_10.out.below an.out.2.2)
  have HR5_11 := hid an.out.1
  have HI5 := hid (ans_lt an.out)
  have z1011 : w10.heap.size ≤ w11.heap.size := an.out.2.2.size
  clear an HH10 HB10 HR1_10 HR2_10 HR3_10 HR4_10
  have v1 := HR1_11.out.conv0 D1.out.1
  have v2 := HR2_11.out.conv0 D2.out.1
  have v3 := HR3_11.out.conv0 D1.out.1
  have v4 := HR4_11.out.conv0 D1.out.1
  have v5 := HR5_11.out.conv0 D2.out.1
  have st1 := str_same (strOfNums Y1)
  have st2 := str_same (strOfNums Y2)
  generalize strOfNums Y1 = X1 at *
  generalize strOfNums Y2 = X2 at *
  have hE : (E != E) = false := by simp
  have hF : (F != F) = false := by simp
  go_wp2_with fail
  clear v1 v2 v3 v4 v5
  have hbk : w.heap.size ≤ w11.heap.size := HB11.out.size
  have ra := bpush (Below.refl w11.heap.size w11) (.cells #[.slice none 0 0, .slice none 0 0] 38)
  have HBk := hid (bpush HB11.out (.cells #[.slice none 0 0, .slice none 0 0] 38))
  have HR1k := hid (HR1_11.out.below ra)
  have HR2k := hid (HR2_11.out.below ra)
  have HR3k := hid (HR3_11.out.below ra)
  refine (take_late w11.heap.size _ _ (.slice a1 n1 c1) [] Y1 w.heap.size _ (Late.new w11 w.heap.size hbk) HR1k.out D1.out.1 (by have := D1.out.2; omega) (by simp) (fun b hb => ⟨by have := HI1.out b hb; omega, by have := HI1.out b hb; omega, by simp⟩)).mono ?_
  rintro e wb ⟨rfl, Lb, Vb, lb, kb, bb⟩
  have HLb := hid lb
  have HBb := hid (HBk.out.trans bb)
  have HR2b := hid (HR2k.out.low kb (fun b hb => by have := HI2.out b hb; omega))
  have HR3b := hid (HR3k.out.low kb (fun b hb => by have := HI3.out b hb; omega))
  clear lb bb kb ra HR1k HR2k HR3k HBk
  generalize w11.heap.size = gk at *
  go_wp2_with fail
  refine (take_late gk Lb Vb (.slice a2 n2 c2) _ Y2 w.heap.size wb HLb.out HR2b.out D2.out.1 (by have := D2.out.2; omega) (by simp) (fun b hb => ⟨by have := HI2.out b hb; omega, by have := HI2.out b hb; omega, fun p hp e => by
    simp at hp
    subst hp
    have h1 := HI2.out b hb
    have h2 := HI1.out b e
    omega⟩)).mono ?_
  rintro e wd ⟨rfl, Ld, Vd, ld, kd, bd⟩
  have HLd := hid ld
  have HBd := hid (HBb.out.trans bd)
  have HR3d := hid (HR3b.out.low kd (fun b hb => by have := HI3.out b hb; omega))
  clear ld bd kd HR2b HR3b HBb HLb
  go_wp2_with fail
  refine (take_late gk Ld Vd (.slice a3 n3 c3) _ Y1 w.heap.size wd HLd.out HR3d.out D1.out.1 (by have := D1.out.2; omega) (by simp) (fun b hb => ⟨by have := HI3.out b hb; omega, by have := HI3.out b hb; omega, fun p hp e => by
    have h1 := HI3.out b hb
    simp at hp
    rcases hp with hp | hp
    · subst hp
      have h2 := HI1.out b e
      omega
    · subst hp
      have h2 := HI2.out b e
      omega⟩)).mono ?_
  rintro e we ⟨rfl, Le, Ve, le, ke, be⟩
  have HLe := hid le
  have HBe := hid (HBd.out.trans be)
  clear le be ke HR3d HBd HLd
  go_wp2_with fail
  refine (owned_late gk Le Ve _ w.heap.size we HLe.out).mono ?_
  rintro e wf ⟨rfl, bf, _⟩
  have HBf := hid (HBe.out.trans bf)
  clear bf HBe HLe
  go_wp2
  go_ret
  exact ⟨rfl, HBf.out⟩
end Go.Proofs.YtdcppiknomoigaaDoor

/-
  Tftp: what came out of Decode, beside other such; for the walks of TftpDecodes, TftpBack.
-/
namespace Go.Proofs.YtdcppiknomoigaaDoor
open Go.RowKit
set_option linter.all false

theorem dec_props {zs : List Int} {q : Tp} (hb : ∀ z, z ∈ zs → 0 ≤ z ∧ z ≤ 255) (h : decT zs = .ok q) : q.ch.length ≤ 3 ∧ q.da.length ≤ 65464 ∧ (∀ z, z ∈ q.da → 0 ≤ z ∧ z ≤ 255) := by
  unfold decT at h
  by_cases h2 : zs.length < 2
  · rw [if_pos h2] at h; cases h
  · rw [if_neg h2] at h
    by_cases h1 : be2 zs = 1
    · rw [if_pos h1] at h
      unfold decRd at h
      cases c1 : cutG (zs.drop 2) with
      | none => rw [c1] at h; cases h
      | some x =>
        obtain ⟨f, r1⟩ := x
        rw [c1] at h
        simp only at h
        split at h
        · cases h
        · cases c2 : cutG r1 with
          | none => rw [c2] at h; cases h
          | some y =>
            obtain ⟨m, r2⟩ := y
            rw [c2] at h
            simp only at h
            split at h
            · cases h
            · cases c3 : readG [] r2 with
              | error e => rw [c3] at h; cases h
              | ok l =>
                rw [c3] at h
                simp only [Except.ok.injEq] at h
                subst h
                exact ⟨chOk_3 (read_ok c3) (Nat.le_refl _), by simp [Tp.nil], by simp [Tp.nil]⟩
    · rw [if_neg h1] at h
      by_cases h6 : be2 zs = 6
      · rw [if_pos h6] at h
        cases c3 : readG [] (zs.drop 2) with
        | error e => rw [c3] at h; cases h
        | ok l =>
          rw [c3] at h
          simp only [Except.ok.injEq] at h
          subst h
          exact ⟨chOk_3 (read_ok c3) (Nat.le_refl _), by simp [Tp.nil], by simp [Tp.nil]⟩
      · rw [if_neg h6] at h
        split at h
        · unfold decNu at h
          split at h
          · cases h
          · split at h
            · simp only [Except.ok.injEq] at h
              subst h
              exact ⟨by simp [Tp.nil], by simp [Tp.nil], by simp [Tp.nil]⟩
            · split at h
              · split at h
                · cases h
                · simp only [Except.ok.injEq] at h
                  subst h
                  rename_i hl
                  exact ⟨by simp [Tp.nil], by simp only; omega, drop_bd (drop_bd hb 2) 2⟩
              · split at h
                · cases h
                · split at h
                  · cases h
                  · simp only [Except.ok.injEq] at h
                    subst h
                    exact ⟨by simp [Tp.nil], by simp [Tp.nil], by simp [Tp.nil]⟩
        · cases h
theorem decQ_props (zs : List Int) (hb : ∀ z, z ∈ zs → 0 ≤ z ∧ z ≤ 255) : (decQ zs).ch.length ≤ 3 ∧ (decQ zs).da.length ≤ 65464 ∧ (∀ z, z ∈ (decQ zs).da → 0 ≤ z ∧ z ≤ 255) := by
  unfold decQ
  cases h : decT zs with
  | error e => simp [Tp.nil]
  | ok q => exact dec_props hb h
/-- a packet that came out, its lists in blocks from lo to hi. -/
structure DcK (lo hi : Nat) (W : World) (q : Tp) (ca : Option Addr) (cc : Nat) (da : Option Addr) (dc : Nat) : Prop where
  kch : RowC W (.slice ca q.ch.length cc) q.ch
  kci : ∀ b, (Value.slice ca q.ch.length cc).ownBlock = some b → lo ≤ b ∧ b < hi
  kda : Row W 5 (.slice da q.da.length dc) (u8s q.da)
  kdi : ∀ b, (Value.slice da q.da.length dc).ownBlock = some b → lo ≤ b ∧ b < hi
theorem DcO.k {w W : World} {q : Tp} {ca da : Option Addr} {cc dc : Nat} (h : DcO w W q ca cc da dc) : DcK w.heap.size W.heap.size W q ca cc da dc :=
  ⟨h.rch, fun b hb => ⟨h.rchn b hb, RowS.lt h.rch hb⟩, h.rda, fun b hb => ⟨h.rdan b hb, h.rda.lt hb⟩⟩
section
variable {lo hi : Nat} {W W' : World} {q : Tp} {ca da : Option Addr} {cc dc : Nat}
theorem DcK.below (h : DcK lo hi W q ca cc da dc) (hb : Below W.heap.size W W') : DcK lo hi W' q ca cc da dc := ⟨RowS.below h.kch hb, h.kci, h.kda.below hb, h.kdi⟩
theorem DcK.but {g : Nat} (h : DcK lo hi W q ca cc da dc) (hb : But g W W') (hg : g < lo ∨ hi ≤ g) : DcK lo hi W' q ca cc da dc :=
  ⟨RowS.keep h.kch fun b hb' => hb.block b (by have := h.kci b hb'; omega) (RowS.lt h.kch hb'), h.kci, h.kda.but hb (fun b hb' => by have := h.kdi b hb'; omega), h.kdi⟩
theorem DcK.low {gk : Nat} (h : DcK lo hi W q ca cc da dc) (hk : ∀ k, k < gk → W'.heap[k]? = W.heap[k]?) (hg : hi ≤ gk) : DcK lo hi W' q ca cc da dc :=
  ⟨RowS.keep h.kch fun b hb' => hk b (by have := h.kci b hb'; omega), h.kci, h.kda.low hk (fun b hb' => by have := h.kdi b hb'; omega), h.kdi⟩
theorem DcK.r (h : DcK lo hi W q ca cc da dc) (hz : ∀ z, z ∈ q.da → 0 ≤ z ∧ z ≤ 255) : TpR q ca da dc W := by
  refine ⟨(RowC.chv h.kch).2, ?_⟩
  obtain ⟨pt, e1, e2, e3⟩ := h.kda.part hz
  obtain ⟨a, c, zs⟩ := pt
  simp only [Part.val] at e1 e2
  subst e2
  simp only [Value.slice.injEq] at e1
  obtain ⟨rfl, _, rfl⟩ := e1
  exact e3
end
theorem rowU_obj {w : World} {v : Value} {zs : List Value} (h : Row w 5 v zs) {b : Nat} (hb : v.ownBlock = some b) : ∃ cur f, w.heap[b]? = some (.cells cur 5 f) := by
  rcases h with ⟨h1, _⟩ | ⟨g, cp, cur, lo, hi, h1, h2, _⟩
  · rw [h1] at hb; cases hb
  · rw [h1] at hb
    simp only [Value.ownBlock, Option.some.injEq] at hb
    subst hb
    exact ⟨cur, _, h2⟩
/-- a row of bytes and one of choices lie apart. -/
theorem row_apart {w : World} {v : Value} {zs : List Value} (h : Row w 5 v zs) {u : Value} {l : List Ch} (h' : RowC w u l) {b : Nat} (hb : u.ownBlock = some b) : v.ownBlock ≠ some b := fun e => by
  obtain ⟨cur, f, h1⟩ := rowU_obj h e
  obtain ⟨cur2, h2⟩ := RowS.obj h' hb
  rw [h1] at h2
  simp only [Option.some.injEq, Obj.cells.injEq] at h2
  exact absurd h2.2.1 (by decide)
end Go.Proofs.YtdcppiknomoigaaDoor

/-
  Tftp: what is laid and read again; pure facts for the statement TftpBack.
-/
namespace Go.Proofs.YtdcppiknomoigaaDoor
open Go.RowKit
set_option linter.all false

theorem may_ops {p : Tp} (h : p.may = 0) : p.op = 1 ∨ p.op = 3 ∨ p.op = 4 ∨ p.op = 5 ∨ p.op = 6 := by
  have hn : ∀ hx : p.op ≠ 1 ∧ p.op ≠ 3 ∧ p.op ≠ 4 ∧ p.op ≠ 5 ∧ p.op ≠ 6, False := fun hx => by
    unfold Tp.may at h
    rw [may_no hx] at h
    cases h
  apply Classical.byContradiction
  intro hc
  exact hn (by omega)
theorem norm_enc {p : Tp} (h : p.may = 0) : p.norm.enc = p.enc := by
  have ho := may_ops h
  unfold Tp.may at h
  obtain ⟨op, fl, md, ch, bk, da, cd, tx⟩ := p
  simp only at h ho
  rcases ho with rfl | rfl | rfl | rfl | rfl
  · rw [may_1] at h
    have hm : md = nOct := by
      by_cases hx : fileB fl = false ∨ md ≠ nOct
      · rw [if_pos hx] at h; cases h
      · simp only [not_or, ne_eq, Classical.not_not] at hx; exact hx.2
    subst hm
    rfl
  · rfl
  · rfl
  · rfl
  · rfl
theorem norm_ok {p : Tp} (h : p.may = 0) (hd : ∀ z, z ∈ p.da → 0 ≤ z ∧ z ≤ 255) : p.norm.may = 0 ∧ p.norm.norm = p.norm := dec_may (enc_bd p hd) (enc_back h)
theorem okE_ok {b : Bool} (h : okE b = 0) : b = true := by
  unfold okE at h
  by_cases hk : b = true
  · exact hk
  · rw [if_neg hk] at h; cases h
theorem norm_sz {p : Tp} (h : p.may = 0) : p.norm.fl.size ≤ 64 ∧ p.norm.md.size ≤ 64 ∧ p.norm.tx.size ≤ 255 ∧ p.norm.ch.length ≤ 3 ∧ p.norm.da.length ≤ 65464 := by
  have ho := may_ops h
  unfold Tp.may at h
  obtain ⟨op, fl, md, ch, bk, da, cd, tx⟩ := p
  simp only at h ho
  have hs : noS.size = 0 := rfl
  have ho' : nOct.size = 5 := rfl
  rcases ho with rfl | rfl | rfl | rfl | rfl
  · rw [may_1] at h
    by_cases hx : fileB fl = false ∨ md ≠ nOct
    · rw [if_pos hx] at h; cases h
    · rw [if_neg hx] at h
      simp only [not_or, Bool.not_eq_false, ne_eq, Classical.not_not] at hx
      have h1 := hx.1
      unfold fileB at h1
      simp only [Bool.and_eq_true, decide_eq_true_eq] at h1
      have h3 := chOk_3 (okE_ok h) (Nat.le_refl _)
      show fl.size ≤ 64 ∧ nOct.size ≤ 64 ∧ noS.size ≤ 255 ∧ ch.length ≤ 3 ∧ ([] : List Int).length ≤ 65464
      exact ⟨by omega, by omega, by omega, h3, by simp⟩
  · rw [may_3] at h
    show noS.size ≤ 64 ∧ noS.size ≤ 64 ∧ noS.size ≤ 255 ∧ ([] : List Ch).length ≤ 3 ∧ da.length ≤ 65464
    unfold dataE at h
    split at h
    · cases h
    · split at h
      · cases h
      · exact ⟨by omega, by omega, by omega, by simp, by omega⟩
  · show noS.size ≤ 64 ∧ noS.size ≤ 64 ∧ noS.size ≤ 255 ∧ ([] : List Ch).length ≤ 3 ∧ ([] : List Int).length ≤ 65464
    exact ⟨by omega, by omega, by omega, by simp, by simp⟩
  · rw [may_5] at h
    show noS.size ≤ 64 ∧ noS.size ≤ 64 ∧ tx.size ≤ 255 ∧ ([] : List Ch).length ≤ 3 ∧ ([] : List Int).length ≤ 65464
    unfold errE at h
    split at h
    · cases h
    · split at h
      · cases h
      · split at h
        · cases h
        · exact ⟨by omega, by omega, by omega, by simp, by simp⟩
  · rw [may_6] at h
    have h3 := chOk_3 (okE_ok h) (Nat.le_refl _)
    show noS.size ≤ 64 ∧ noS.size ≤ 64 ∧ noS.size ≤ 255 ∧ ch.length ≤ 3 ∧ ([] : List Int).length ≤ 65464
    exact ⟨by omega, by omega, by omega, h3, by simp⟩
theorem readG_ne : ∀ (n : Nat) (zs : List Int) (acc : List Ch) (e : Int), zs.length ≤ n → readG acc zs = .error e → e ≠ 0
  | n, zs, acc, e, hn, h => by
    by_cases h0 : zs = []
    · subst h0
      rw [readG_nil] at h
      cases h
    · cases h1 : cutG zs with
      | none => rw [readG_short1 acc h0 h1] at h; simp only [Except.error.injEq] at h; omega
      | some p =>
        obtain ⟨nm, r1⟩ := p
        cases h2 : cutG r1 with
        | none => rw [readG_short2 acc h1 h2] at h; simp only [Except.error.injEq] at h; omega
        | some p2 =>
          obtain ⟨vs, r2⟩ := p2
          rw [readG_step acc h1 h2] at h
          have l1 := cutG_len h1
          have l2 := cutG_len h2
          obtain ⟨m, rfl⟩ : ∃ m, n = m + 1 := ⟨n - 1, by omega⟩
          split at h
          · exact readG_ne m r2 acc e (by omega) h
          · split at h
            · simp only [Except.error.injEq] at h; omega
            · split at h
              · simp only [Except.error.injEq] at h; omega
              · exact readG_ne m r2 _ e (by omega) h
theorem dec_ne {zs : List Int} {e : Int} (h : decT zs = .error e) : e ≠ 0 := by
  unfold decT at h
  split at h
  · simp only [Except.error.injEq] at h; omega
  · split at h
    · unfold decRd at h
      split at h
      · simp only [Except.error.injEq] at h; omega
      · split at h
        · simp only [Except.error.injEq] at h; omega
        · split at h
          · simp only [Except.error.injEq] at h; omega
          · split at h
            · simp only [Except.error.injEq] at h; omega
            · split at h
              · rename_i hr
                simp only [Except.error.injEq] at h
                subst h
                exact readG_ne _ _ _ _ (Nat.le_refl _) hr
              · cases h
    · split at h
      · split at h
        · rename_i hr
          simp only [Except.error.injEq] at h
          subst h
          exact readG_ne _ _ _ _ (Nat.le_refl _) hr
        · cases h
      · split at h
        · unfold decNu at h
          split at h
          · simp only [Except.error.injEq] at h; omega
          · split at h
            · cases h
            · split at h
              · split at h
                · simp only [Except.error.injEq] at h; omega
                · cases h
              · split at h
                · simp only [Except.error.injEq] at h; omega
                · split at h
                  · simp only [Except.error.injEq] at h; omega
                  · cases h
        · simp only [Except.error.injEq] at h; omega
/-- what Decode says of any bytes: it refuses them, or tells a packet that may be laid. -/
theorem dec_two (zs : List Int) (hb : ∀ z, z ∈ zs → 0 ≤ z ∧ z ≤ 255) : (decQ zs = Tp.nil ∧ decE zs ≠ 0) ∨ (decE zs = 0 ∧ (decQ zs).may = 0 ∧ (decQ zs).norm = decQ zs) := by
  cases h : decT zs with
  | error e => exact Or.inl ⟨(dec_er_of h).1, (dec_er_of h).2 ▸ dec_ne h⟩
  | ok q =>
    have := dec_ok_of h
    exact Or.inr ⟨this.2, this.1 ▸ dec_may hb h⟩
theorem DcK.s {lo hi : Nat} {W : World} {q : Tp} {ca da : Option Addr} {cc dc : Nat} (h : DcK lo hi W q ca cc da dc) (hz : ∀ z, z ∈ q.da → 0 ≤ z ∧ z ≤ 255) (hs : q.fl.size ≤ 64 ∧ q.md.size ≤ 64 ∧ q.tx.size ≤ 255 ∧ q.ch.length ≤ 3 ∧ q.da.length ≤ 65464) : TpS q ca cc da dc W := by
  have hr := h.r hz
  refine ⟨hr.ch, ?_, by omega, hr.da, by omega, by omega, by omega, by omega⟩
  rcases h.kch.2 with ⟨h1, h2⟩ | ⟨g, cap, cur, hv, _, _, h3, _⟩
  · simp only [Value.slice.injEq] at h1; omega
  · simp only [Value.slice.injEq] at hv; omega
/-- what Encode lays, Decode tells. -/
theorem enc_dec {p : Tp} (h : p.may = 0) : decQ p.enc = p.norm ∧ decE p.enc = 0 := dec_ok_of (enc_back h)
theorem norm_da {p : Tp} (hd : ∀ z, z ∈ p.da → 0 ≤ z ∧ z ≤ 255) : ∀ z, z ∈ p.norm.da → 0 ≤ z ∧ z ≤ 255 := fun z hz => by
  unfold Tp.norm at hz
  split at hz
  · simp [Tp.nil] at hz
  · split at hz
    · exact hd z hz
    · split at hz
      · simp [Tp.nil] at hz
      · split at hz
        · simp [Tp.nil] at hz
        · simp [Tp.nil] at hz
end Go.Proofs.YtdcppiknomoigaaDoor
