/-
  The walk of the statement TftpEncodes. Written by mktgen.py.
-/
import Derived.Test.YtdcppiknomoigaaDoorTgI
import Derived.Test.YtdcppiknomoigaaDoorTgM
import Derived.Test.YtdcppiknomoigaaDoorTfN
import Derived.Test.YtdcppiknomoigaaDoorTgH
import Derived.Test.YtdcppiknomoigaaDoorBBookJ
namespace Go.Proofs.YtdcppiknomoigaaDoor
open Go.RowKit
set_option linter.all false

theorem lent_part {w : World} {g : Nat} {pt : Part} (hz : ∀ z, z ∈ pt.zs → 0 ≤ z ∧ z ≤ 255) (hg : w.heap[g]? = some (.cells (L2 pt.zs) 5 (0, 0))) : Part.ok w ⟨some ⟨g, 0, none⟩, pt.zs.length + 2, pt.zs⟩ :=
  Part.of_heap hg 0 (by omega) (fun j hj => by rw [Nat.zero_add]; exact L2_lo pt.zs j hj) hz
theorem enc_len {p : Tp} (h : p.may = 0) : p.enc.length ≤ 70000 := by
  unfold Tp.may at h
  obtain ⟨op, fl, md, ch, bk, da, cd, tx⟩ := p
  simp only at h
  unfold Tp.enc
  simp only
  by_cases o1 : op = 1
  · subst o1
    rw [may_1] at h
    rw [if_pos rfl]
    by_cases hx : fileB fl = false ∨ md ≠ nOct
    · rw [if_pos hx] at h; cases h
    · rw [if_neg hx] at h
      simp only [not_or, Bool.not_eq_false, ne_eq, Classical.not_not] at hx
      have hk : chOk ch ch.length = true := by
        unfold okE at h
        by_cases hk : chOk ch ch.length = true
        · exact hk
        · rw [if_neg hk] at h; cases h
      have h1 := hx.1
      unfold fileB at h1
      simp only [Bool.and_eq_true, decide_eq_true_eq] at h1
      have h2 := chsB_66 hk
      have h3 : (nums md).length = 5 := by rw [hx.2]; rfl
      simp only [op2, List.length_append, List.length_cons, List.length_nil, nums_len] at *
      omega
  · rw [if_neg o1]
    by_cases o3 : op = 3
    · subst o3
      rw [may_3] at h
      rw [if_pos rfl]
      unfold dataE at h
      split at h
      · cases h
      · split at h
        · cases h
        · simp only [op2, List.length_append, List.length_cons, List.length_nil]; omega
    · rw [if_neg o3]
      by_cases o4 : op = 4
      · rw [if_pos o4]; simp [op2]
      · rw [if_neg o4]
        by_cases o5 : op = 5
        · subst o5
          rw [may_5] at h
          rw [if_pos rfl]
          unfold errE at h
          split at h
          · cases h
          · split at h
            · cases h
            · split at h
              · cases h
              · simp only [op2, List.length_append, List.length_cons, List.length_nil, nums_len]; omega
        · rw [if_neg o5]
          by_cases o6 : op = 6
          · subst o6
            rw [may_6] at h
            have hk : chOk ch ch.length = true := by
              unfold okE at h
              by_cases hk : chOk ch ch.length = true
              · exact hk
              · rw [if_neg hk] at h; cases h
            have h2 := chsB_66 hk
            simp only [op2, List.length_append, List.length_cons, List.length_nil]; omega
          · rw [may_no ⟨o1, o3, o4, o5, o6⟩] at h; cases h
/-- what Encode answers. -/
def encY (p : Tp) : List Int := if p.may = 0 then p.enc else []
theorem encY_bd (p : Tp) (hd : ∀ z, z ∈ p.da → 0 ≤ z ∧ z ≤ 255) : (∀ z, z ∈ encY p → 0 ≤ z ∧ z ≤ 255) ∧ (encY p).length ≤ 70000 := by
  unfold encY
  by_cases h : p.may = 0
  · rw [if_pos h]; exact ⟨enc_bd p hd, enc_len h⟩
  · rw [if_neg h]; simp
set_option maxRecDepth 20000 in
set_option maxHeartbeats 16000000 in
theorem tftpEncodes_walk (t : Tp) (xa : Option Addr) (xc : Nat) (xb : Option Addr) (xe : Nat) (u : Tp) (ya : Option Addr) (yc : Nat) (yb : Option Addr) (ye : Nat) (w : World) (hE : Env w) (hx : TpS t xa xc xb xe w) (hy : TpS u ya yc yb ye w) :
    Calls Tryd.prog 4 #[.agg (tpC t xa xc xb xe), .agg (tpC u ya yc yb ye)] w fun e w' => e = .returned (.bool true) ∧ Below w.heap.size w w' := by
  have LV : Hid (∀ w', Below w.heap.size w w' → Calls Tryd.prog 8 #[] w' fun e w'' => e = .returned (.bool true) ∧ Hid (Below w'.heap.size w' w'')) := fun w' hb => live_any w' (hE.below hb)
  have R1 : Hid (∀ w', Below w.heap.size w w' → _) := fun w' hb => refEncode_any t xa xc xb xe w' (hx.below hb)
  have R2 : Hid (∀ w', Below w.heap.size w w' → _) := fun w' hb => refEncode_any u ya yc yb ye w' (hy.below hb)
  have L1 : Hid (∀ w', Below w.heap.size w w' → _) := fun w' hb => clent_any t.ch xa t.ch.length xc w' (hx.ch.below hb) rfl hx.cn
  have L2' : Hid (∀ w', Below w.heap.size w w' → _) := fun w' hb => lent_any ⟨xb, xe, t.da⟩ w' (Part.ok_below hx.da hb) hx.dn
  have E1 : Hid (∀ (gc gd : Nat) (w' : World), Below w.heap.size w w' → w'.heap[gc]? = some (.cells (lentC t.ch) 56 (0, 0)) → w'.heap[gd]? = some (.cells (L2 t.da) 5 (0, 0)) → _) := fun gc gd w' hb h1 h2 =>
    encode_any t (some ⟨gc, 0, none⟩) (t.ch.length + 2) (some ⟨gd, 0, none⟩) (t.da.length + 2) w' (hE.below hb) ⟨lentC_chv h1, by omega, hx.cn, lent_part (pt := ⟨xb, xe, t.da⟩) hx.da.1 h2, hx.dn, hx.fl, hx.md, hx.tx⟩
  have E2 : Hid (∀ w', Below w.heap.size w w' → _) := fun w' hb => encode_any u ya yc yb ye w' (hE.below hb) (hy.below hb)
  have K1 : Hid (∀ (gc : Nat) (w' : World), Below w.heap.size w w' → w'.heap[gc]? = some (.cells (lentC t.ch) 56 (0, 0)) → _) := fun gc w' hb h1 => ckept_any gc t.ch xa t.ch.length xc w' h1 (hx.ch.below hb) rfl hx.cn
  have S1 : Hid (∀ (gd : Nat) (w' : World), Below w.heap.size w w' → w'.heap[gd]? = some (.cells (L2 t.da) 5 (0, 0)) → _) := fun gd w' hb h1 => asLent_any gd ⟨xb, xe, t.da⟩ w' (Part.ok_below hx.da hb) hx.dn h1
  have D1 := hid (encY_bd t hx.da.1)
  have D2 := hid (encY_bd u hy.da.1)
  have FY1 : Hid ((if t.may = 0 then t.enc else []) = encY t) := rfl
  have FY2 : Hid ((if u.may = 0 then u.enc else []) = encY u) := rfl
  clear hE hx hy
  rw [FY1.out] at R1 E1
  rw [FY2.out] at R2 E2
  generalize encY t = Y1 at *
  generalize encY u = Y2 at *
  generalize t.may = E at *
  generalize u.may = F at *
  obtain ⟨xop, xfl, xmd, xch, xbk, xdl, xcd, xtx⟩ := t
  obtain ⟨yop, yfl, ymd, ych, ybk, ydl, ycd, ytx⟩ := u
  simp only [tpC, Part.val] at *
  generalize lentC xch = LC at *
  generalize L2 xdl = LD at *
  generalize xch.length = xn at *
  generalize xdl.length = xm at *
  generalize ych.length = yn at *
  generalize ydl.length = ym at *
  clear FY1 FY2
  go_enter Tryd.func4, Tryd.ntmps4
  go_wp2_with fail
  have hh0 := ((Holds.nil w).push (.cells #[.int .i64 xop, .string xfl, .string xmd, .slice xa xn xc, .int .i64 xbk, .slice xb xm xe, .int .i64 xcd, .string xtx] 26)).push (.cells #[.int .i64 yop, .string yfl, .string ymd, .slice ya yn yc, .int .i64 ybk, .slice yb ym ye, .int .i64 ycd, .string ytx] 26)
  simp only [World.size_alloc] at hh0
  have hb0 := bpush (bpush (Below.refl _ w) (.cells #[.int .i64 xop, .string xfl, .string xmd, .slice xa xn xc, .int .i64 xbk, .slice xb xm xe, .int .i64 xcd, .string xtx] 26)) (.cells #[.int .i64 yop, .string yfl, .string ymd, .slice ya yn yc, .int .i64 ybk, .slice yb ym ye, .int .i64 ycd, .string ytx] 26)
  refine (LV.out _ hb0).mono ?_
  rintro e w1 ⟨rfl, hb1⟩
  have HH1 := hid (hh0.below hb1.out)
  have HB1 := hid (bstep hb0 hb1.out)
  have z01 : w.heap.size + 2 ≤ w1.heap.size := by have := hb1.out.size; simpa using this
  clear hh0 hb0 hb1 LV
  have HX1 := hid (heap_new w1 (.cells #[.int .i64 0, .string ⟨#[]⟩, .string ⟨#[]⟩, .slice none 0 0, .int .i64 0, .slice none 0 0, .int .i64 0, .string ⟨#[]⟩] 26))
  go_upto_region 5 with (first
    | (refine wpList_load_row rfl 26 _ rfl w.heap.size rfl 26 #[.int .i64 xop, .string xfl, .string xmd, .slice xa xn xc, .int .i64 xbk, .slice xb xm xe, .int .i64 xcd, .string xtx] (0, 0) _ (HH1.out.at 1 _ _ rfl) Tryd.underlying26 rfl (by kernel_rfl) ?_)
    | (refine wpList_store_row rfl 26 _ _ rfl w1.heap.size #[.int .i64 xop, .string xfl, .string xmd, .slice xa xn xc, .int .i64 xbk, .slice xb xm xe, .int .i64 xcd, .string xtx] rfl rfl 26 _ HX1.out (by kernel_rfl) rfl (by first | kernel_rfl | simp [Value.oneCell']) ?_)
    | fail)
  have hst : But w1.heap.size (w1.alloc (.cells #[.int .i64 0, .string ⟨#[]⟩, .string ⟨#[]⟩, .slice none 0 0, .int .i64 0, .slice none 0 0, .int .i64 0, .string ⟨#[]⟩] 26)) ((w1.alloc (.cells #[.int .i64 0, .string ⟨#[]⟩, .string ⟨#[]⟩, .slice none 0 0, .int .i64 0, .slice none 0 0, .int .i64 0, .string ⟨#[]⟩] 26)).setRow w1.heap.size #[.int .i64 xop, .string xfl, .string xmd, .slice xa xn xc, .int .i64 xbk, .slice xb xm xe, .int .i64 xcd, .string xtx]) := But.setRow _ _ _
  have hsr : ((w1.alloc (.cells #[.int .i64 0, .string ⟨#[]⟩, .string ⟨#[]⟩, .slice none 0 0, .int .i64 0, .slice none 0 0, .int .i64 0, .string ⟨#[]⟩] 26)).setRow w1.heap.size #[.int .i64 xop, .string xfl, .string xmd, .slice xa xn xc, .int .i64 xbk, .slice xb xm xe, .int .i64 xcd, .string xtx]).heap[w1.heap.size]? = some (.cells #[.int .i64 xop, .string xfl, .string xmd, .slice xa xn xc, .int .i64 xbk, .slice xb xm xe, .int .i64 xcd, .string xtx] 26 (0, 0)) := setRow_heap _ _ _ _ _ _ HX1.out
  have hbl := bpush (Below.refl w1.heap.size w1) (.cells #[.int .i64 0, .string ⟨#[]⟩, .string ⟨#[]⟩, .slice none 0 0, .int .i64 0, .slice none 0 0, .int .i64 0, .string ⟨#[]⟩] 26)
  have hbb : Below w1.heap.size w1 ((w1.alloc (.cells #[.int .i64 0, .string ⟨#[]⟩, .string ⟨#[]⟩, .slice none 0 0, .int .i64 0, .slice none 0 0, .int .i64 0, .string ⟨#[]⟩] 26)).setRow w1.heap.size #[.int .i64 xop, .string xfl, .string xmd, .slice xa xn xc, .int .i64 xbk, .slice xb xm xe, .int .i64 xcd, .string xtx]) := bbut hbl hst (Nat.le_refl _)
  have HH2 := hid ((HH1.out.below hbb).cons hsr)
  have HB2 := hid (bstep HB1.out hbb)
  have z12 : w1.heap.size < ((w1.alloc (.cells #[.int .i64 0, .string ⟨#[]⟩, .string ⟨#[]⟩, .slice none 0 0, .int .i64 0, .slice none 0 0, .int .i64 0, .string ⟨#[]⟩] 26)).setRow w1.heap.size #[.int .i64 xop, .string xfl, .string xmd, .slice xa xn xc, .int .i64 xbk, .slice xb xm xe, .int .i64 xcd, .string xtx]).heap.size := heap_lt hsr
  clear hst hsr hbl hbb HH1 HB1 HX1
  generalize (w1.alloc (.cells #[.int .i64 0, .string ⟨#[]⟩, .string ⟨#[]⟩, .slice none 0 0, .int .i64 0, .slice none 0 0, .int .i64 0, .string ⟨#[]⟩] 26)).setRow w1.heap.size #[.int .i64 xop, .string xfl, .string xmd, .slice xa xn xc, .int .i64 xbk, .slice xb xm xe, .int .i64 xcd, .string xtx] = w2 at *
  generalize w1.heap.size = gx at *
  clear w1

  have cc : ∀ q, w2.cell? ⟨w.heap.size, q, none⟩ = (#[.int .i64 xop, .string xfl, .string xmd, .slice xa xn xc, .int .i64 xbk, .slice xb xm xe, .int .i64 xcd, .string xtx] : Array Value)[q]? := fun q => cell_of_heap (HH2.out.at 2 _ _ rfl) q
  have HJ : Hid (∀ v, v.heap[w2.heap.size]? = some (.cells LC 56 (0, 0)) → Below w2.heap.size w2 v → Holds (v.setCell ⟨gx, 3, none⟩ (.slice (some ⟨w2.heap.size, 0, none⟩) xn (xn + 2))) ((w2.heap.size, (.cells LC 56 (0, 0))) :: (gx, .cells #[.int .i64 xop, .string xfl, .string xmd, .slice (some ⟨w2.heap.size, 0, none⟩) xn (xn + 2), .int .i64 xbk, .slice xb xm xe, .int .i64 xcd, .string xtx] 26) :: (w.heap.size + 1, .cells #[.int .i64 yop, .string yfl, .string ymd, .slice ya yn yc, .int .i64 ybk, .slice yb ym ye, .int .i64 ycd, .string ytx] 26) :: (w.heap.size, .cells #[.int .i64 xop, .string xfl, .string xmd, .slice xa xn xc, .int .i64 xbk, .slice xb xm xe, .int .i64 xcd, .string xtx] 26) :: []) ∧ Below w.heap.size w (v.setCell ⟨gx, 3, none⟩ (.slice (some ⟨w2.heap.size, 0, none⟩) xn (xn + 2))) ∧ w2.heap.size < (v.setCell ⟨gx, 3, none⟩ (.slice (some ⟨w2.heap.size, 0, none⟩) xn (xn + 2))).heap.size) := fun v hg hb => by
    have h2 := HH2.out.below hb
    have hbt : But gx v (v.setCell ⟨gx, 3, none⟩ (.slice (some ⟨w2.heap.size, 0, none⟩) xn (xn + 2))) := But.setCell _ _ _ _
    have hlt := heap_lt hg
    have hlx := heap_lt (HH2.out.at 0 _ _ rfl)
    refine ⟨?_, bbut (bstep HB2.out hb) hbt (by omega), by simpa [World.setCell] using hlt⟩
    have hx := heap_setCell (j := 3) (v := .slice (some ⟨w2.heap.size, 0, none⟩) xn (xn + 2)) (h2.at 0 _ _ rfl)
    have hp := keptBut (h2.at 2 _ _ rfl) hbt (by omega)
    have hq := keptBut (h2.at 1 _ _ rfl) hbt (by omega)
    have hn := keptBut hg hbt (by omega)
    exact ((((Holds.nil _).cons hp).cons hq).cons hx).cons hn
  go_upto_region 6 with (first
    | (go_at_call 9; refine (L1.out _ HB2.out).mono ?_; go_loud (rintro e v ⟨rfl, H3⟩; have c3 : v.cell? ⟨gx, 3, none⟩ = some (.slice xa xn xc) := cell_of_heap ((HH2.out.below H3.out.2.1).at 0 _ _ rfl) 3; have f3 : v.frozen? ⟨gx, 3, none⟩ = false := frozen_of_heap ((HH2.out.below H3.out.2.1).at 0 _ _ rfl) 3; obtain ⟨hj1, hj2, hj3⟩ := HJ.out v H3.out.1 H3.out.2.1; have HH3 := hid hj1; have HB3 := hid hj2; have Z23 := hid hj3; clear hj1 hj2 hj3))
    | fail)
  have z23 := Z23.out
  have ygx : gx < w2.heap.size := heap_lt (HH2.out.at 0 _ _ rfl)
  clear HJ cc c3 f3 HH2 HB2 Z23
  generalize v.setCell ⟨gx, 3, none⟩ (.slice (some ⟨w2.heap.size, 0, none⟩) xn (xn + 2)) = w3 at *
  generalize w2.heap.size = gc at *
  clear H3
  have z23' : gc < w3.heap.size := heap_lt (HH3.out.at 0 _ _ rfl)
  have ygc : gx < gc := by omega
  have cc : ∀ q, w3.cell? ⟨w.heap.size, q, none⟩ = (#[.int .i64 xop, .string xfl, .string xmd, .slice xa xn xc, .int .i64 xbk, .slice xb xm xe, .int .i64 xcd, .string xtx] : Array Value)[q]? := fun q => cell_of_heap (HH3.out.at 3 _ _ rfl) q
  have HJ : Hid (∀ v, v.heap[w3.heap.size]? = some (.cells LD 5 (0, 0)) → Below w3.heap.size w3 v → Holds (v.setCell ⟨gx, 5, none⟩ (.slice (some ⟨w3.heap.size, 0, none⟩) xm (xm + 2))) ((w3.heap.size, (.cells LD 5 (0, 0))) :: (gx, .cells #[.int .i64 xop, .string xfl, .string xmd, .slice (some ⟨gc, 0, none⟩) xn (xn + 2), .int .i64 xbk, .slice (some ⟨w3.heap.size, 0, none⟩) xm (xm + 2), .int .i64 xcd, .string xtx] 26) :: (gc, .cells LC 56 (0, 0)) :: (w.heap.size + 1, .cells #[.int .i64 yop, .string yfl, .string ymd, .slice ya yn yc, .int .i64 ybk, .slice yb ym ye, .int .i64 ycd, .string ytx] 26) :: (w.heap.size, .cells #[.int .i64 xop, .string xfl, .string xmd, .slice xa xn xc, .int .i64 xbk, .slice xb xm xe, .int .i64 xcd, .string xtx] 26) :: []) ∧ Below w.heap.size w (v.setCell ⟨gx, 5, none⟩ (.slice (some ⟨w3.heap.size, 0, none⟩) xm (xm + 2))) ∧ w3.heap.size < (v.setCell ⟨gx, 5, none⟩ (.slice (some ⟨w3.heap.size, 0, none⟩) xm (xm + 2))).heap.size) := fun v hg hb => by
    have h2 := HH3.out.below hb
    have hbt : But gx v (v.setCell ⟨gx, 5, none⟩ (.slice (some ⟨w3.heap.size, 0, none⟩) xm (xm + 2))) := But.setCell _ _ _ _
    have hlt := heap_lt hg
    have hlx := heap_lt (HH3.out.at 1 _ _ rfl)
    refine ⟨?_, bbut (bstep HB3.out hb) hbt (by omega), by simpa [World.setCell] using hlt⟩
    have hx := heap_setCell (j := 5) (v := .slice (some ⟨w3.heap.size, 0, none⟩) xm (xm + 2)) (h2.at 1 _ _ rfl)
    have hp := keptBut (h2.at 3 _ _ rfl) hbt (by omega)
    have hq := keptBut (h2.at 2 _ _ rfl) hbt (by omega)
    have hn := keptBut hg hbt (by omega)
    have hc := keptBut (h2.at 0 _ _ rfl) hbt (by omega)
    exact (((((Holds.nil _).cons hp).cons hq).cons hc).cons hx).cons hn
  go_upto_region 7 with (first
    | (go_at_call 10; refine (L2'.out _ HB3.out).mono ?_; go_loud (rintro e v ⟨rfl, hv0⟩; have hv := hid hv0; clear hv0; have c3 : v.cell? ⟨gx, 5, none⟩ = some (.slice xb xm xe) := cell_of_heap ((HH3.out.below (hv.out ▸ bpush (Below.refl _ _) _)).at 1 _ _ rfl) 5; have f3 : v.frozen? ⟨gx, 5, none⟩ = false := frozen_of_heap ((HH3.out.below (hv.out ▸ bpush (Below.refl _ _) _)).at 1 _ _ rfl) 5; obtain ⟨hj1, hj2, hj3⟩ := HJ.out v (hv.out ▸ heap_new w3 _) (hv.out ▸ bpush (Below.refl _ _) _); have HH4 := hid hj1; have HB4 := hid hj2; have Z34 := hid hj3; clear hj1 hj2 hj3))
    | fail)
  have z34 := Z34.out
  have ygx : gx < w3.heap.size := heap_lt (HH3.out.at 1 _ _ rfl)
  clear HJ cc c3 f3 HH3 HB3 Z34
  generalize v.setCell ⟨gx, 5, none⟩ (.slice (some ⟨w3.heap.size, 0, none⟩) xm (xm + 2)) = w4 at *
  generalize w3.heap.size = gd at *
  have z34' : gd < w4.heap.size := heap_lt (HH4.out.at 0 _ _ rfl)
  have ygd : gc < gd := by omega
  have cc0 : ∀ q, w4.cell? ⟨gx, q, none⟩ = (#[.int .i64 xop, .string xfl, .string xmd, .slice (some ⟨gc, 0, none⟩) xn (xn + 2), .int .i64 xbk, .slice (some ⟨gd, 0, none⟩) xm (xm + 2), .int .i64 xcd, .string xtx] : Array Value)[q]? := fun q => cell_of_heap (HH4.out.at 1 _ _ rfl) q
  go_wp2_with fail
  clear cc0
  refine (E1.out gc gd _ HB4.out (HH4.out.at 2 _ _ rfl) (HH4.out.at 0 _ _ rfl)).mono ?_
  rintro e w5 ⟨a1, n1, c1, rfl, an⟩
  have HH5 := hid (HH4.out.below an.out.2.2)
  have HB5 := hid (bstep HB4.out an.out.2.2)
  have HR1_5 := hid an.out.1
  have HI1 := hid (ans_lt an.out)
  have z45 : w4.heap.size ≤ w5.heap.size := an.out.2.2.size
  clear an HH4 HB4
  have cc0 : ∀ q, w5.cell? ⟨w.heap.size + 1, q, none⟩ = (#[.int .i64 yop, .string yfl, .string ymd, .slice ya yn yc, .int .i64 ybk, .slice yb ym ye, .int .i64 ycd, .string ytx] : Array Value)[q]? := fun q => cell_of_heap (HH5.out.at 3 _ _ rfl) q
  go_wp2_with fail
  clear cc0
  refine (E2.out _ HB5.out).mono ?_
  rintro e w6 ⟨a2, n2, c2, rfl, an⟩
  have HH6 := hid (HH5.out.below an.out.2.2)
  have HB6 := hid (bstep HB5.out an.out.2.2)
  have HR1_6 := hid (HR1_5.out.below an.out.2.2)
  have HR2_6 := hid an.out.1
  have HI2 := hid (ans_lt an.out)
  have z56 : w5.heap.size ≤ w6.heap.size := an.out.2.2.size
  clear an HH5 HB5 HR1_5
  have cc0 : ∀ q, w6.cell? ⟨gx, q, none⟩ = (#[.int .i64 xop, .string xfl, .string xmd, .slice (some ⟨gc, 0, none⟩) xn (xn + 2), .int .i64 xbk, .slice (some ⟨gd, 0, none⟩) xm (xm + 2), .int .i64 xcd, .string xtx] : Array Value)[q]? := fun q => cell_of_heap (HH6.out.at 1 _ _ rfl) q
  go_wp2_with fail
  clear cc0
  refine (E1.out gc gd _ HB6.out (HH6.out.at 2 _ _ rfl) (HH6.out.at 0 _ _ rfl)).mono ?_
  rintro e w7 ⟨a3, n3, c3, rfl, an⟩
  have HH7 := hid (HH6.out.below an.out.2.2)
  have HB7 := hid (bstep HB6.out an.out.2.2)
  have HR1_7 := hid (HR1_6.out.below an.out.2.2)
  have HR2_7 := hid (HR2_6.out.below an.out.2.2)
  have HR3_7 := hid an.out.1
  have HI3 := hid (ans_lt an.out)
  have z67 : w6.heap.size ≤ w7.heap.size := an.out.2.2.size
  clear an HH6 HB6 HR1_6 HR2_6
  have cc0 : ∀ q, w7.cell? ⟨gx, q, none⟩ = (#[.int .i64 xop, .string xfl, .string xmd, .slice (some ⟨gc, 0, none⟩) xn (xn + 2), .int .i64 xbk, .slice (some ⟨gd, 0, none⟩) xm (xm + 2), .int .i64 xcd, .string xtx] : Array Value)[q]? := fun q => cell_of_heap (HH7.out.at 1 _ _ rfl) q
  have cc1 : ∀ q, w7.cell? ⟨w.heap.size, q, none⟩ = (#[.int .i64 xop, .string xfl, .string xmd, .slice xa xn xc, .int .i64 xbk, .slice xb xm xe, .int .i64 xcd, .string xtx] : Array Value)[q]? := fun q => cell_of_heap (HH7.out.at 4 _ _ rfl) q
  go_wp2_with fail
  clear cc0 cc1
  refine (K1.out gc _ HB7.out (HH7.out.at 2 _ _ rfl)).mono ?_
  rintro e w8 ⟨rfl, bt⟩
  have HH8 := hid (((((Holds.nil _).cons (keptBut (HH7.out.at 4 _ _ rfl) bt.out (by omega))).cons (keptBut (HH7.out.at 3 _ _ rfl) bt.out (by omega))).cons (keptBut (HH7.out.at 1 _ _ rfl) bt.out (by omega))).cons (keptBut (HH7.out.at 0 _ _ rfl) bt.out (by omega)))
  have HB8 := hid (bbut HB7.out bt.out (by omega))
  have HR1_8 := hid (HR1_7.out.but bt.out (fun b hb => by have := HI1.out b hb; omega))
  have HR2_8 := hid (HR2_7.out.but bt.out (fun b hb => by have := HI2.out b hb; omega))
  have HR3_8 := hid (HR3_7.out.but bt.out (fun b hb => by have := HI3.out b hb; omega))
  have z78 : w7.heap.size ≤ w8.heap.size := bt.out.size
  clear HH7 HB7 HR1_7 HR2_7 HR3_7
  have cc0 : ∀ q, w8.cell? ⟨gx, q, none⟩ = (#[.int .i64 xop, .string xfl, .string xmd, .slice (some ⟨gc, 0, none⟩) xn (xn + 2), .int .i64 xbk, .slice (some ⟨gd, 0, none⟩) xm (xm + 2), .int .i64 xcd, .string xtx] : Array Value)[q]? := fun q => cell_of_heap (HH8.out.at 1 _ _ rfl) q
  have cc1 : ∀ q, w8.cell? ⟨w.heap.size, q, none⟩ = (#[.int .i64 xop, .string xfl, .string xmd, .slice xa xn xc, .int .i64 xbk, .slice xb xm xe, .int .i64 xcd, .string xtx] : Array Value)[q]? := fun q => cell_of_heap (HH8.out.at 3 _ _ rfl) q
  go_wp2_with fail
  clear cc0 cc1
  refine (S1.out gd _ HB8.out (HH8.out.at 0 _ _ rfl)).mono ?_
  rintro e w9 ⟨rfl, bt⟩
  have HH9 := hid ((((Holds.nil _).cons (keptBut (HH8.out.at 3 _ _ rfl) bt (by omega))).cons (keptBut (HH8.out.at 2 _ _ rfl) bt (by omega))).cons (keptBut (HH8.out.at 1 _ _ rfl) bt (by omega)))
  have HB9 := hid (bbut HB8.out bt (by omega))
  have HR1_9 := hid (HR1_8.out.but bt (fun b hb => by have := HI1.out b hb; omega))
  have HR2_9 := hid (HR2_8.out.but bt (fun b hb => by have := HI2.out b hb; omega))
  have HR3_9 := hid (HR3_8.out.but bt (fun b hb => by have := HI3.out b hb; omega))
  have z89 : w8.heap.size ≤ w9.heap.size := bt.size
  clear HH8 HB8 HR1_8 HR2_8 HR3_8
  have cc0 : ∀ q, w9.cell? ⟨w.heap.size, q, none⟩ = (#[.int .i64 xop, .string xfl, .string xmd, .slice xa xn xc, .int .i64 xbk, .slice xb xm xe, .int .i64 xcd, .string xtx] : Array Value)[q]? := fun q => cell_of_heap (HH9.out.at 2 _ _ rfl) q
  go_wp2_with fail
  clear cc0
  refine (R1.out _ HB9.out).mono ?_
  rintro e w10 ⟨a4, n4, c4, rfl, an⟩
  have HH10 := hid (HH9.out.below an.out.2.2)
  have HB10 := hid (bstep HB9.out an.out.2.2)
  have HR1_10 := hid (HR1_9.out.below an.out.2.2)
  have HR2_10 := hid (HR2_9.out.below an.out.2.2)
  have HR3_10 := hid (HR3_9.out.below an.out.2.2)
  have HR4_10 := hid an.out.1
  have HI4 := hid (ans_lt an.out)
  have z910 : w9.heap.size ≤ w10.heap.size := an.out.2.2.size
  clear an HH9 HB9 HR1_9 HR2_9 HR3_9
  have cc0 : ∀ q, w10.cell? ⟨w.heap.size + 1, q, none⟩ = (#[.int .i64 yop, .string yfl, .string ymd, .slice ya yn yc, .int .i64 ybk, .slice yb ym ye, .int .i64 ycd, .string ytx] : Array Value)[q]? := fun q => cell_of_heap (HH10.out.at 1 _ _ rfl) q
  go_wp2_with fail
  clear cc0
  refine (R2.out _ HB10.out).mono ?_
  rintro e w11 ⟨a5, n5, c5, rfl, an⟩
  have HH11 := hid (HH10.out.below an.out.2.2)
  have HB11 := hid (bstep HB10.out an.out.2.2)
  have HR1_11 := hid (HR1_10.out.below an.out.2.2)
  have HR2_11 := hid (HR2_10.out.below an.out.2.2)
  have HR3_11 := hid (HR3_10.out.below an.out.2.2)
  have HR4_11 := hid (HR4_10.out.below an.out.2.2)
  have HR5_11 := hid an.out.1
  have HI5 := hid (ans_lt an.out)
  have z1011 : w10.heap.size ≤ w11.heap.size := an.out.2.2.size
  clear an HH10 HB10 HR1_10 HR2_10 HR3_10 HR4_10
  have v1 := HR1_11.out.conv0 D1.out.1
  have v2 := HR2_11.out.conv0 D2.out.1
  have v3 := HR3_11.out.conv0 D1.out.1
  have v4 := HR4_11.out.conv0 D1.out.1
  have v5 := HR5_11.out.conv0 D2.out.1
  have st1 := str_same (strOfNums Y1)
  have st2 := str_same (strOfNums Y2)
  generalize strOfNums Y1 = X1 at *
  generalize strOfNums Y2 = X2 at *
  have hE : (E != E) = false := by simp
  have hF : (F != F) = false := by simp
  go_wp2_with fail
  clear v1 v2 v3 v4 v5
  have hbk : w.heap.size ≤ w11.heap.size := HB11.out.size
  have ra := bpush (Below.refl w11.heap.size w11) (.cells #[.slice none 0 0, .slice none 0 0] 38)
  have HBk := hid (bpush HB11.out (.cells #[.slice none 0 0, .slice none 0 0] 38))
  have HR1k := hid (HR1_11.out.below ra)
  have HR2k := hid (HR2_11.out.below ra)
  have HR3k := hid (HR3_11.out.below ra)
  refine (take_late w11.heap.size _ _ (.slice a1 n1 c1) [] Y1 w.heap.size _ (Late.new w11 w.heap.size hbk) HR1k.out D1.out.1 (by have := D1.out.2; omega) (by simp) (fun b hb => ⟨by have := HI1.out b hb; omega, by have := HI1.out b hb; omega, by simp⟩)).mono ?_
  rintro e wb ⟨rfl, Lb, Vb, lb, kb, bb⟩
  have HLb := hid lb
  have HBb := hid (HBk.out.trans bb)
  have HR2b := hid (HR2k.out.low kb (fun b hb => by have := HI2.out b hb; omega))
  have HR3b := hid (HR3k.out.low kb (fun b hb => by have := HI3.out b hb; omega))
  clear lb bb kb ra HR1k HR2k HR3k HBk
  generalize w11.heap.size = gk at *
  go_wp2_with fail
  refine (take_late gk Lb Vb (.slice a2 n2 c2) _ Y2 w.heap.size wb HLb.out HR2b.out D2.out.1 (by have := D2.out.2; omega) (by simp) (fun b hb => ⟨by have := HI2.out b hb; omega, by have := HI2.out b hb; omega, fun p hp e => by
    simp at hp
    subst hp
    have h1 := HI2.out b hb
    have h2 := HI1.out b e
    omega⟩)).mono ?_
  rintro e wd ⟨rfl, Ld, Vd, ld, kd, bd⟩
  have HLd := hid ld
  have HBd := hid (HBb.out.trans bd)
  have HR3d := hid (HR3b.out.low kd (fun b hb => by have := HI3.out b hb; omega))
  clear ld bd kd HR2b HR3b HBb HLb
  go_wp2_with fail
  refine (take_late gk Ld Vd (.slice a3 n3 c3) _ Y1 w.heap.size wd HLd.out HR3d.out D1.out.1 (by have := D1.out.2; omega) (by simp) (fun b hb => ⟨by have := HI3.out b hb; omega, by have := HI3.out b hb; omega, fun p hp e => by
    have h1 := HI3.out b hb
    simp at hp
    rcases hp with hp | hp
    · subst hp
      have h2 := HI1.out b e
      omega
    · subst hp
      have h2 := HI2.out b e
      omega⟩)).mono ?_
  rintro e we ⟨rfl, Le, Ve, le, ke, be⟩
  have HLe := hid le
  have HBe := hid (HBd.out.trans be)
  clear le be ke HR3d HBd HLd
  go_wp2_with fail
  refine (owned_late gk Le Ve _ w.heap.size we HLe.out).mono ?_
  rintro e wf ⟨rfl, bf, _⟩
  have HBf := hid (HBe.out.trans bf)
  clear bf HBe HLe
  go_wp2
  go_ret
  exact ⟨rfl, HBf.out⟩
end Go.Proofs.YtdcppiknomoigaaDoor
