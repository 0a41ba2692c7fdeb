/-
  Lease: the chapter's first examples: the walk.
-/
import Derived.Test.YtgcpoanjjgbfjaaLzJk
namespace Go.Proofs.Ytgcpoanjjgbfjaa
open Go.RowKit
set_option linter.all false

theorem partU_six (w : World) : PartU (w.alloc (.cells #[.int .u32 7, .int .u32 0, .int .u32 0, .int .u32 9, .int .u32 9, .int .u32 9] 30)) (some ⟨w.heap.size, 0, none⟩) 6 [7, 0, 0, 9, 9, 9] := by
  refine ⟨fun z hz => ?_, by simp, Or.inr ⟨_, 0, rfl, fun j hj => ?_⟩⟩
  · simp only [List.mem_cons, List.not_mem_nil, or_false] at hz
    rcases hz with rfl | rfl | rfl | rfl | rfl | rfl <;> simp
  · rw [Nat.zero_add, cell_of_heap (heap_new w _)]
    match j, hj with
    | 0, _ => rfl
    | 1, _ => rfl
    | 2, _ => rfl
    | 3, _ => rfl
    | 4, _ => rfl
    | 5, _ => rfl
    | k + 6, hj => exact absurd hj (by show ¬ (k + 6 < 6); omega)
theorem aw_made {wA w1 w2 : World} {p pd : Nat} {ad : Option Addr} {cd : Nat} (H1 : BoxC w1 p (Cl.new own0) ∧ wA.heap.size ≤ p ∧ Below wA.heap.size wA w1) (H2 : MadeI 56 (w1.alloc (.cells #[.int .u32 7, .int .u32 0, .int .u32 0, .int .u32 9, .int .u32 9, .int .u32 9] 30)) w2 pd ad cd [7, 0, 0, 9, 9, 9]) :
    CD w2 p pd (blk ad) z0.c z0.zs ∧ Below wA.heap.size wA w2 := by
  have hb : Below w1.heap.size w1 (w1.alloc (.cells #[.int .u32 7, .int .u32 0, .int .u32 0, .int .u32 9, .int .u32 9, .int .u32 9] 30)) := bpush (Below.refl _ _) _
  have hb2 := bstep hb H2.bel
  exact ⟨⟨kept H1.1 hb2, ⟨ad, cd, H2.dice, rfl⟩, ⟨Cl.new_ok own0_ok, H2.dice.words, by decide⟩⟩, bstep H1.2.2 hb2⟩
theorem aw_next0 (w : World) (p : Nat) (h : BoxC w p z0.c) : Calls Try.prog 7 #[.pointer (some ⟨p, 0, none⟩)] w fun e w' => e = .returned (.tuple #[.int .i64 0, .bool false]) ∧ w' = w := lnext_any w h
theorem aw_next1 (w : World) (p : Nat) (h : BoxC w p k1.c) : Calls Try.prog 7 #[.pointer (some ⟨p, 0, none⟩)] w fun e w' => e = .returned (.tuple #[.int .i64 1030, .bool true]) ∧ w' = w := by
  have := lnext_any w h
  rw [k1_due] at this
  exact this
set_option maxRecDepth 20000 in
set_option maxHeartbeats 8000000 in
theorem awake_any (w : World) : Calls Try.prog 4 #[] w fun e w' => e = .returned (.bool true) ∧ Hid (Below w.heap.size w w') := by
  obtain ⟨wA, hwA⟩ : ∃ W, W = w.alloc (.cells #[.int .u8 2, .int .u8 0, .int .u8 0, .int .u8 0, .int .u8 0, .int .u8 1] 25) := ⟨_, rfl⟩
  obtain ⟨gm, hgm⟩ : ∃ g, g = w.heap.size := ⟨_, rfl⟩
  have HA : Hid (wA.heap[gm]? = some (.cells #[.int .u8 2, .int .u8 0, .int .u8 0, .int .u8 0, .int .u8 0, .int .u8 1] 25 (0, 0))) := by rw [hwA, hgm]; exact heap_new _ _
  have HAb : Hid (Below w.heap.size w wA) := by rw [hwA]; exact bpush (Below.refl _ _) _
  go_enter Try.func4, Try.ntmps4
  go_upto_region 2 with (fail)
  rw [← hwA, ← hgm]
  clear hwA hgm
  go_upto_region 13 with (first
    | (refine wpList_load_row rfl 25 _ rfl gm rfl 25 _ (0, 0) _ HA.out Try.underlying25 rfl (by kernel_rfl) ?_)
    | (go_at_call 5; refine (lnew_any own0 _).mono ?_; rintro e w1 ⟨p, rfl, H1⟩)
    | (go_at_call 6; refine (new_any (some ⟨w1.heap.size, 0, none⟩) 6 [7, 0, 0, 9, 9, 9] _ (partU_six w1) (by decide)).mono ?_; rintro e w2 ⟨pd, ad, cd, rfl, H2⟩; have HC2 := hid (aw_made H1.out H2.out).1; have HB2 := hid (aw_made H1.out H2.out).2)
    | (go_at_call 8; refine (aw_start _ p pd (blk ad) HC2.out).mono ?_; rintro e w3 ⟨a1, c1, rfl, H3⟩)
    | (go_at_call 7; refine (aw_next1 _ p H3.out.cd.box).mono ?_; rintro e wx ⟨rfl, rfl⟩)
    | (go_at_call 7; refine (aw_next0 _ p HC2.out.box).mono ?_; rintro e wx ⟨rfl, rfl⟩)
    | (go_at_call 9; refine (aw_tick _ p pd (blk ad) k2 1030 1 (by kernel_rfl) H4.out.cd).mono ?_; rintro e w5 ⟨a3, c3, rfl, H5⟩)
    | (go_at_call 9; refine (aw_tick _ p pd (blk ad) k1 1029 0 k2_acts H3.out.cd).mono ?_; rintro e w4 ⟨a2, c2, rfl, H4⟩)
    | fail)
  have hgp : gm ≠ p := by have := heap_lt HA.out; have := H1.out.2.1; omega
  have hgd : gm ≠ pd := by
    have h1 := heap_lt HA.out
    have h2 := H1.out.2.2.size
    have h3 := H2.out.new pd (Or.inl rfl)
    rw [World.size_alloc] at h3
    omega
  have HM5 : Hid (w5.heap[gm]? = some (.cells #[.int .u8 2, .int .u8 0, .int .u8 0, .int .u8 0, .int .u8 0, .int .u8 1] 25 (0, 0))) := only_at (only_at (only_at (kept HA.out HB2.out) hgp hgd H3.out.only) hgp hgd H4.out.only) hgp hgd H5.out.only
  clear hgp hgd
  go_upto_region 14 with (first
    | (refine wpList_load_row rfl 25 _ rfl gm rfl 25 _ (0, 0) _ HM5.out Try.underlying25 rfl (by kernel_rfl) ?_)
    | fail)
  have HPD : Hid (p < w5.heap.size ∧ pd < w5.heap.size) := ⟨heap_lt H5.out.cd.box, H5.out.cd.ldp⟩
  obtain ⟨wM, hwM⟩ : ∃ W, W = ((((((w5.alloc (.cells #[.int .u8 2] 5)).alloc (.cells #[.int .u8 10, .int .u8 0, .int .u8 0, .int .u8 1] 5)).alloc (.cells #[.int .u8 0, .int .u8 0, .int .u8 0, .int .u8 100] 5)).alloc (.cells #[.int .u8 255, .int .u8 255, .int .u8 255, .int .u8 0] 5)).alloc (.cells #[.int .i64 53, .slice (some ⟨w5.heap.size, 0, none⟩) 1 1, .int .i64 54, .slice (some ⟨w5.heap.size + 1, 0, none⟩) 4 4, .int .i64 51, .slice (some ⟨w5.heap.size + 1 + 1, 0, none⟩) 4 4, .int .i64 1, .slice (some ⟨w5.heap.size + 1 + 1 + 1, 0, none⟩) 4 4] 38)).alloc (.cells #[.int .i64 2, .int .i64 0, .int .u32 7, .int .i64 0, .bool false, .int .u32 0, .int .u32 167772165, .int .u32 0, .int .u32 0, .int .u8 2, .int .u8 0, .int .u8 0, .int .u8 0, .int .u8 0, .int .u8 1, .string ⟨#[]⟩, .string ⟨#[]⟩, .slice (some ⟨w5.heap.size + 1 + 1 + 1 + 1, 0, none⟩) 4 4] 41)) := ⟨_, rfl⟩
  have hl := aw_laid w5 wM hwM
  obtain ⟨o1, ho1⟩ : ∃ g, g = w5.heap.size := ⟨_, rfl⟩
  obtain ⟨o2, ho2⟩ : ∃ g, g = w5.heap.size + 1 := ⟨_, rfl⟩
  obtain ⟨o3, ho3⟩ : ∃ g, g = w5.heap.size + 1 + 1 := ⟨_, rfl⟩
  obtain ⟨o4, ho4⟩ : ∃ g, g = w5.heap.size + 1 + 1 + 1 := ⟨_, rfl⟩
  obtain ⟨g, hg⟩ : ∃ g, g = w5.heap.size + 1 + 1 + 1 + 1 := ⟨_, rfl⟩
  obtain ⟨mb, hmb⟩ : ∃ g, g = w5.heap.size + 1 + 1 + 1 + 1 + 1 := ⟨_, rfl⟩
  have HMI : Hid (MsgI w5 wM 2 g o1 o2 o3 o4 mb) := by rw [hmb, hg, ho4, ho3, ho2, ho1]; exact hid hl.1
  have HBM := hid hl.2
  rw [← hwM]
  rw [← hmb, ← hg, ← ho4, ← ho3, ← ho2, ← ho1]
  clear hwM hmb hg ho4 ho3 ho2 ho1 hl
  have HC5 := hid (H5.out.cd.below HBM.out)
  go_upto_region 15 with (first
    | (refine wpList_load_row rfl 41 _ rfl mb rfl 41 #[.int .i64 2, .int .i64 0, .int .u32 7, .int .i64 0, .bool false, .int .u32 0, .int .u32 167772165, .int .u32 0, .int .u32 0, .int .u8 2, .int .u8 0, .int .u8 0, .int .u8 0, .int .u8 0, .int .u8 1, .string noText, .string noText, .slice (some ⟨g, 0, none⟩) 4 4] (0, 0) _ (by exact HMI.out.box) Try.underlying41 rfl sizeBp ?_)
    | (go_at_call 10; refine (aw_on4 w5 _ p pd (blk ad) g o1 o2 o3 o4 mb HC5.out HMI.out HPD.out.1 HPD.out.2).mono ?_; rintro e w6 ⟨a4, c4, rfl, H6⟩)
    | fail)
  have HMI6 := hid (HMI.out.only HPD.out.1 HPD.out.2 H6.out.only)
  have HS6 : Hid (w5.heap.size ≤ w6.heap.size) := Nat.le_trans HBM.out.size H6.out.only.size
  have cm : w6.cell? ⟨mb, 17, none⟩ = some (.slice (some ⟨g, 0, none⟩) 4 4) := (cell_of_heap HMI6.out.box 17).trans rfl
  have cg : (w6.alloc (.cells #[.int .u8 5] 5)).cell? ⟨g, 1, none⟩ = some (.slice (some ⟨o1, 0, none⟩) 1 1) := (cell_of_heap (kept HMI6.out.opts.row (bpush (Below.refl _ _) _)) 1).trans rfl
  have fg : (w6.alloc (.cells #[.int .u8 5] 5)).frozen? ⟨g, 1, none⟩ = false := frozen_of_heap (kept HMI6.out.opts.row (bpush (Below.refl _ _) _)) 1
  have cg6 : w6.cell? ⟨g, 1, none⟩ = some (.slice (some ⟨o1, 0, none⟩) 1 1) := (cell_of_heap HMI6.out.opts.row 1).trans rfl
  have fg6 : w6.frozen? ⟨g, 1, none⟩ = false := frozen_of_heap HMI6.out.opts.row 1
  have hne : g ≠ w6.heap.size := by have := heap_lt HMI6.out.opts.row; omega
  go_upto_region 16 with (fail)
  obtain ⟨wS, hwS⟩ : ∃ W, W = (w6.alloc (.cells #[.int .u8 5] 5)).setCell ⟨g, 1, none⟩ (.slice (some ⟨w6.heap.size, 0, none⟩) 1 1) := ⟨_, rfl⟩
  have HT := hid (aw_turned HMI6.out HS6.out hwS)
  rw [← hwS]
  clear hwS cm cg fg cg6 fg6 hne
  have HMS := hid HT.out.1
  have HCS := hid ((H6.out.cd.below HT.out.2.1).but HT.out.2.2 (by have h1 := HMS.out.hg; have h2 := HPD.out; omega) (by have h1 := HMS.out.hg; have h2 := HPD.out; omega) (fun b hb => by have h1 := HMS.out.hg; have h2 := H5.out.cd.lab b hb; omega))
  go_upto_region 21 with (first
    | (refine wpList_load_row rfl 41 _ rfl mb rfl 41 #[.int .i64 2, .int .i64 0, .int .u32 7, .int .i64 0, .bool false, .int .u32 0, .int .u32 167772165, .int .u32 0, .int .u32 0, .int .u8 2, .int .u8 0, .int .u8 0, .int .u8 0, .int .u8 0, .int .u8 1, .string noText, .string noText, .slice (some ⟨g, 0, none⟩) 4 4] (0, 0) _ (by exact HMS.out.box) Try.underlying41 rfl sizeBp ?_)
    | (go_at_call 10; refine (aw_on5 w5 _ p pd (blk ad) g _ o2 o3 o4 mb HCS.out HMS.out HPD.out.1 HPD.out.2).mono ?_; rintro e w7 ⟨a5, c5, rfl, H7⟩)
    | (go_at_call 9; refine (aw_tick7 _ p pd (blk ad) (H8.out.cd.below (bpush H9.out _))).mono ?_; rintro e w10 ⟨a7, c7, rfl, H10⟩)
    | (go_at_call 9; refine (aw_tick6 _ p pd (blk ad) H7.out.cd).mono ?_; rintro e w8 ⟨a6, c6, rfl, H8⟩)
    | (go_at_call 11; refine (aw_held _ p H8.out.cd.box).mono ?_; rintro e w9 ⟨l, rfl, H9⟩)
    | (go_at_call 12; refine (aw_state _ p H10.out.cd.box).mono ?_; rintro e w11 ⟨l2, tr, rfl, H11⟩)
    | fail)
  obtain ⟨wF, hwF⟩ : ∃ W, W = w11.alloc (.cells #[.int .i64 5, .int .u32 9, .int .u32 l2.ip, .int .u32 l2.m, .int .u32 l2.r, .int .u32 l2.sv, .int .u32 l2.nx, .string l2.file, .int .i64 l2.frm, .int .i64 l2.t1, .int .i64 l2.t2, .int .i64 l2.un, .int .i64 tr, .int .i64 1915] 48) := ⟨_, rfl⟩
  have OF0 : Only (fun k => k = p ∨ k = pd) w10 wF := by rw [hwF]; exact Only.of_below (bpush H11.out _)
  have OF1 : Only (fun k => k = p ∨ k = pd) w8 wF := (Only.of_below (bpush H9.out (.cells #[.int .u32 l.ip, .int .u32 l.m, .int .u32 l.r, .int .u32 l.sv, .int .u32 l.nx, .string l.file, .int .i64 l.frm, .int .i64 1540, .int .i64 l.t2, .int .i64 l.un] 44))).trans (H10.out.only.trans OF0)
  have OF2 : Only (fun k => k = p ∨ k = pd) w7 wF := H8.out.only.trans OF1
  have OFS : Only (fun k => k = p ∨ k = pd) wS wF := H7.out.only.trans OF2
  have hgM := heap_lt HMI.out.opts.row
  have hg5 := HMI.out.hg
  have hs4 := H4.out.only.size
  have hs5 := H5.out.only.size
  have O6 := H6.out.only.trans (Only.of_below (K := fun k => k = p ∨ k = pd) HT.out.2.1)
  have R1 := (((((H3.out.row.only H4.out.only).only H5.out.only).only (Only.of_below HBM.out)).only O6).but HT.out.2.2 (Or.inr (by omega))).only OFS
  have R3 := (((H5.out.row.only (Only.of_below HBM.out)).only O6).but HT.out.2.2 (Or.inr hg5)).only OFS
  have R4 := ((H6.out.row.only (Only.of_below HT.out.2.1)).but HT.out.2.2 (Or.inl hgM)).only OFS
  have R5 := H7.out.row.only OF2
  have R6 := H8.out.row.only OF1
  have R7 := H10.out.row.only OF0
  obtain ⟨g1, rfl, v10, v12, v15⟩ := row_1 R1
  obtain ⟨g3, rfl, v36⟩ := row_3 R3
  obtain ⟨g4, rfl, v46⟩ := row_4 R4
  obtain ⟨g5, rfl, v50⟩ := row_5 R5
  obtain ⟨g6, rfl, v60, v630⟩ := row_6 R6
  obtain ⟨g7, rfl, v71, v72⟩ := row_7 R7
  obtain ⟨sb, hsb⟩ : ∃ g, g = w11.heap.size := ⟨_, rfl⟩
  obtain ⟨lb, hlb⟩ : ∃ g, g = w9.heap.size := ⟨_, rfl⟩
  have hF : wF.heap[sb]? = some (.cells #[.int .i64 5, .int .u32 9, .int .u32 l2.ip, .int .u32 l2.m, .int .u32 l2.r, .int .u32 l2.sv, .int .u32 l2.nx, .string l2.file, .int .i64 l2.frm, .int .i64 l2.t1, .int .i64 l2.t2, .int .i64 l2.un, .int .i64 tr, .int .i64 1915] 48 (0, 0)) := by rw [hwF, hsb]; exact heap_new _ _
  have v80 : wF.cell? ⟨sb, 0, none⟩ = some (.int .i64 5) := (cell_of_heap hF 0).trans rfl
  have v81 : wF.cell? ⟨sb, 1, none⟩ = some (.int .u32 9) := (cell_of_heap hF 1).trans rfl
  have v813 : wF.cell? ⟨sb, 13, none⟩ = some (.int .i64 1915) := (cell_of_heap hF 13).trans rfl
  have hp8 := heap_lt H8.out.cd.box
  have hd8 := H8.out.cd.ldp
  have hs9 := H9.out.size
  have hL : wF.heap[lb]? = some (.cells #[.int .u32 l.ip, .int .u32 l.m, .int .u32 l.r, .int .u32 l.sv, .int .u32 l.nx, .string l.file, .int .i64 l.frm, .int .i64 1540, .int .i64 l.t2, .int .i64 l.un] 44 (0, 0)) := only_at (only_at (by rw [hlb]; exact heap_new w9 _) (by omega) (by omega) H10.out.only) (by omega) (by omega) OF0
  have v97 : wF.cell? ⟨lb, 7, none⟩ = some (.int .i64 1540) := (cell_of_heap hL 7).trans rfl
  have HBF : Hid (Below w.heap.size w wF) := by
    have b2 := bstep HAb.out HB2.out
    have hA := HAb.out.size
    have hp := H1.out.2.1
    have hd := H2.out.new pd (Or.inl rfl)
    rw [World.size_alloc] at hd
    have h1 := H1.out.2.2.size
    have hk : ∀ k, (k = p ∨ k = pd) → w.heap.size ≤ k := fun k hk => by rcases hk with rfl | rfl <;> omega
    have b5 := b2.trans ((H3.out.only.trans (H4.out.only.trans H5.out.only)).below hk b2.size)
    have bM := bstep b5 HBM.out
    have b6 := bM.trans (O6.below hk bM.size)
    have bS := bbut b6 HT.out.2.2 (Nat.le_trans b5.size hg5)
    exact bS.trans (OFS.below hk bS.size)
  rw [← hwF]
  rw [← hsb, ← hlb]
  clear hwF hsb hlb hF hL OF0 OF1 OF2 OFS hgM hg5 hs4 hs5 O6 R1 R3 R4 R5 R6 R7 hp8 hd8 hs9 HT HMI HMI6 HMS HCS HC5 HBM H3 H4 H5 H6 H7 H8 H9 H10 H11
  go_wp2
  go_ret
  exact ⟨rfl, HBF.out⟩
end Go.Proofs.Ytgcpoanjjgbfjaa
