/-
  The walk of the statement TftpAgrees.
-/
import Derived.Test.YtdcppiknomoigaaDoorTgDeM
namespace Go.Proofs.YtdcppiknomoigaaDoor
open Go.RowKit
set_option linter.all false

/-- a list of choices that came out, in blocks from lo to hi. -/
structure ChK (lo hi : Nat) (W : World) (a : Option Addr) (n c : Nat) (l : List Ch) : Prop where
  len : n = l.length
  row : RowC W (.slice a n c) l
  own : ∀ b, (Value.slice a n c).ownBlock = some b → lo ≤ b ∧ b < hi
theorem ChK.of {w W : World} {a : Option Addr} {n c : Nat} {l : List Ch} (h : RowB 56 2 w W a n c (chs l)) : ChK w.heap.size W.heap.size W a n c l := by
  have hn := h.chv.1
  subst hn
  exact ⟨rfl, h.row, fun b hb => ⟨h.new b hb, RowS.lt h.row hb⟩⟩
section
variable {lo hi : Nat} {W W' : World} {a : Option Addr} {n c : Nat} {l : List Ch}
theorem ChK.below (h : ChK lo hi W a n c l) (hb : Below W.heap.size W W') : ChK lo hi W' a n c l := ⟨h.len, RowS.below h.row hb, h.own⟩
theorem ChK.but {g : Nat} (h : ChK lo hi W a n c l) (hb : But g W W') (hg : g < lo ∨ hi ≤ g) : ChK lo hi W' a n c l :=
  ⟨h.len, RowS.keep h.row fun b hb' => hb.block b (by have := h.own b hb'; omega) (RowS.lt h.row hb'), h.own⟩
theorem ChK.chv (h : ChK lo hi W a n c l) : ChV W a l := (RowC.chv h.row).2
end
set_option maxRecDepth 20000 in
set_option maxHeartbeats 16000000 in
theorem tftpAgrees_walk (l : List Ch) (a : Option Addr) (c : Nat) (m : List Ch) (b : Option Addr) (d : Nat) (ob ow os om : Int) (on : ByteArray) (w : World) (hE : Env w) (hlc : l.length ≤ c) (hl : ChV w a l) (hln : l.length ≤ 5864062014700) (hmc : m.length ≤ d) (hm : ChV w b m) (hmn : m.length ≤ 5864062014700) :
    Calls Tryd.prog 6 #[.slice a l.length c, .slice b m.length d, .agg #[.int .i64 ob, .int .i64 ow, .int .i64 os, .int .i64 om, .string on]] w fun e w' => e = .returned (.bool true) ∧ Below w.heap.size w w' := by
  have LV : Hid (∀ w', Below w.heap.size w w' → Calls Tryd.prog 8 #[] w' fun e w'' => e = .returned (.bool true) ∧ Hid (Below w'.heap.size w' w'')) := fun w' hb => live_any w' (hE.below hb)
  have L1 : Hid (∀ w', Below w.heap.size w w' → _) := fun w' hb => clent_any l a l.length c w' (hl.below hb) rfl hln
  have L2 : Hid (∀ w', Below w.heap.size w w' → _) := fun w' hb => clent_any m b m.length d w' (hm.below hb) rfl hmn
  have W1 : Hid (∀ (g : Nat) (w' : World), w'.heap[g]? = some (.cells (lentC l) 56 (0, 0)) → _) := fun g w' h1 => pwant_any l (some ⟨g, 0, none⟩) l.length (l.length + 2) on w' (lentC_chv h1) rfl (by omega)
  have A1 : Hid (∀ (g : Nat) (w' : World), w'.heap[g]? = some (.cells (lentC l) 56 (0, 0)) → _) := fun g w' h1 => pagree_any l (some ⟨g, 0, none⟩) l.length (l.length + 2) ob ow os w' (lentC_chv h1) rfl hln
  have C1 : Hid (∀ (g h : Nat) (w' : World), w'.heap[g]? = some (.cells (lentC l) 56 (0, 0)) → w'.heap[h]? = some (.cells (lentC m) 56 (0, 0)) → _) := fun g h w' h1 h2 => paccept_any l m (some ⟨g, 0, none⟩) (some ⟨h, 0, none⟩) l.length m.length (l.length + 2) (m.length + 2) om w' (lentC_chv h1) (lentC_chv h2) rfl rfl (by omega) (by omega) (by omega)
  have K1 : Hid (∀ (g : Nat) (w' : World), Below w.heap.size w w' → w'.heap[g]? = some (.cells (lentC l) 56 (0, 0)) → _) := fun g w' hb h1 => ckept_any g l a l.length c w' h1 (hl.below hb) rfl hln
  have K2 : Hid (∀ (g : Nat) (w' : World), Below w.heap.size w w' → w'.heap[g]? = some (.cells (lentC m) 56 (0, 0)) → _) := fun g w' hb h1 => ckept_any g m b m.length d w' h1 (hm.below hb) rfl hmn
  have W2 : Hid (∀ w', Below w.heap.size w w' → _) := fun w' hb => want_any l a l.length c on w' (hl.below hb) rfl (by omega)
  have A2 : Hid (∀ w', Below w.heap.size w w' → _) := fun w' hb => agree_any l a l.length c ob ow os w' (hl.below hb) rfl hln
  have C2 : Hid (∀ w', Below w.heap.size w w' → _) := fun w' hb => accept_any l m a b l.length m.length c d om w' (hl.below hb) (hm.below hb) rfl rfl (by omega) (by omega)
  have HS := hid (agS_eq l ob ow os l.length (Nat.le_refl _))
  have HC := hid (accF_eq l m om)
  have H3 : Hid ((agT ob ow os (fstL l l.length)).2.2.length ≤ 3) := chOk_3 (agree_ok l ob ow os) (Nat.le_refl _)
  rw [HS.out] at A2
  rw [HC.out] at C2
  clear HS HC hE hl hm hlc hmc
  generalize agT ob ow os (fstL l l.length) = T at *
  obtain ⟨tb, tw, tl⟩ := T
  generalize accP l m om = P at *
  obtain ⟨pb, pw, pe⟩ := P
  generalize wantV l on = wv at *
  generalize wantB l on = wb at *
  simp only at *
  generalize lentC l = LC at *
  generalize lentC m = MC at *
  generalize l.length = ln at *
  generalize m.length = mn at *
  go_enter Tryd.func6, Tryd.ntmps6
  go_wp2_with fail
  have hb0 := bpush (Below.refl w.heap.size w) (.cells #[.int .i64 ob, .int .i64 ow, .int .i64 os, .int .i64 om, .string on] 46)
  have hh0 := (Holds.nil w).push (.cells #[.int .i64 ob, .int .i64 ow, .int .i64 os, .int .i64 om, .string on] 46)
  refine (LV.out _ hb0).mono ?_
  rintro e w1 ⟨rfl, hb1⟩
  have HO1 := hid (hh0.below hb1.out)
  have HB1 := hid (bstep hb0 hb1.out)
  have z01 : w.heap.size < w1.heap.size := by have := hb1.out.size; simp at this; omega
  clear hb0 hh0
  clear hb1 LV
  go_wp2_with fail
  refine (L1.out _ HB1.out).mono ?_
  rintro e w2 ⟨rfl, h2⟩
  have X2 := hid h2.out.1
  have HO2 := hid (HO1.out.below h2.out.2.1)
  have HB2 := hid (bstep HB1.out h2.out.2.1)
  have z12 : w1.heap.size < w2.heap.size := h2.out.2.2
  clear HO1 h2 HB1
  generalize w1.heap.size = gx at *
  clear w1
  go_wp2_with fail
  refine (L2.out _ HB2.out).mono ?_
  rintro e w3 ⟨rfl, h3⟩
  have Y3 := hid h3.out.1
  have X3 := hid ((((Holds.nil _).cons X2.out).below h3.out.2.1).at 0 _ _ rfl)
  have HO3 := hid (HO2.out.below h3.out.2.1)
  have HB3 := hid (bstep HB2.out h3.out.2.1)
  have z23 : w2.heap.size < w3.heap.size := h3.out.2.2
  clear HO2 h3 HB2 X2
  generalize w2.heap.size = gy at *
  clear w2
  have HH3 := hid (((Holds.nil _).cons X3.out).cons Y3.out)
  clear X3 Y3
  have CW := hid (W1.out gx w3 (HH3.out.at 1 _ _ rfl))
  have cO : ∀ q, w3.cell? ⟨w.heap.size, q, none⟩ = (#[.int .i64 ob, .int .i64 ow, .int .i64 os, .int .i64 om, .string on] : Array Value)[q]? := fun q => cell_of_heap (HO3.out.at 0 _ _ rfl) q
  go_wp2_with fail
  clear cO
  refine CW.out.mono ?_
  rintro e w4 ⟨rfl, hb⟩
  have HH4 := hid (HH3.out.below hb.out)
  have HO4 := hid (HO3.out.below hb.out)
  have HB4 := hid (bstep HB3.out hb.out)
  have z34 : w3.heap.size ≤ w4.heap.size := hb.out.size
  clear HO3 hb CW HH3 HB3 W1
  have CA := hid (A1.out gx w4 (HH4.out.at 1 _ _ rfl))
  have cO : ∀ q, w4.cell? ⟨w.heap.size, q, none⟩ = (#[.int .i64 ob, .int .i64 ow, .int .i64 os, .int .i64 om, .string on] : Array Value)[q]? := fun q => cell_of_heap (HO4.out.at 0 _ _ rfl) q
  go_wp2_with fail
  clear cO
  refine CA.out.mono ?_
  rintro e w5 ⟨a1, n1, c1, rfl, hr⟩
  have HR1_5 := hid (ChK.of hr.out)
  have HH5 := hid (HH4.out.below hr.out.below)
  have HO5 := hid (HO4.out.below hr.out.below)
  have HB5 := hid (bstep HB4.out hr.out.below)
  have z45 : w4.heap.size ≤ w5.heap.size := hr.out.below.size
  clear HO4 hr CA HH4 HB4
  have CC := hid (C1.out gx gy w5 (HH5.out.at 1 _ _ rfl) (HH5.out.at 0 _ _ rfl))
  have cO : ∀ q, w5.cell? ⟨w.heap.size, q, none⟩ = (#[.int .i64 ob, .int .i64 ow, .int .i64 os, .int .i64 om, .string on] : Array Value)[q]? := fun q => cell_of_heap (HO5.out.at 0 _ _ rfl) q
  go_wp2_with fail
  clear cO
  refine CC.out.mono ?_
  rintro e w6 ⟨rfl, hb⟩
  have HH6 := hid (HH5.out.below hb.out)
  have HO6 := hid (HO5.out.below hb.out)
  have HB6 := hid (bstep HB5.out hb.out)
  have HR1_6 := hid (HR1_5.out.below hb.out)
  have z56 : w5.heap.size ≤ w6.heap.size := hb.out.size
  clear HO5 hb CC HH5 HB5 HR1_5 C1
  have CA := hid (A1.out gx w6 (HH6.out.at 1 _ _ rfl))
  have cO : ∀ q, w6.cell? ⟨w.heap.size, q, none⟩ = (#[.int .i64 ob, .int .i64 ow, .int .i64 os, .int .i64 om, .string on] : Array Value)[q]? := fun q => cell_of_heap (HO6.out.at 0 _ _ rfl) q
  go_wp2_with fail
  clear cO
  refine CA.out.mono ?_
  rintro e w7 ⟨a2, n2, c2, rfl, hr⟩
  have HR2_7 := hid (ChK.of hr.out)
  have HR1_7 := hid (HR1_6.out.below hr.out.below)
  have HH7 := hid (HH6.out.below hr.out.below)
  have HO7 := hid (HO6.out.below hr.out.below)
  have HB7 := hid (bstep HB6.out hr.out.below)
  have z67 : w6.heap.size ≤ w7.heap.size := hr.out.below.size
  clear HO6 hr CA HH6 HB6 HR1_6 A1
  have CK := hid (K1.out gx w7 HB7.out (HH7.out.at 1 _ _ rfl))
  go_wp2_with fail
  refine CK.out.mono ?_
  rintro e w8 ⟨rfl, bt⟩
  have HH8 := hid ((Holds.nil _).cons (keptBut (HH7.out.at 0 _ _ rfl) bt.out (by omega)))
  have HO8 := hid ((Holds.nil _).cons (keptBut (HO7.out.at 0 _ _ rfl) bt.out (by omega)))
  have HB8 := hid (bbut HB7.out bt.out (by omega))
  have HR1_8 := hid (HR1_7.out.but bt.out (Or.inl (by omega)))
  have HR2_8 := hid (HR2_7.out.but bt.out (Or.inl (by omega)))
  have z78 : w7.heap.size ≤ w8.heap.size := bt.out.size
  clear HO7 bt CK HH7 HB7 HR1_7 HR2_7 K1
  have CK := hid (K2.out gy w8 HB8.out (HH8.out.at 0 _ _ rfl))
  go_wp2_with fail
  refine CK.out.mono ?_
  rintro e w9 ⟨rfl, bt⟩
  have HO9 := hid ((Holds.nil _).cons (keptBut (HO8.out.at 0 _ _ rfl) bt.out (by omega)))
  have HB9 := hid (bbut HB8.out bt.out (by omega))
  have HR1_9 := hid (HR1_8.out.but bt.out (Or.inl (by omega)))
  have HR2_9 := hid (HR2_8.out.but bt.out (Or.inl (by omega)))
  have z89 : w8.heap.size ≤ w9.heap.size := bt.out.size
  clear HO8 bt CK HH8 HB8 HR1_8 HR2_8 K2
  have CW := hid (W2.out w9 HB9.out)
  have cO : ∀ q, w9.cell? ⟨w.heap.size, q, none⟩ = (#[.int .i64 ob, .int .i64 ow, .int .i64 os, .int .i64 om, .string on] : Array Value)[q]? := fun q => cell_of_heap (HO9.out.at 0 _ _ rfl) q
  go_wp2_with fail
  clear cO
  refine CW.out.mono ?_
  rintro e w9b ⟨rfl, hw⟩
  have hw2 := hw.symm
  clear hw
  subst hw2
  clear CW W2
  have CA := hid (A2.out w9 HB9.out)
  have cO : ∀ q, w9.cell? ⟨w.heap.size, q, none⟩ = (#[.int .i64 ob, .int .i64 ow, .int .i64 os, .int .i64 om, .string on] : Array Value)[q]? := fun q => cell_of_heap (HO9.out.at 0 _ _ rfl) q
  go_wp2_with fail
  clear cO
  refine CA.out.mono ?_
  rintro e w10 ⟨a3, n3, c3, rfl, hr⟩
  have HR3_10 := hid (ChK.of hr.out)
  have HR1_10 := hid (HR1_9.out.below hr.out.below)
  have HR2_10 := hid (HR2_9.out.below hr.out.below)
  have HO10 := hid (HO9.out.below hr.out.below)
  have HB10 := hid (bstep HB9.out hr.out.below)
  have z910 : w9.heap.size ≤ w10.heap.size := hr.out.below.size
  clear HO9 hr CA A2 HB9 HR1_9 HR2_9
  have CC := hid (C2.out w10 HB10.out)
  have cO : ∀ q, w10.cell? ⟨w.heap.size, q, none⟩ = (#[.int .i64 ob, .int .i64 ow, .int .i64 os, .int .i64 om, .string on] : Array Value)[q]? := fun q => cell_of_heap (HO10.out.at 0 _ _ rfl) q
  go_wp2_with fail
  clear cO
  refine CC.out.mono ?_
  rintro e w11 ⟨rfl, hb⟩
  have HR3_11 := hid (HR3_10.out.below hb)
  have HR1_11 := hid (HR1_10.out.below hb)
  have HR2_11 := hid (HR2_10.out.below hb)
  have HO11 := hid (HO10.out.below hb)
  have HB11 := hid (bstep HB10.out hb)
  have z1011 : w10.heap.size ≤ w11.heap.size := hb.size
  clear HO10 hb CC C2 HB10 HR1_10 HR2_10 HR3_10
  have e1 : n1 = tl.length := HR1_11.out.len
  have e2 : n2 = tl.length := HR2_11.out.len
  have e3 : n3 = tl.length := HR3_11.out.len
  subst e1
  subst e2
  subst e3
  have CS := hid (same_choices_yes tl a1 a3 tl.length c1 c3 w11 HR1_11.out.chv HR3_11.out.chv rfl (by have := H3.out; omega))
  go_wp2_with fail
  refine CS.out.mono ?_
  rintro e w12 ⟨rfl, q1, hw⟩
  have hb := bdrewT w11 q1
  rw [← hw] at hb
  have HR3_12 := hid (HR3_11.out.below hb)
  have HR1_12 := hid (HR1_11.out.below hb)
  have HR2_12 := hid (HR2_11.out.below hb)
  have HO12 := hid (HO11.out.below hb)
  have HB12 := hid (bstep HB11.out hb)
  have z1112 : w11.heap.size ≤ w12.heap.size := hb.size
  clear HO11 hb hw CS HB11 HR1_11 HR2_11 HR3_11
  have CS := hid (same_choices_yes tl a2 a3 tl.length c2 c3 w12 HR2_12.out.chv HR3_12.out.chv rfl (by have := H3.out; omega))
  go_wp2_with fail
  refine CS.out.mono ?_
  rintro e w13 ⟨rfl, q2, hw⟩
  have hb := bdrewT w12 q2
  rw [← hw] at hb
  have HR1_13 := hid (HR1_12.out.below hb)
  have HR2_13 := hid (HR2_12.out.below hb)
  have HO13 := hid (HO12.out.below hb)
  have HB13 := hid (bstep HB12.out hb)
  have z1213 : w12.heap.size ≤ w13.heap.size := hb.size
  clear HO12 hb hw CS HB12 HR1_12 HR2_12 HR3_12
  have hb2 : (wb != wb) = false := by simp
  have i1 := HR1_13.out.own
  have i2 := HR2_13.out.own
  have hH3 := H3.out
  have raF := bpush (Below.refl w13.heap.size w13) (.cells #[.slice a1 tl.length c1, .slice a2 tl.length c2] 23)
  have HBG := hid (bpush HB13.out (.cells #[.slice a1 tl.length c1, .slice a2 tl.length c2] 23))
  have HLB : Hid (ListB (w13.alloc (.cells #[.slice a1 tl.length c1, .slice a2 tl.length c2] 23)) w13.heap.size [.slice a1 tl.length c1, .slice a2 tl.length c2]) := heap_new w13 _
  have HRO : Hid (Rows w.heap.size (w13.alloc (.cells #[.slice a1 tl.length c1, .slice a2 tl.length c2] 23)) [.slice a1 tl.length c1, .slice a2 tl.length c2]) := by
    refine ⟨fun j hj => ?_, fun i j hi hj hne b h1 h2 => ?_, fun j hj b hb => ?_⟩
    · simp only [List.length_cons, List.length_nil] at hj
      have : j = 0 ∨ j = 1 := by omega
      rcases this with rfl | rfl
      · exact ⟨tl, RowS.below HR1_13.out.row raF, by omega⟩
      · exact ⟨tl, RowS.below HR2_13.out.row raF, by omega⟩
    · simp only [List.length_cons, List.length_nil] at hi hj
      have e1 : i = 0 ∨ i = 1 := by omega
      have e2 : j = 0 ∨ j = 1 := by omega
      rcases e1 with rfl | rfl <;> rcases e2 with rfl | rfl
      · exact hne rfl
      · have := i1 b h1; have := i2 b h2; omega
      · have := i2 b h1; have := i1 b h2; omega
      · exact hne rfl
    · simp only [List.length_cons, List.length_nil] at hj
      have : j = 0 ∨ j = 1 := by omega
      rcases this with rfl | rfl
      · have := i1 b hb; omega
      · have := i2 b hb; omega
  have CO := hid (cowned_any w.heap.size w13.heap.size 2 [.slice a1 tl.length c1, .slice a2 tl.length c2] _ HRO.out HLB.out rfl (by omega) (by have := raF.size; omega))
  clear raF HRO HLB i1 i2 hH3 HR1_13 HR2_13 H3
  go_wp2_with (first
    | (go_at_call 20; refine CO.out.mono ?_; rintro e wH ⟨rfl, hbH⟩)
    | fail)
  go_ret
  exact ⟨rfl, HBG.out.trans hbH.out⟩
end Go.Proofs.YtdcppiknomoigaaDoor
