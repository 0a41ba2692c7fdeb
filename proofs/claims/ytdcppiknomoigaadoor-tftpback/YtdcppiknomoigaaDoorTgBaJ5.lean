import Derived.Test.YtdcppiknomoigaaDoorTgDeJ
/-
  The walk of the statement TftpBack. Written by mktgba.py.
-/
namespace Go.Proofs.YtdcppiknomoigaaDoor
open Go.RowKit
set_option linter.all false
set_option maxRecDepth 20000 in
set_option maxHeartbeats 2000000 in
theorem tftpBack_5 (fl md : ByteArray) (ch : List Ch) (bk : Int) (dl : List Int) (cd : Int) (tx : ByteArray) (ca : Option Addr) (cc : Nat) (da : Option Addr) (dc : Nat) (pt : Part) (ob ow os om : Int) (on : ByteArray) (w : World) (hE : Env w) (hx : TpS (⟨5, fl, md, ch, bk, dl, cd, tx⟩ : Tp) ca cc da dc w) (hy : pt.ok w) (hyl : pt.zs.length ≤ 140737488351232) (hm : (⟨5, fl, md, ch, bk, dl, cd, tx⟩ : Tp).may = 0) :
    Calls Tryd.prog 7 #[.agg (tpC (⟨5, fl, md, ch, bk, dl, cd, tx⟩ : Tp) ca cc da dc), pt.val, .agg #[.int .i64 ob, .int .i64 ow, .int .i64 os, .int .i64 om, .string on]] w fun e w' => e = .returned (.bool true) ∧ Below w.heap.size w w' := by
  have LV : Hid (∀ w', Below w.heap.size w w' → Calls Tryd.prog 8 #[] w' fun e w'' => e = .returned (.bool true) ∧ Hid (Below w'.heap.size w' w'')) := fun w' hb => live_any w' (hE.below hb)
  have E1 : Hid (∀ w', Below w.heap.size w w' → _) := fun w' hb => encode_any (⟨5, fl, md, ch, bk, dl, cd, tx⟩ : Tp) ca cc da dc w' (hE.below hb) (hx.below hb)
  rw [if_pos hm, hm] at E1
  have hnm := enc_dec hm
  have hne := norm_enc hm
  have hno := norm_ok hm hx.da.1
  have hns := hid (norm_sz hm)
  have hda := hid (norm_da (p := (⟨5, fl, md, ch, bk, dl, cd, tx⟩ : Tp)) hx.da.1)
  have hen := enc_len hm
  have hbd := hid (enc_bd (⟨5, fl, md, ch, bk, dl, cd, tx⟩ : Tp) hx.da.1)
  have D1 : Hid (∀ a c w', Part.ok w' ⟨a, c, (⟨5, fl, md, ch, bk, dl, cd, tx⟩ : Tp).enc⟩ → Below w.heap.size w w' → _) := fun a c w' hp hb => decode_any ⟨a, c, (⟨5, fl, md, ch, bk, dl, cd, tx⟩ : Tp).enc⟩ w' (hE.below hb) hp (by simp only; omega)
  have E2 : Hid (∀ ca cc da dc w', TpS (⟨5, fl, md, ch, bk, dl, cd, tx⟩ : Tp).norm ca cc da dc w' → Below w.heap.size w w' → _) := fun ca cc da dc w' hs hb => encode_any (⟨5, fl, md, ch, bk, dl, cd, tx⟩ : Tp).norm ca cc da dc w' (hE.below hb) hs
  rw [if_pos hno.1, hno.1, hne] at E2
  simp only [Part.val] at D1
  rw [hnm.1, hnm.2] at D1
  rw [show (⟨5, fl, md, ch, bk, dl, cd, tx⟩ : Tp).norm = ⟨5, noS, noS, [], 0, [], cd, tx⟩ from rfl] at D1 E2 hns hda
  clear hnm hne hno
  generalize (⟨5, fl, md, ch, bk, dl, cd, tx⟩ : Tp).enc = Y at *
  have CS : Hid (∀ (a : Option Addr) (c : Nat) (w' : World), Below w.heap.size w w' → Calls Tryd.prog 27 #[.slice a 0 c, .slice ca ch.length cc] w' fun e w'' => e = .returned (.bool (decide (ch = []))) ∧ Hid (Below w'.heap.size w' w'')) := fun a c w' hb => by
    cases hch : ch with
    | nil => exact (same_choices_yes [] a ca 0 c cc w' (Or.inl rfl) (Or.inl rfl) rfl (by omega)).mono fun e w'' ⟨h2, q, h3⟩ => ⟨h2, h3 ▸ bdrewT w' q⟩
    | cons x r => exact (same_choices_no a ca 0 (x :: r).length c cc w' (by simp)).mono fun e w'' ⟨h2, h3⟩ => ⟨by rw [h2]; simp, h3 ▸ Below.refl _ _⟩
  generalize decide (ch = []) = sb at CS
  have D3 : Hid (∀ w', Below w.heap.size w w' → _) := fun w' hb => decode_any pt w' (hE.below hb) (Part.ok_below hy hb) (by omega)
  have HQ2 := hid (dec_two pt.zs hy.1)
  have PZ := hid (decQ_props pt.zs hy.1)
  have E4 : Hid (∀ ca cc da dc w', TpS (decQ pt.zs) ca cc da dc w' → Below w.heap.size w w' → _) := fun ca cc da dc w' hs hb => encode_any (decQ pt.zs) ca cc da dc w' (hE.below hb) hs
  have HENV : Hid (∀ w', Below w.heap.size w w' → Env w') := fun w' hb => hE.below hb
  have HAG := agree_acc ch ob ow (max 0 os) (max 0 (max os om)) (by omega) (by omega)
  have HBD := agree_bd ch ob ow (max 0 os)
  have HOK := agree_ok ch ob ow (max 0 os)
  have HTL : (agT ob ow (max 0 os) (fstL ch ch.length)).2.2 = ansL ob ow (max 0 os) (fstL ch ch.length) := rfl
  have HTB : (agT ob ow (max 0 os) (fstL ch ch.length)).1 = agd (ansL ob ow (max 0 os) (fstL ch ch.length)) nBlk 512 := rfl
  have PA : Hid (∀ w', Below w.heap.size w w' → _) := fun w' hb => pagree_any ch ca ch.length cc ob ow (max 0 os) w' (hx.ch.below hb) rfl hx.cn
  rw [HTL] at PA
  rw [HTB] at PA HBD HAG
  generalize (agT ob ow (max 0 os) (fstL ch ch.length)).2.1 = tw at *
  clear HTL HTB
  generalize ansL ob ow (max 0 os) (fstL ch ch.length) = tl at *
  have h3 := chOk_3 HOK (Nat.le_refl _)
  have PC : Hid (∀ a c w', ChV w' a tl → tl.length ≤ c → Below w.heap.size w w' → _) := fun a c w' h1 h2 hb => paccept_any ch tl ca a ch.length tl.length cc c (max 0 (max os om)) w' (hx.ch.below hb) h1 rfl rfl h2 (by have := hx.cn; simp only at this; omega) (by omega)
  rw [HAG] at PC
  have hm6 : Tp.may ⟨6, ⟨#[]⟩, ⟨#[]⟩, tl, 0, [], 0, ⟨#[]⟩⟩ = 0 := by unfold Tp.may; simp only; rw [may_6, HOK]; rfl
  have PE : Hid (∀ a c w', ChV w' a tl → tl.length ≤ c → Below w.heap.size w w' → _) := fun a c w' h1 h2 hb => encode_any ⟨6, ⟨#[]⟩, ⟨#[]⟩, tl, 0, [], 0, ⟨#[]⟩⟩ a c none 0 w' (hE.below hb) ⟨h1, h2, by simp only; omega, Part.nil_ok _, by simp, by show (⟨#[]⟩ : ByteArray).size ≤ 140737488353280; decide, by show (⟨#[]⟩ : ByteArray).size ≤ 140737488353280; decide, by show (⟨#[]⟩ : ByteArray).size ≤ 140737488353280; decide⟩
  rw [hm6] at PE
  have PW : Hid (∀ a c w', ChV w' a tl → _) := fun a c w' h1 => pwant_any tl a tl.length c nBlk w' h1 rfl (by omega)
  have HAD : agd tl nBlk 512 = if wantB tl nBlk = true then wantV tl nBlk else 512 := rfl
  generalize agd tl nBlk 512 = tb at *
  generalize wantB tl nBlk = wb at *
  generalize wantV tl nBlk = wv at *
  clear HAG HOK hm6 hE hy
  have hbl := hid HBD
  have HADh := hid HAD
  clear HBD HAD
  clear hx hm
  obtain ⟨ya, yc, ys⟩ := pt
  simp only [tpC, Part.val, List.length_nil] at *
  have HCN : Hid (∃ n, n = ch.length) := ⟨_, rfl⟩
  obtain ⟨cn, hcn⟩ := HCN.out
  obtain ⟨dn, hdn⟩ : ∃ n, n = dl.length := ⟨_, rfl⟩
  rw [← hcn] at E1 PA PC CS 
  rw [← hdn] at E1 
  rw [← hcn, ← hdn]
  have HCN2 := hid hcn
  have HDN2 := hid hdn
  clear HCN hcn hdn
  go_enter Tryd.func7, Tryd.ntmps7
  go_wp2_with fail
  have hb0 := bpush (bpush (Below.refl w.heap.size w) (.cells #[.int .i64 5, .string fl, .string md, .slice ca cn cc, .int .i64 bk, .slice da dn dc, .int .i64 cd, .string tx] 26)) (.cells #[.int .i64 ob, .int .i64 ow, .int .i64 os, .int .i64 om, .string on] 46)
  have hh0 := ((Holds.nil w).push (.cells #[.int .i64 5, .string fl, .string md, .slice ca cn cc, .int .i64 bk, .slice da dn dc, .int .i64 cd, .string tx] 26)).push (.cells #[.int .i64 ob, .int .i64 ow, .int .i64 os, .int .i64 om, .string on] 46)
  simp only [World.size_alloc] at hh0
  refine (LV.out _ hb0).mono ?_
  rintro e w1 ⟨rfl, hb1⟩
  have HH1 := hid (hh0.below hb1.out)
  have HB1 := hid (bstep hb0 hb1.out)
  have z01 : w.heap.size + 2 ≤ w1.heap.size := by have := hb1.out.size; simpa using this
  clear hb0 hh0 hb1 LV
  have hq0 : ∀ q, w1.cell? ⟨w.heap.size, q, none⟩ = (#[.int .i64 5, .string fl, .string md, .slice ca cn cc, .int .i64 bk, .slice da dn dc, .int .i64 cd, .string tx] : Array Value)[q]? := fun q => cell_of_heap (HH1.out.at 1 _ _ rfl) q
  have CX := hid (E1.out _ HB1.out)
  go_wp2_with fail
  clear hq0
  refine CX.out.mono ?_
  rintro e w2 ⟨a1, n1, c1, rfl, an⟩
  have HH2 := hid (HH1.out.below an.out.2.2)
  have HB2 := hid (bstep HB1.out an.out.2.2)
  obtain ⟨en1, hp1⟩ := Ans.part an.out hbd.out
  have HP1_2 := hid hp1
  clear hp1
  have z12 : w1.heap.size ≤ w2.heap.size := an.out.2.2.size
  clear CX HH1 HB1 
  subst en1
  clear an E1
  have CD := hid (D1.out a1 c1 _ HP1_2.out HB2.out)
  go_upto_region 7 with (first
    | (go_at_call 17; refine CD.out.mono ?_; go_loud (rintro e v ⟨ca1, cc1, da1, dc1, rfl, HO⟩))
    | (refine wpList_store_row rfl 26 _ _ rfl v.heap.size #[.int .i64 5, .string noS, .string noS, .slice ca1 0 cc1, .int .i64 0, .slice da1 0 dc1, .int .i64 cd, .string tx] rfl rfl 26 _ (heap_new v _) (by kernel_rfl) rfl (by first | kernel_rfl | simp [Value.oneCell']) ?_)
    | fail)
  have hsr : ((v.alloc (.cells #[.int .i64 0, .string ⟨#[]⟩, .string ⟨#[]⟩, .slice none 0 0, .int .i64 0, .slice none 0 0, .int .i64 0, .string ⟨#[]⟩] 26)).setRow v.heap.size #[.int .i64 5, .string noS, .string noS, .slice ca1 0 cc1, .int .i64 0, .slice da1 0 dc1, .int .i64 cd, .string tx]).heap[v.heap.size]? = some (.cells #[.int .i64 5, .string noS, .string noS, .slice ca1 0 cc1, .int .i64 0, .slice da1 0 dc1, .int .i64 cd, .string tx] 26 (0, 0)) := setRow_heap _ _ _ _ _ _ (heap_new v _)
  have hbb : Below v.heap.size v ((v.alloc (.cells #[.int .i64 0, .string ⟨#[]⟩, .string ⟨#[]⟩, .slice none 0 0, .int .i64 0, .slice none 0 0, .int .i64 0, .string ⟨#[]⟩] 26)).setRow v.heap.size #[.int .i64 5, .string noS, .string noS, .slice ca1 0 cc1, .int .i64 0, .slice da1 0 dc1, .int .i64 cd, .string tx]) := bbut (bpush (Below.refl _ _) _) (But.setRow _ _ _) (Nat.le_refl _)
  have hbo := HO.out.below
  have HH3 := hid (((HH2.out.below hbo).below hbb).cons hsr)
  have HB3 := hid (bstep (bstep HB2.out hbo) hbb)
  have HP1_3 := hid (Part.ok_below (Part.ok_below HP1_2.out hbo) hbb)
  have HT1_3 := hid (HO.out.k.below hbb)
  have z2v1 : w2.heap.size ≤ v.heap.size := hbo.size
  have zv3 : v.heap.size < ((v.alloc (.cells #[.int .i64 0, .string ⟨#[]⟩, .string ⟨#[]⟩, .slice none 0 0, .int .i64 0, .slice none 0 0, .int .i64 0, .string ⟨#[]⟩] 26)).setRow v.heap.size #[.int .i64 5, .string noS, .string noS, .slice ca1 0 cc1, .int .i64 0, .slice da1 0 dc1, .int .i64 cd, .string tx]).heap.size := heap_lt hsr
  clear CD HO hsr hbb hbo HH2 HB2  HP1_2
  generalize (v.alloc (.cells #[.int .i64 0, .string ⟨#[]⟩, .string ⟨#[]⟩, .slice none 0 0, .int .i64 0, .slice none 0 0, .int .i64 0, .string ⟨#[]⟩] 26)).setRow v.heap.size #[.int .i64 5, .string noS, .string noS, .slice ca1 0 cc1, .int .i64 0, .slice da1 0 dc1, .int .i64 cd, .string tx] = w3 at *
  generalize v.heap.size = g1 at *
  clear v
  have hq0 : ∀ q, w3.cell? ⟨g1, q, none⟩ = (#[.int .i64 5, .string noS, .string noS, .slice ca1 0 cc1, .int .i64 0, .slice da1 0 dc1, .int .i64 cd, .string tx] : Array Value)[q]? := fun q => cell_of_heap (HH3.out.at 0 _ _ rfl) q
  have CX := hid (E2.out ca1 cc1 da1 dc1 _ (HT1_3.out.s hda.out hns.out) HB3.out)
  go_wp2_with fail
  clear hq0
  refine CX.out.mono ?_
  rintro e w4 ⟨a2, n2, c2, rfl, an⟩
  have HH4 := hid (HH3.out.below an.out.2.2)
  have HB4 := hid (bstep HB3.out an.out.2.2)
  have HT1_4 := hid (HT1_3.out.below an.out.2.2)
  have HP1_4 := hid (Part.ok_below HP1_3.out an.out.2.2)
  have z34 : w3.heap.size ≤ w4.heap.size := an.out.2.2.size
  clear CX HH3 HB3 HT1_3
  clear E2 D1
  have v1 := conv_part ⟨a1, c1, Y⟩ w4 HP1_4.out
  have v2 := an.out.1.conv0 hbd.out
  simp only [Part.val] at v1
  have st1 := str_same (strOfNums Y)
  generalize strOfNums Y = X at *
  clear an
  have st2 := str_same tx
  have hq0 : ∀ q, w4.cell? ⟨w.heap.size, q, none⟩ = (#[.int .i64 5, .string fl, .string md, .slice ca cn cc, .int .i64 bk, .slice da dn dc, .int .i64 cd, .string tx] : Array Value)[q]? := fun q => cell_of_heap (HH4.out.at 2 _ _ rfl) q
  have hq1 : ∀ q, w4.cell? ⟨g1, q, none⟩ = (#[.int .i64 5, .string noS, .string noS, .slice ca1 0 cc1, .int .i64 0, .slice da1 0 dc1, .int .i64 cd, .string tx] : Array Value)[q]? := fun q => cell_of_heap (HH4.out.at 0 _ _ rfl) q
  have CX := hid (CS.out ca1 cc1 w4 HB4.out)
  go_wp2_with fail
  clear hq0 hq1
  refine CX.out.mono ?_
  rintro e w5 ⟨rfl, hb⟩
  have HH5 := hid (HH4.out.below hb.out)
  have HB5 := hid (bstep HB4.out hb.out)
  have HT1_5 := hid (HT1_4.out.below hb.out)
  have z45 : w4.heap.size ≤ w5.heap.size := hb.out.size
  clear CX HH4 HB4 HT1_4
  clear hb v1 v2 st1 CS HP1_4 st2
  have D3x := hid (D3.out _ HB5.out)
  generalize decQ ys = Z at *
  generalize decE ys = R at *
  rcases HQ2.out with ⟨rfl, hR⟩ | ⟨rfl, hZm, hZn⟩
  · have hRb : (R == 0) = false := by simpa using hR
    clear hR HQ2 E4 D3
    simp only [Tp.nil, noS, List.length_nil] at D3x
    have hq0 : ∀ q, w5.cell? ⟨w.heap.size, q, none⟩ = (#[.int .i64 5, .string fl, .string md, .slice ca cn cc, .int .i64 bk, .slice da dn dc, .int .i64 cd, .string tx] : Array Value)[q]? := fun q => cell_of_heap (HH5.out.at 2 _ _ rfl) q
    have CD := hid (D3x.out)
    go_upto_region 18 with (first
      | (go_at_call 17; refine CD.out.mono ?_; go_loud (rintro e v ⟨ca2, cc2, da2, dc2, rfl, HO⟩))
      | (refine wpList_store_row rfl 26 _ _ rfl v.heap.size #[.int .i64 0, .string ⟨#[]⟩, .string ⟨#[]⟩, .slice ca2 0 cc2, .int .i64 0, .slice da2 0 dc2, .int .i64 0, .string ⟨#[]⟩] rfl rfl 26 _ (heap_new v _) (by kernel_rfl) rfl (by first | kernel_rfl | simp [Value.oneCell']) ?_)
      | fail)
    clear hq0
    have hsr : ((v.alloc (.cells #[.int .i64 0, .string ⟨#[]⟩, .string ⟨#[]⟩, .slice none 0 0, .int .i64 0, .slice none 0 0, .int .i64 0, .string ⟨#[]⟩] 26)).setRow v.heap.size #[.int .i64 0, .string ⟨#[]⟩, .string ⟨#[]⟩, .slice ca2 0 cc2, .int .i64 0, .slice da2 0 dc2, .int .i64 0, .string ⟨#[]⟩]).heap[v.heap.size]? = some (.cells #[.int .i64 0, .string ⟨#[]⟩, .string ⟨#[]⟩, .slice ca2 0 cc2, .int .i64 0, .slice da2 0 dc2, .int .i64 0, .string ⟨#[]⟩] 26 (0, 0)) := setRow_heap _ _ _ _ _ _ (heap_new v _)
    have hbb : Below v.heap.size v ((v.alloc (.cells #[.int .i64 0, .string ⟨#[]⟩, .string ⟨#[]⟩, .slice none 0 0, .int .i64 0, .slice none 0 0, .int .i64 0, .string ⟨#[]⟩] 26)).setRow v.heap.size #[.int .i64 0, .string ⟨#[]⟩, .string ⟨#[]⟩, .slice ca2 0 cc2, .int .i64 0, .slice da2 0 dc2, .int .i64 0, .string ⟨#[]⟩]) := bbut (bpush (Below.refl _ _) _) (But.setRow _ _ _) (Nat.le_refl _)
    have hbo := HO.out.below
    have HH6 := hid (((HH5.out.below hbo).below hbb).cons hsr)
    have HB6 := hid (bstep (bstep HB5.out hbo) hbb)
    have HT1_6 := hid ((HT1_5.out.below hbo).below hbb)
    have HT2_6 := hid (HO.out.k.below hbb)
    have z5v2 : w5.heap.size ≤ v.heap.size := hbo.size
    have zv6 : v.heap.size < ((v.alloc (.cells #[.int .i64 0, .string ⟨#[]⟩, .string ⟨#[]⟩, .slice none 0 0, .int .i64 0, .slice none 0 0, .int .i64 0, .string ⟨#[]⟩] 26)).setRow v.heap.size #[.int .i64 0, .string ⟨#[]⟩, .string ⟨#[]⟩, .slice ca2 0 cc2, .int .i64 0, .slice da2 0 dc2, .int .i64 0, .string ⟨#[]⟩]).heap.size := heap_lt hsr
    clear CD HO hsr hbb hbo HH5 HB5 HT1_5 
    generalize (v.alloc (.cells #[.int .i64 0, .string ⟨#[]⟩, .string ⟨#[]⟩, .slice none 0 0, .int .i64 0, .slice none 0 0, .int .i64 0, .string ⟨#[]⟩] 26)).setRow v.heap.size #[.int .i64 0, .string ⟨#[]⟩, .string ⟨#[]⟩, .slice ca2 0 cc2, .int .i64 0, .slice da2 0 dc2, .int .i64 0, .string ⟨#[]⟩] = w6 at *
    generalize v.heap.size = g2 at *
    clear v
    have hq0 : ∀ q, w6.cell? ⟨w.heap.size, q, none⟩ = (#[.int .i64 5, .string fl, .string md, .slice ca cn cc, .int .i64 bk, .slice da dn dc, .int .i64 cd, .string tx] : Array Value)[q]? := fun q => cell_of_heap (HH6.out.at 3 _ _ rfl) q
    have hq1 : ∀ q, w6.cell? ⟨w.heap.size + 1, q, none⟩ = (#[.int .i64 ob, .int .i64 ow, .int .i64 os, .int .i64 om, .string on] : Array Value)[q]? := fun q => cell_of_heap (HH6.out.at 2 _ _ rfl) q
    have CX := hid (PA.out _ HB6.out)
    go_wp2_with fail
    clear hq0 hq1
    refine CX.out.mono ?_
    rintro e w7 ⟨a4, n4, c4, rfl, hr⟩
    have HH7 := hid (HH6.out.below hr.out.below)
    have HB7 := hid (bstep HB6.out hr.out.below)
    have HT1_7 := hid (HT1_6.out.below hr.out.below)
    have HT2_7 := hid (HT2_6.out.below hr.out.below)
    have HV4 := hr.out.chv
    have HC4 := hr.out.cap
    have z67 : w6.heap.size ≤ w7.heap.size := hr.out.below.size
    clear CX HH6 HB6 HT1_6 HT2_6
    obtain ⟨e4, hv4⟩ := HV4
    subst e4
    have HV_7 := hid hv4
    clear hv4 hr PA
    have hq0 : ∀ q, w7.cell? ⟨w.heap.size, q, none⟩ = (#[.int .i64 5, .string fl, .string md, .slice ca cn cc, .int .i64 bk, .slice da dn dc, .int .i64 cd, .string tx] : Array Value)[q]? := fun q => cell_of_heap (HH7.out.at 3 _ _ rfl) q
    have hq1 : ∀ q, w7.cell? ⟨w.heap.size + 1, q, none⟩ = (#[.int .i64 ob, .int .i64 ow, .int .i64 os, .int .i64 om, .string on] : Array Value)[q]? := fun q => cell_of_heap (HH7.out.at 2 _ _ rfl) q
    have CX := hid (PC.out a4 c4 _ HV_7.out HC4 HB7.out)
    go_wp2_with fail
    clear hq0 hq1
    refine CX.out.mono ?_
    rintro e w8 ⟨rfl, hb⟩
    have HH8 := hid (HH7.out.below hb.out)
    have HB8 := hid (bstep HB7.out hb.out)
    have HT1_8 := hid (HT1_7.out.below hb.out)
    have HT2_8 := hid (HT2_7.out.below hb.out)
    have HV_8 := hid (HV_7.out.below hb.out)
    have z78 : w7.heap.size ≤ w8.heap.size := hb.out.size
    clear CX HH7 HB7 HT1_7 HT2_7
    clear hb PC
    have CX := hid (PE.out a4 c4 _ HV_8.out HC4 HB8.out)
    go_wp2_with fail
    refine CX.out.mono ?_
    rintro e w9 ⟨a5, n5, c5, rfl, an⟩
    have HH9 := hid (HH8.out.below an.out.2.2)
    have HB9 := hid (bstep HB8.out an.out.2.2)
    have HT1_9 := hid (HT1_8.out.below an.out.2.2)
    have HT2_9 := hid (HT2_8.out.below an.out.2.2)
    have HV_9 := hid (HV_8.out.below an.out.2.2)
    have z89 : w8.heap.size ≤ w9.heap.size := an.out.2.2.size
    clear CX HH8 HB8 HT1_8 HT2_8
    clear an PE
    have CX := hid (PW.out a4 c4 _ HV_9.out)
    go_wp2_with fail
    refine CX.out.mono ?_
    rintro e w10 ⟨rfl, hb⟩
    have HB10 := hid (bstep HB9.out hb.out)
    clear CX PW hb
    have hb1 := hbl.out.1
    have hb2 := hbl.out.2
    have hadd := HADh.out
    cases wb
    · simp only [Bool.false_eq_true, if_false] at hadd
      subst hadd
      go_wp2_with fail
      go_ret
      exact ⟨rfl, HB10.out⟩
    · simp only [if_true] at hadd
      subst hadd
      go_wp2_with fail
      go_ret
      exact ⟨rfl, HB10.out⟩
  · have hZs := norm_sz hZm
    rw [hZn] at hZs
    have hZd := enc_dec hZm
    rw [hZn] at hZd
    have HZL := enc_len hZm
    have HZS := hid hZs
    have HZB := hid (enc_bd Z PZ.out.2.2)
    have D4 : Hid (∀ a c w', Part.ok w' ⟨a, c, Z.enc⟩ → Below w.heap.size w w' → _) := fun a c w' hp hb => decode_any ⟨a, c, Z.enc⟩ w' (HENV.out w' hb) hp (by simp only; omega)
    simp only [Part.val] at D4
    rw [hZd.1, hZd.2] at D4
    rw [if_pos hZm, hZm] at E4
    have SZ : Hid (∀ w' ca cc da dc ca' cc' da' dc', TpR Z ca da dc w' → TpR Z ca' da' dc' w' → _) := fun w' ca cc da dc ca' cc' da' dc' h1 h2 => same_yes Z ca ca' cc cc' da da' dc dc' w' h1 h2 (by have := PZ.out.1; omega)
    clear hZs hZd HZL hZm hZn HQ2 D3
    generalize Z.enc = Y2 at *
    obtain ⟨xop, xfl, xmd, xch, xbk, xdl, xcd, xtx⟩ := Z
    simp only [tpC, Part.val] at *
    have HXN : Hid (∃ n, n = xch.length) := ⟨_, rfl⟩
    obtain ⟨xn, hxn⟩ := HXN.out
    obtain ⟨xm, hxm⟩ : ∃ n, n = xdl.length := ⟨_, rfl⟩
    rw [← hxn, ← hxm] at D3x D4 E4 SZ
    have HNX := hid hxn
    have HMX := hid hxm
    clear hxn hxm HXN
    have hq0 : ∀ q, w5.cell? ⟨w.heap.size, q, none⟩ = (#[.int .i64 5, .string fl, .string md, .slice ca cn cc, .int .i64 bk, .slice da dn dc, .int .i64 cd, .string tx] : Array Value)[q]? := fun q => cell_of_heap (HH5.out.at 2 _ _ rfl) q
    have CD := hid (D3x.out)
    go_upto_region 18 with (first
      | (go_at_call 17; refine CD.out.mono ?_; go_loud (rintro e v ⟨ca2, cc2, da2, dc2, rfl, HO⟩))
      | (refine wpList_store_row rfl 26 _ _ rfl v.heap.size #[.int .i64 xop, .string xfl, .string xmd, .slice ca2 xn cc2, .int .i64 xbk, .slice da2 xm dc2, .int .i64 xcd, .string xtx] rfl rfl 26 _ (heap_new v _) (by kernel_rfl) rfl (by first | kernel_rfl | simp [Value.oneCell']) ?_)
      | fail)
    clear hq0
    have hsr : ((v.alloc (.cells #[.int .i64 0, .string ⟨#[]⟩, .string ⟨#[]⟩, .slice none 0 0, .int .i64 0, .slice none 0 0, .int .i64 0, .string ⟨#[]⟩] 26)).setRow v.heap.size #[.int .i64 xop, .string xfl, .string xmd, .slice ca2 xn cc2, .int .i64 xbk, .slice da2 xm dc2, .int .i64 xcd, .string xtx]).heap[v.heap.size]? = some (.cells #[.int .i64 xop, .string xfl, .string xmd, .slice ca2 xn cc2, .int .i64 xbk, .slice da2 xm dc2, .int .i64 xcd, .string xtx] 26 (0, 0)) := setRow_heap _ _ _ _ _ _ (heap_new v _)
    have hbb : Below v.heap.size v ((v.alloc (.cells #[.int .i64 0, .string ⟨#[]⟩, .string ⟨#[]⟩, .slice none 0 0, .int .i64 0, .slice none 0 0, .int .i64 0, .string ⟨#[]⟩] 26)).setRow v.heap.size #[.int .i64 xop, .string xfl, .string xmd, .slice ca2 xn cc2, .int .i64 xbk, .slice da2 xm dc2, .int .i64 xcd, .string xtx]) := bbut (bpush (Below.refl _ _) _) (But.setRow _ _ _) (Nat.le_refl _)
    have hbo := HO.out.below
    have HH6 := hid (((HH5.out.below hbo).below hbb).cons hsr)
    have HB6 := hid (bstep (bstep HB5.out hbo) hbb)
    have HT1_6 := hid ((HT1_5.out.below hbo).below hbb)
    have HT2_6 := hid (HO.out.k.below hbb)
    have z5v2 : w5.heap.size ≤ v.heap.size := hbo.size
    have zv6 : v.heap.size < ((v.alloc (.cells #[.int .i64 0, .string ⟨#[]⟩, .string ⟨#[]⟩, .slice none 0 0, .int .i64 0, .slice none 0 0, .int .i64 0, .string ⟨#[]⟩] 26)).setRow v.heap.size #[.int .i64 xop, .string xfl, .string xmd, .slice ca2 xn cc2, .int .i64 xbk, .slice da2 xm dc2, .int .i64 xcd, .string xtx]).heap.size := heap_lt hsr
    clear CD HO hsr hbb hbo HH5 HB5 HT1_5 
    generalize (v.alloc (.cells #[.int .i64 0, .string ⟨#[]⟩, .string ⟨#[]⟩, .slice none 0 0, .int .i64 0, .slice none 0 0, .int .i64 0, .string ⟨#[]⟩] 26)).setRow v.heap.size #[.int .i64 xop, .string xfl, .string xmd, .slice ca2 xn cc2, .int .i64 xbk, .slice da2 xm dc2, .int .i64 xcd, .string xtx] = w6 at *
    generalize v.heap.size = g2 at *
    clear v
    have hq0 : ∀ q, w6.cell? ⟨g2, q, none⟩ = (#[.int .i64 xop, .string xfl, .string xmd, .slice ca2 xn cc2, .int .i64 xbk, .slice da2 xm dc2, .int .i64 xcd, .string xtx] : Array Value)[q]? := fun q => cell_of_heap (HH6.out.at 0 _ _ rfl) q
    have CX := hid (E4.out ca2 cc2 da2 dc2 _ (HT2_6.out.s PZ.out.2.2 HZS.out) HB6.out)
    go_wp2_with fail
    clear hq0
    refine CX.out.mono ?_
    rintro e w7 ⟨a3, n3, c3, rfl, an⟩
    have HH7 := hid (HH6.out.below an.out.2.2)
    have HB7 := hid (bstep HB6.out an.out.2.2)
    have HT1_7 := hid (HT1_6.out.below an.out.2.2)
    have HT2_7 := hid (HT2_6.out.below an.out.2.2)
    obtain ⟨en3, hp3⟩ := Ans.part an.out HZB.out
    have HP3_7 := hid hp3
    clear hp3
    have z67 : w6.heap.size ≤ w7.heap.size := an.out.2.2.size
    clear CX HH6 HB6 HT1_6 HT2_6
    subst en3
    clear an E4 D3x
    have CD := hid (D4.out a3 c3 _ HP3_7.out HB7.out)
    go_upto_region 21 with (first
      | (go_at_call 17; refine CD.out.mono ?_; go_loud (rintro e v ⟨ca3, cc3, da3, dc3, rfl, HO⟩))
      | (refine wpList_store_row rfl 26 _ _ rfl v.heap.size #[.int .i64 xop, .string xfl, .string xmd, .slice ca3 xn cc3, .int .i64 xbk, .slice da3 xm dc3, .int .i64 xcd, .string xtx] rfl rfl 26 _ (heap_new v _) (by kernel_rfl) rfl (by first | kernel_rfl | simp [Value.oneCell']) ?_)
      | fail)
    have hsr : ((v.alloc (.cells #[.int .i64 0, .string ⟨#[]⟩, .string ⟨#[]⟩, .slice none 0 0, .int .i64 0, .slice none 0 0, .int .i64 0, .string ⟨#[]⟩] 26)).setRow v.heap.size #[.int .i64 xop, .string xfl, .string xmd, .slice ca3 xn cc3, .int .i64 xbk, .slice da3 xm dc3, .int .i64 xcd, .string xtx]).heap[v.heap.size]? = some (.cells #[.int .i64 xop, .string xfl, .string xmd, .slice ca3 xn cc3, .int .i64 xbk, .slice da3 xm dc3, .int .i64 xcd, .string xtx] 26 (0, 0)) := setRow_heap _ _ _ _ _ _ (heap_new v _)
    have hbb : Below v.heap.size v ((v.alloc (.cells #[.int .i64 0, .string ⟨#[]⟩, .string ⟨#[]⟩, .slice none 0 0, .int .i64 0, .slice none 0 0, .int .i64 0, .string ⟨#[]⟩] 26)).setRow v.heap.size #[.int .i64 xop, .string xfl, .string xmd, .slice ca3 xn cc3, .int .i64 xbk, .slice da3 xm dc3, .int .i64 xcd, .string xtx]) := bbut (bpush (Below.refl _ _) _) (But.setRow _ _ _) (Nat.le_refl _)
    have hbo := HO.out.below
    have HH8 := hid (((HH7.out.below hbo).below hbb).cons hsr)
    have HB8 := hid (bstep (bstep HB7.out hbo) hbb)
    have HT1_8 := hid ((HT1_7.out.below hbo).below hbb)
    have HT2_8 := hid ((HT2_7.out.below hbo).below hbb)
    have HP3_8 := hid (Part.ok_below (Part.ok_below HP3_7.out hbo) hbb)
    have HT3_8 := hid (HO.out.k.below hbb)
    have z7v3 : w7.heap.size ≤ v.heap.size := hbo.size
    have zv8 : v.heap.size < ((v.alloc (.cells #[.int .i64 0, .string ⟨#[]⟩, .string ⟨#[]⟩, .slice none 0 0, .int .i64 0, .slice none 0 0, .int .i64 0, .string ⟨#[]⟩] 26)).setRow v.heap.size #[.int .i64 xop, .string xfl, .string xmd, .slice ca3 xn cc3, .int .i64 xbk, .slice da3 xm dc3, .int .i64 xcd, .string xtx]).heap.size := heap_lt hsr
    clear CD HO hsr hbb hbo HH7 HB7 HT1_7 HT2_7 HP3_7
    generalize (v.alloc (.cells #[.int .i64 0, .string ⟨#[]⟩, .string ⟨#[]⟩, .slice none 0 0, .int .i64 0, .slice none 0 0, .int .i64 0, .string ⟨#[]⟩] 26)).setRow v.heap.size #[.int .i64 xop, .string xfl, .string xmd, .slice ca3 xn cc3, .int .i64 xbk, .slice da3 xm dc3, .int .i64 xcd, .string xtx] = w8 at *
    generalize v.heap.size = g3 at *
    clear v
    have hq0 : ∀ q, w8.cell? ⟨g3, q, none⟩ = (#[.int .i64 xop, .string xfl, .string xmd, .slice ca3 xn cc3, .int .i64 xbk, .slice da3 xm dc3, .int .i64 xcd, .string xtx] : Array Value)[q]? := fun q => cell_of_heap (HH8.out.at 0 _ _ rfl) q
    have hq1 : ∀ q, w8.cell? ⟨g2, q, none⟩ = (#[.int .i64 xop, .string xfl, .string xmd, .slice ca2 xn cc2, .int .i64 xbk, .slice da2 xm dc2, .int .i64 xcd, .string xtx] : Array Value)[q]? := fun q => cell_of_heap (HH8.out.at 1 _ _ rfl) q
    have CX := hid (SZ.out _ ca3 cc3 da3 dc3 ca2 cc2 da2 dc2 (HT3_8.out.r PZ.out.2.2) (HT2_8.out.r PZ.out.2.2))
    go_wp2_with fail
    clear hq0 hq1
    refine CX.out.mono ?_
    rintro e w9 ⟨rfl, hb⟩
    have HH9 := hid (HH8.out.below hb.out)
    have HB9 := hid (bstep HB8.out hb.out)
    have HT1_9 := hid (HT1_8.out.below hb.out)
    have HT2_9 := hid (HT2_8.out.below hb.out)
    have HT3_9 := hid (HT3_8.out.below hb.out)
    have z89 : w8.heap.size ≤ w9.heap.size := hb.out.size
    clear CX HH8 HB8 HT1_8 HT2_8 HT3_8
    clear hb SZ D4
    have hq0 : ∀ q, w9.cell? ⟨w.heap.size, q, none⟩ = (#[.int .i64 5, .string fl, .string md, .slice ca cn cc, .int .i64 bk, .slice da dn dc, .int .i64 cd, .string tx] : Array Value)[q]? := fun q => cell_of_heap (HH9.out.at 4 _ _ rfl) q
    have hq1 : ∀ q, w9.cell? ⟨w.heap.size + 1, q, none⟩ = (#[.int .i64 ob, .int .i64 ow, .int .i64 os, .int .i64 om, .string on] : Array Value)[q]? := fun q => cell_of_heap (HH9.out.at 3 _ _ rfl) q
    have CX := hid (PA.out _ HB9.out)
    go_wp2_with fail
    clear hq0 hq1
    refine CX.out.mono ?_
    rintro e w10 ⟨a4, n4, c4, rfl, hr⟩
    have HH10 := hid (HH9.out.below hr.out.below)
    have HB10 := hid (bstep HB9.out hr.out.below)
    have HT1_10 := hid (HT1_9.out.below hr.out.below)
    have HT2_10 := hid (HT2_9.out.below hr.out.below)
    have HT3_10 := hid (HT3_9.out.below hr.out.below)
    have HV4 := hr.out.chv
    have HC4 := hr.out.cap
    have z910 : w9.heap.size ≤ w10.heap.size := hr.out.below.size
    clear CX HH9 HB9 HT1_9 HT2_9 HT3_9
    obtain ⟨e4, hv4⟩ := HV4
    subst e4
    have HV_10 := hid hv4
    clear hv4 hr PA
    have hq0 : ∀ q, w10.cell? ⟨w.heap.size, q, none⟩ = (#[.int .i64 5, .string fl, .string md, .slice ca cn cc, .int .i64 bk, .slice da dn dc, .int .i64 cd, .string tx] : Array Value)[q]? := fun q => cell_of_heap (HH10.out.at 4 _ _ rfl) q
    have hq1 : ∀ q, w10.cell? ⟨w.heap.size + 1, q, none⟩ = (#[.int .i64 ob, .int .i64 ow, .int .i64 os, .int .i64 om, .string on] : Array Value)[q]? := fun q => cell_of_heap (HH10.out.at 3 _ _ rfl) q
    have CX := hid (PC.out a4 c4 _ HV_10.out HC4 HB10.out)
    go_wp2_with fail
    clear hq0 hq1
    refine CX.out.mono ?_
    rintro e w11 ⟨rfl, hb⟩
    have HH11 := hid (HH10.out.below hb.out)
    have HB11 := hid (bstep HB10.out hb.out)
    have HT1_11 := hid (HT1_10.out.below hb.out)
    have HT2_11 := hid (HT2_10.out.below hb.out)
    have HT3_11 := hid (HT3_10.out.below hb.out)
    have HV_11 := hid (HV_10.out.below hb.out)
    have z1011 : w10.heap.size ≤ w11.heap.size := hb.out.size
    clear CX HH10 HB10 HT1_10 HT2_10 HT3_10
    clear hb PC
    have CX := hid (PE.out a4 c4 _ HV_11.out HC4 HB11.out)
    go_wp2_with fail
    refine CX.out.mono ?_
    rintro e w12 ⟨a5, n5, c5, rfl, an⟩
    have HH12 := hid (HH11.out.below an.out.2.2)
    have HB12 := hid (bstep HB11.out an.out.2.2)
    have HT1_12 := hid (HT1_11.out.below an.out.2.2)
    have HT2_12 := hid (HT2_11.out.below an.out.2.2)
    have HT3_12 := hid (HT3_11.out.below an.out.2.2)
    have HV_12 := hid (HV_11.out.below an.out.2.2)
    have z1112 : w11.heap.size ≤ w12.heap.size := an.out.2.2.size
    clear CX HH11 HB11 HT1_11 HT2_11 HT3_11
    clear an PE
    have CX := hid (PW.out a4 c4 _ HV_12.out)
    go_wp2_with fail
    refine CX.out.mono ?_
    rintro e w13 ⟨rfl, hb⟩
    have HB13 := hid (bstep HB12.out hb.out)
    clear CX PW hb
    have hb1 := hbl.out.1
    have hb2 := hbl.out.2
    have hadd := HADh.out
    cases wb
    · simp only [Bool.false_eq_true, if_false] at hadd
      subst hadd
      go_wp2_with fail
      go_ret
      exact ⟨rfl, HB13.out⟩
    · simp only [if_true] at hadd
      subst hadd
      go_wp2_with fail
      go_ret
      exact ⟨rfl, HB13.out⟩
end Go.Proofs.YtdcppiknomoigaaDoor

/-
  The walk of the statement TftpBack. Written by mktgba.py.
-/
namespace Go.Proofs.YtdcppiknomoigaaDoor
open Go.RowKit
set_option linter.all false
set_option maxRecDepth 20000 in
set_option maxHeartbeats 2000000 in
theorem tftpBack_6 (fl md : ByteArray) (ch : List Ch) (bk : Int) (dl : List Int) (cd : Int) (tx : ByteArray) (ca : Option Addr) (cc : Nat) (da : Option Addr) (dc : Nat) (pt : Part) (ob ow os om : Int) (on : ByteArray) (w : World) (hE : Env w) (hx : TpS (⟨6, fl, md, ch, bk, dl, cd, tx⟩ : Tp) ca cc da dc w) (hy : pt.ok w) (hyl : pt.zs.length ≤ 140737488351232) (hm : (⟨6, fl, md, ch, bk, dl, cd, tx⟩ : Tp).may = 0) :
    Calls Tryd.prog 7 #[.agg (tpC (⟨6, fl, md, ch, bk, dl, cd, tx⟩ : Tp) ca cc da dc), pt.val, .agg #[.int .i64 ob, .int .i64 ow, .int .i64 os, .int .i64 om, .string on]] w fun e w' => e = .returned (.bool true) ∧ Below w.heap.size w w' := by
  have LV : Hid (∀ w', Below w.heap.size w w' → Calls Tryd.prog 8 #[] w' fun e w'' => e = .returned (.bool true) ∧ Hid (Below w'.heap.size w' w'')) := fun w' hb => live_any w' (hE.below hb)
  have E1 : Hid (∀ w', Below w.heap.size w w' → _) := fun w' hb => encode_any (⟨6, fl, md, ch, bk, dl, cd, tx⟩ : Tp) ca cc da dc w' (hE.below hb) (hx.below hb)
  rw [if_pos hm, hm] at E1
  have hnm := enc_dec hm
  have hne := norm_enc hm
  have hno := norm_ok hm hx.da.1
  have hns := hid (norm_sz hm)
  have hda := hid (norm_da (p := (⟨6, fl, md, ch, bk, dl, cd, tx⟩ : Tp)) hx.da.1)
  have hen := enc_len hm
  have hbd := hid (enc_bd (⟨6, fl, md, ch, bk, dl, cd, tx⟩ : Tp) hx.da.1)
  have D1 : Hid (∀ a c w', Part.ok w' ⟨a, c, (⟨6, fl, md, ch, bk, dl, cd, tx⟩ : Tp).enc⟩ → Below w.heap.size w w' → _) := fun a c w' hp hb => decode_any ⟨a, c, (⟨6, fl, md, ch, bk, dl, cd, tx⟩ : Tp).enc⟩ w' (hE.below hb) hp (by simp only; omega)
  have E2 : Hid (∀ ca cc da dc w', TpS (⟨6, fl, md, ch, bk, dl, cd, tx⟩ : Tp).norm ca cc da dc w' → Below w.heap.size w w' → _) := fun ca cc da dc w' hs hb => encode_any (⟨6, fl, md, ch, bk, dl, cd, tx⟩ : Tp).norm ca cc da dc w' (hE.below hb) hs
  rw [if_pos hno.1, hno.1, hne] at E2
  simp only [Part.val] at D1
  rw [hnm.1, hnm.2] at D1
  rw [show (⟨6, fl, md, ch, bk, dl, cd, tx⟩ : Tp).norm = ⟨6, noS, noS, ch, 0, [], 0, noS⟩ from rfl] at D1 E2 hns hda
  clear hnm hne hno
  generalize (⟨6, fl, md, ch, bk, dl, cd, tx⟩ : Tp).enc = Y at *
  have CS : Hid (∀ (a : Option Addr) (c : Nat) (w' : World), ChV w' a ch → Below w.heap.size w w' → Calls Tryd.prog 27 #[.slice a ch.length c, .slice ca ch.length cc] w' fun e w'' => e = .returned (.bool true) ∧ Hid (Below w'.heap.size w' w'')) := fun a c w' h1 hb => (same_choices_yes ch a ca ch.length c cc w' h1 (hx.ch.below hb) rfl (by have := hx.cn; simp only at this; omega)).mono fun e w'' ⟨h2, q, h3⟩ => ⟨h2, h3 ▸ bdrewT w' q⟩
  have D3 : Hid (∀ w', Below w.heap.size w w' → _) := fun w' hb => decode_any pt w' (hE.below hb) (Part.ok_below hy hb) (by omega)
  have HQ2 := hid (dec_two pt.zs hy.1)
  have PZ := hid (decQ_props pt.zs hy.1)
  have E4 : Hid (∀ ca cc da dc w', TpS (decQ pt.zs) ca cc da dc w' → Below w.heap.size w w' → _) := fun ca cc da dc w' hs hb => encode_any (decQ pt.zs) ca cc da dc w' (hE.below hb) hs
  have HENV : Hid (∀ w', Below w.heap.size w w' → Env w') := fun w' hb => hE.below hb
  have HAG := agree_acc ch ob ow (max 0 os) (max 0 (max os om)) (by omega) (by omega)
  have HBD := agree_bd ch ob ow (max 0 os)
  have HOK := agree_ok ch ob ow (max 0 os)
  have HTL : (agT ob ow (max 0 os) (fstL ch ch.length)).2.2 = ansL ob ow (max 0 os) (fstL ch ch.length) := rfl
  have HTB : (agT ob ow (max 0 os) (fstL ch ch.length)).1 = agd (ansL ob ow (max 0 os) (fstL ch ch.length)) nBlk 512 := rfl
  have PA : Hid (∀ w', Below w.heap.size w w' → _) := fun w' hb => pagree_any ch ca ch.length cc ob ow (max 0 os) w' (hx.ch.below hb) rfl hx.cn
  rw [HTL] at PA
  rw [HTB] at PA HBD HAG
  generalize (agT ob ow (max 0 os) (fstL ch ch.length)).2.1 = tw at *
  clear HTL HTB
  generalize ansL ob ow (max 0 os) (fstL ch ch.length) = tl at *
  have h3 := chOk_3 HOK (Nat.le_refl _)
  have PC : Hid (∀ a c w', ChV w' a tl → tl.length ≤ c → Below w.heap.size w w' → _) := fun a c w' h1 h2 hb => paccept_any ch tl ca a ch.length tl.length cc c (max 0 (max os om)) w' (hx.ch.below hb) h1 rfl rfl h2 (by have := hx.cn; simp only at this; omega) (by omega)
  rw [HAG] at PC
  have hm6 : Tp.may ⟨6, ⟨#[]⟩, ⟨#[]⟩, tl, 0, [], 0, ⟨#[]⟩⟩ = 0 := by unfold Tp.may; simp only; rw [may_6, HOK]; rfl
  have PE : Hid (∀ a c w', ChV w' a tl → tl.length ≤ c → Below w.heap.size w w' → _) := fun a c w' h1 h2 hb => encode_any ⟨6, ⟨#[]⟩, ⟨#[]⟩, tl, 0, [], 0, ⟨#[]⟩⟩ a c none 0 w' (hE.below hb) ⟨h1, h2, by simp only; omega, Part.nil_ok _, by simp, by show (⟨#[]⟩ : ByteArray).size ≤ 140737488353280; decide, by show (⟨#[]⟩ : ByteArray).size ≤ 140737488353280; decide, by show (⟨#[]⟩ : ByteArray).size ≤ 140737488353280; decide⟩
  rw [hm6] at PE
  have PW : Hid (∀ a c w', ChV w' a tl → _) := fun a c w' h1 => pwant_any tl a tl.length c nBlk w' h1 rfl (by omega)
  have HAD : agd tl nBlk 512 = if wantB tl nBlk = true then wantV tl nBlk else 512 := rfl
  generalize agd tl nBlk 512 = tb at *
  generalize wantB tl nBlk = wb at *
  generalize wantV tl nBlk = wv at *
  clear HAG HOK hm6 hE hy
  have hbl := hid HBD
  have HADh := hid HAD
  clear HBD HAD
  clear hx hm
  obtain ⟨ya, yc, ys⟩ := pt
  simp only [tpC, Part.val, List.length_nil] at *
  have HCN : Hid (∃ n, n = ch.length) := ⟨_, rfl⟩
  obtain ⟨cn, hcn⟩ := HCN.out
  obtain ⟨dn, hdn⟩ : ∃ n, n = dl.length := ⟨_, rfl⟩
  rw [← hcn] at E1 PA PC CS D1 E2
  rw [← hdn] at E1 
  rw [← hcn, ← hdn]
  have HCN2 := hid hcn
  have HDN2 := hid hdn
  clear HCN hcn hdn
  go_enter Tryd.func7, Tryd.ntmps7
  go_wp2_with fail
  have hb0 := bpush (bpush (Below.refl w.heap.size w) (.cells #[.int .i64 6, .string fl, .string md, .slice ca cn cc, .int .i64 bk, .slice da dn dc, .int .i64 cd, .string tx] 26)) (.cells #[.int .i64 ob, .int .i64 ow, .int .i64 os, .int .i64 om, .string on] 46)
  have hh0 := ((Holds.nil w).push (.cells #[.int .i64 6, .string fl, .string md, .slice ca cn cc, .int .i64 bk, .slice da dn dc, .int .i64 cd, .string tx] 26)).push (.cells #[.int .i64 ob, .int .i64 ow, .int .i64 os, .int .i64 om, .string on] 46)
  simp only [World.size_alloc] at hh0
  refine (LV.out _ hb0).mono ?_
  rintro e w1 ⟨rfl, hb1⟩
  have HH1 := hid (hh0.below hb1.out)
  have HB1 := hid (bstep hb0 hb1.out)
  have z01 : w.heap.size + 2 ≤ w1.heap.size := by have := hb1.out.size; simpa using this
  clear hb0 hh0 hb1 LV
  have hq0 : ∀ q, w1.cell? ⟨w.heap.size, q, none⟩ = (#[.int .i64 6, .string fl, .string md, .slice ca cn cc, .int .i64 bk, .slice da dn dc, .int .i64 cd, .string tx] : Array Value)[q]? := fun q => cell_of_heap (HH1.out.at 1 _ _ rfl) q
  have CX := hid (E1.out _ HB1.out)
  go_wp2_with fail
  clear hq0
  refine CX.out.mono ?_
  rintro e w2 ⟨a1, n1, c1, rfl, an⟩
  have HH2 := hid (HH1.out.below an.out.2.2)
  have HB2 := hid (bstep HB1.out an.out.2.2)
  obtain ⟨en1, hp1⟩ := Ans.part an.out hbd.out
  have HP1_2 := hid hp1
  clear hp1
  have z12 : w1.heap.size ≤ w2.heap.size := an.out.2.2.size
  clear CX HH1 HB1 
  subst en1
  clear an E1
  have CD := hid (D1.out a1 c1 _ HP1_2.out HB2.out)
  go_upto_region 7 with (first
    | (go_at_call 17; refine CD.out.mono ?_; go_loud (rintro e v ⟨ca1, cc1, da1, dc1, rfl, HO⟩))
    | (refine wpList_store_row rfl 26 _ _ rfl v.heap.size #[.int .i64 6, .string noS, .string noS, .slice ca1 cn cc1, .int .i64 0, .slice da1 0 dc1, .int .i64 0, .string noS] rfl rfl 26 _ (heap_new v _) (by kernel_rfl) rfl (by first | kernel_rfl | simp [Value.oneCell']) ?_)
    | fail)
  have hsr : ((v.alloc (.cells #[.int .i64 0, .string ⟨#[]⟩, .string ⟨#[]⟩, .slice none 0 0, .int .i64 0, .slice none 0 0, .int .i64 0, .string ⟨#[]⟩] 26)).setRow v.heap.size #[.int .i64 6, .string noS, .string noS, .slice ca1 cn cc1, .int .i64 0, .slice da1 0 dc1, .int .i64 0, .string noS]).heap[v.heap.size]? = some (.cells #[.int .i64 6, .string noS, .string noS, .slice ca1 cn cc1, .int .i64 0, .slice da1 0 dc1, .int .i64 0, .string noS] 26 (0, 0)) := setRow_heap _ _ _ _ _ _ (heap_new v _)
  have hbb : Below v.heap.size v ((v.alloc (.cells #[.int .i64 0, .string ⟨#[]⟩, .string ⟨#[]⟩, .slice none 0 0, .int .i64 0, .slice none 0 0, .int .i64 0, .string ⟨#[]⟩] 26)).setRow v.heap.size #[.int .i64 6, .string noS, .string noS, .slice ca1 cn cc1, .int .i64 0, .slice da1 0 dc1, .int .i64 0, .string noS]) := bbut (bpush (Below.refl _ _) _) (But.setRow _ _ _) (Nat.le_refl _)
  have hbo := HO.out.below
  have HH3 := hid (((HH2.out.below hbo).below hbb).cons hsr)
  have HB3 := hid (bstep (bstep HB2.out hbo) hbb)
  have HP1_3 := hid (Part.ok_below (Part.ok_below HP1_2.out hbo) hbb)
  have HT1_3 := hid (HO.out.k.below hbb)
  have z2v1 : w2.heap.size ≤ v.heap.size := hbo.size
  have zv3 : v.heap.size < ((v.alloc (.cells #[.int .i64 0, .string ⟨#[]⟩, .string ⟨#[]⟩, .slice none 0 0, .int .i64 0, .slice none 0 0, .int .i64 0, .string ⟨#[]⟩] 26)).setRow v.heap.size #[.int .i64 6, .string noS, .string noS, .slice ca1 cn cc1, .int .i64 0, .slice da1 0 dc1, .int .i64 0, .string noS]).heap.size := heap_lt hsr
  clear CD HO hsr hbb hbo HH2 HB2  HP1_2
  generalize (v.alloc (.cells #[.int .i64 0, .string ⟨#[]⟩, .string ⟨#[]⟩, .slice none 0 0, .int .i64 0, .slice none 0 0, .int .i64 0, .string ⟨#[]⟩] 26)).setRow v.heap.size #[.int .i64 6, .string noS, .string noS, .slice ca1 cn cc1, .int .i64 0, .slice da1 0 dc1, .int .i64 0, .string noS] = w3 at *
  generalize v.heap.size = g1 at *
  clear v
  have hq0 : ∀ q, w3.cell? ⟨g1, q, none⟩ = (#[.int .i64 6, .string noS, .string noS, .slice ca1 cn cc1, .int .i64 0, .slice da1 0 dc1, .int .i64 0, .string noS] : Array Value)[q]? := fun q => cell_of_heap (HH3.out.at 0 _ _ rfl) q
  have CX := hid (E2.out ca1 cc1 da1 dc1 _ (HT1_3.out.s hda.out hns.out) HB3.out)
  go_wp2_with fail
  clear hq0
  refine CX.out.mono ?_
  rintro e w4 ⟨a2, n2, c2, rfl, an⟩
  have HH4 := hid (HH3.out.below an.out.2.2)
  have HB4 := hid (bstep HB3.out an.out.2.2)
  have HT1_4 := hid (HT1_3.out.below an.out.2.2)
  have HP1_4 := hid (Part.ok_below HP1_3.out an.out.2.2)
  have z34 : w3.heap.size ≤ w4.heap.size := an.out.2.2.size
  clear CX HH3 HB3 HT1_3
  clear E2 D1
  have v1 := conv_part ⟨a1, c1, Y⟩ w4 HP1_4.out
  have v2 := an.out.1.conv0 hbd.out
  simp only [Part.val] at v1
  have st1 := str_same (strOfNums Y)
  generalize strOfNums Y = X at *
  clear an
  have hq0 : ∀ q, w4.cell? ⟨w.heap.size, q, none⟩ = (#[.int .i64 6, .string fl, .string md, .slice ca cn cc, .int .i64 bk, .slice da dn dc, .int .i64 cd, .string tx] : Array Value)[q]? := fun q => cell_of_heap (HH4.out.at 2 _ _ rfl) q
  have hq1 : ∀ q, w4.cell? ⟨g1, q, none⟩ = (#[.int .i64 6, .string noS, .string noS, .slice ca1 cn cc1, .int .i64 0, .slice da1 0 dc1, .int .i64 0, .string noS] : Array Value)[q]? := fun q => cell_of_heap (HH4.out.at 0 _ _ rfl) q
  have CX := hid (CS.out ca1 cc1 w4 (HT1_4.out.r hda.out).ch HB4.out)
  go_wp2_with fail
  clear hq0 hq1
  refine CX.out.mono ?_
  rintro e w5 ⟨rfl, hb⟩
  have HH5 := hid (HH4.out.below hb.out)
  have HB5 := hid (bstep HB4.out hb.out)
  have HT1_5 := hid (HT1_4.out.below hb.out)
  have z45 : w4.heap.size ≤ w5.heap.size := hb.out.size
  clear CX HH4 HB4 HT1_4
  clear hb v1 v2 st1 CS HP1_4
  have D3x := hid (D3.out _ HB5.out)
  generalize decQ ys = Z at *
  generalize decE ys = R at *
  rcases HQ2.out with ⟨rfl, hR⟩ | ⟨rfl, hZm, hZn⟩
  · have hRb : (R == 0) = false := by simpa using hR
    clear hR HQ2 E4 D3
    simp only [Tp.nil, noS, List.length_nil] at D3x
    have hq0 : ∀ q, w5.cell? ⟨w.heap.size, q, none⟩ = (#[.int .i64 6, .string fl, .string md, .slice ca cn cc, .int .i64 bk, .slice da dn dc, .int .i64 cd, .string tx] : Array Value)[q]? := fun q => cell_of_heap (HH5.out.at 2 _ _ rfl) q
    have CD := hid (D3x.out)
    go_upto_region 18 with (first
      | (go_at_call 17; refine CD.out.mono ?_; go_loud (rintro e v ⟨ca2, cc2, da2, dc2, rfl, HO⟩))
      | (refine wpList_store_row rfl 26 _ _ rfl v.heap.size #[.int .i64 0, .string ⟨#[]⟩, .string ⟨#[]⟩, .slice ca2 0 cc2, .int .i64 0, .slice da2 0 dc2, .int .i64 0, .string ⟨#[]⟩] rfl rfl 26 _ (heap_new v _) (by kernel_rfl) rfl (by first | kernel_rfl | simp [Value.oneCell']) ?_)
      | fail)
    clear hq0
    have hsr : ((v.alloc (.cells #[.int .i64 0, .string ⟨#[]⟩, .string ⟨#[]⟩, .slice none 0 0, .int .i64 0, .slice none 0 0, .int .i64 0, .string ⟨#[]⟩] 26)).setRow v.heap.size #[.int .i64 0, .string ⟨#[]⟩, .string ⟨#[]⟩, .slice ca2 0 cc2, .int .i64 0, .slice da2 0 dc2, .int .i64 0, .string ⟨#[]⟩]).heap[v.heap.size]? = some (.cells #[.int .i64 0, .string ⟨#[]⟩, .string ⟨#[]⟩, .slice ca2 0 cc2, .int .i64 0, .slice da2 0 dc2, .int .i64 0, .string ⟨#[]⟩] 26 (0, 0)) := setRow_heap _ _ _ _ _ _ (heap_new v _)
    have hbb : Below v.heap.size v ((v.alloc (.cells #[.int .i64 0, .string ⟨#[]⟩, .string ⟨#[]⟩, .slice none 0 0, .int .i64 0, .slice none 0 0, .int .i64 0, .string ⟨#[]⟩] 26)).setRow v.heap.size #[.int .i64 0, .string ⟨#[]⟩, .string ⟨#[]⟩, .slice ca2 0 cc2, .int .i64 0, .slice da2 0 dc2, .int .i64 0, .string ⟨#[]⟩]) := bbut (bpush (Below.refl _ _) _) (But.setRow _ _ _) (Nat.le_refl _)
    have hbo := HO.out.below
    have HH6 := hid (((HH5.out.below hbo).below hbb).cons hsr)
    have HB6 := hid (bstep (bstep HB5.out hbo) hbb)
    have HT1_6 := hid ((HT1_5.out.below hbo).below hbb)
    have HT2_6 := hid (HO.out.k.below hbb)
    have z5v2 : w5.heap.size ≤ v.heap.size := hbo.size
    have zv6 : v.heap.size < ((v.alloc (.cells #[.int .i64 0, .string ⟨#[]⟩, .string ⟨#[]⟩, .slice none 0 0, .int .i64 0, .slice none 0 0, .int .i64 0, .string ⟨#[]⟩] 26)).setRow v.heap.size #[.int .i64 0, .string ⟨#[]⟩, .string ⟨#[]⟩, .slice ca2 0 cc2, .int .i64 0, .slice da2 0 dc2, .int .i64 0, .string ⟨#[]⟩]).heap.size := heap_lt hsr
    clear CD HO hsr hbb hbo HH5 HB5 HT1_5 
    generalize (v.alloc (.cells #[.int .i64 0, .string ⟨#[]⟩, .string ⟨#[]⟩, .slice none 0 0, .int .i64 0, .slice none 0 0, .int .i64 0, .string ⟨#[]⟩] 26)).setRow v.heap.size #[.int .i64 0, .string ⟨#[]⟩, .string ⟨#[]⟩, .slice ca2 0 cc2, .int .i64 0, .slice da2 0 dc2, .int .i64 0, .string ⟨#[]⟩] = w6 at *
    generalize v.heap.size = g2 at *
    clear v
    have hq0 : ∀ q, w6.cell? ⟨w.heap.size, q, none⟩ = (#[.int .i64 6, .string fl, .string md, .slice ca cn cc, .int .i64 bk, .slice da dn dc, .int .i64 cd, .string tx] : Array Value)[q]? := fun q => cell_of_heap (HH6.out.at 3 _ _ rfl) q
    have hq1 : ∀ q, w6.cell? ⟨w.heap.size + 1, q, none⟩ = (#[.int .i64 ob, .int .i64 ow, .int .i64 os, .int .i64 om, .string on] : Array Value)[q]? := fun q => cell_of_heap (HH6.out.at 2 _ _ rfl) q
    have CX := hid (PA.out _ HB6.out)
    go_wp2_with fail
    clear hq0 hq1
    refine CX.out.mono ?_
    rintro e w7 ⟨a4, n4, c4, rfl, hr⟩
    have HH7 := hid (HH6.out.below hr.out.below)
    have HB7 := hid (bstep HB6.out hr.out.below)
    have HT1_7 := hid (HT1_6.out.below hr.out.below)
    have HT2_7 := hid (HT2_6.out.below hr.out.below)
    have HV4 := hr.out.chv
    have HC4 := hr.out.cap
    have z67 : w6.heap.size ≤ w7.heap.size := hr.out.below.size
    clear CX HH6 HB6 HT1_6 HT2_6
    obtain ⟨e4, hv4⟩ := HV4
    subst e4
    have HV_7 := hid hv4
    clear hv4 hr PA
    have hq0 : ∀ q, w7.cell? ⟨w.heap.size, q, none⟩ = (#[.int .i64 6, .string fl, .string md, .slice ca cn cc, .int .i64 bk, .slice da dn dc, .int .i64 cd, .string tx] : Array Value)[q]? := fun q => cell_of_heap (HH7.out.at 3 _ _ rfl) q
    have hq1 : ∀ q, w7.cell? ⟨w.heap.size + 1, q, none⟩ = (#[.int .i64 ob, .int .i64 ow, .int .i64 os, .int .i64 om, .string on] : Array Value)[q]? := fun q => cell_of_heap (HH7.out.at 2 _ _ rfl) q
    have CX := hid (PC.out a4 c4 _ HV_7.out HC4 HB7.out)
    go_wp2_with fail
    clear hq0 hq1
    refine CX.out.mono ?_
    rintro e w8 ⟨rfl, hb⟩
    have HH8 := hid (HH7.out.below hb.out)
    have HB8 := hid (bstep HB7.out hb.out)
    have HT1_8 := hid (HT1_7.out.below hb.out)
    have HT2_8 := hid (HT2_7.out.below hb.out)
    have HV_8 := hid (HV_7.out.below hb.out)
    have z78 : w7.heap.size ≤ w8.heap.size := hb.out.size
    clear CX HH7 HB7 HT1_7 HT2_7
    clear hb PC
    have CX := hid (PE.out a4 c4 _ HV_8.out HC4 HB8.out)
    go_wp2_with fail
    refine CX.out.mono ?_
    rintro e w9 ⟨a5, n5, c5, rfl, an⟩
    have HH9 := hid (HH8.out.below an.out.2.2)
    have HB9 := hid (bstep HB8.out an.out.2.2)
    have HT1_9 := hid (HT1_8.out.below an.out.2.2)
    have HT2_9 := hid (HT2_8.out.below an.out.2.2)
    have HV_9 := hid (HV_8.out.below an.out.2.2)
    have z89 : w8.heap.size ≤ w9.heap.size := an.out.2.2.size
    clear CX HH8 HB8 HT1_8 HT2_8
    clear an PE
    have CX := hid (PW.out a4 c4 _ HV_9.out)
    go_wp2_with fail
    refine CX.out.mono ?_
    rintro e w10 ⟨rfl, hb⟩
    have HB10 := hid (bstep HB9.out hb.out)
    clear CX PW hb
    have hb1 := hbl.out.1
    have hb2 := hbl.out.2
    have hadd := HADh.out
    cases wb
    · simp only [Bool.false_eq_true, if_false] at hadd
      subst hadd
      go_wp2_with fail
      go_ret
      exact ⟨rfl, HB10.out⟩
    · simp only [if_true] at hadd
      subst hadd
      go_wp2_with fail
      go_ret
      exact ⟨rfl, HB10.out⟩
  · have hZs := norm_sz hZm
    rw [hZn] at hZs
    have hZd := enc_dec hZm
    rw [hZn] at hZd
    have HZL := enc_len hZm
    have HZS := hid hZs
    have HZB := hid (enc_bd Z PZ.out.2.2)
    have D4 : Hid (∀ a c w', Part.ok w' ⟨a, c, Z.enc⟩ → Below w.heap.size w w' → _) := fun a c w' hp hb => decode_any ⟨a, c, Z.enc⟩ w' (HENV.out w' hb) hp (by simp only; omega)
    simp only [Part.val] at D4
    rw [hZd.1, hZd.2] at D4
    rw [if_pos hZm, hZm] at E4
    have SZ : Hid (∀ w' ca cc da dc ca' cc' da' dc', TpR Z ca da dc w' → TpR Z ca' da' dc' w' → _) := fun w' ca cc da dc ca' cc' da' dc' h1 h2 => same_yes Z ca ca' cc cc' da da' dc dc' w' h1 h2 (by have := PZ.out.1; omega)
    clear hZs hZd HZL hZm hZn HQ2 D3
    generalize Z.enc = Y2 at *
    obtain ⟨xop, xfl, xmd, xch, xbk, xdl, xcd, xtx⟩ := Z
    simp only [tpC, Part.val] at *
    have HXN : Hid (∃ n, n = xch.length) := ⟨_, rfl⟩
    obtain ⟨xn, hxn⟩ := HXN.out
    obtain ⟨xm, hxm⟩ : ∃ n, n = xdl.length := ⟨_, rfl⟩
    rw [← hxn, ← hxm] at D3x D4 E4 SZ
    have HNX := hid hxn
    have HMX := hid hxm
    clear hxn hxm HXN
    have hq0 : ∀ q, w5.cell? ⟨w.heap.size, q, none⟩ = (#[.int .i64 6, .string fl, .string md, .slice ca cn cc, .int .i64 bk, .slice da dn dc, .int .i64 cd, .string tx] : Array Value)[q]? := fun q => cell_of_heap (HH5.out.at 2 _ _ rfl) q
    have CD := hid (D3x.out)
    go_upto_region 18 with (first
      | (go_at_call 17; refine CD.out.mono ?_; go_loud (rintro e v ⟨ca2, cc2, da2, dc2, rfl, HO⟩))
      | (refine wpList_store_row rfl 26 _ _ rfl v.heap.size #[.int .i64 xop, .string xfl, .string xmd, .slice ca2 xn cc2, .int .i64 xbk, .slice da2 xm dc2, .int .i64 xcd, .string xtx] rfl rfl 26 _ (heap_new v _) (by kernel_rfl) rfl (by first | kernel_rfl | simp [Value.oneCell']) ?_)
      | fail)
    clear hq0
    have hsr : ((v.alloc (.cells #[.int .i64 0, .string ⟨#[]⟩, .string ⟨#[]⟩, .slice none 0 0, .int .i64 0, .slice none 0 0, .int .i64 0, .string ⟨#[]⟩] 26)).setRow v.heap.size #[.int .i64 xop, .string xfl, .string xmd, .slice ca2 xn cc2, .int .i64 xbk, .slice da2 xm dc2, .int .i64 xcd, .string xtx]).heap[v.heap.size]? = some (.cells #[.int .i64 xop, .string xfl, .string xmd, .slice ca2 xn cc2, .int .i64 xbk, .slice da2 xm dc2, .int .i64 xcd, .string xtx] 26 (0, 0)) := setRow_heap _ _ _ _ _ _ (heap_new v _)
    have hbb : Below v.heap.size v ((v.alloc (.cells #[.int .i64 0, .string ⟨#[]⟩, .string ⟨#[]⟩, .slice none 0 0, .int .i64 0, .slice none 0 0, .int .i64 0, .string ⟨#[]⟩] 26)).setRow v.heap.size #[.int .i64 xop, .string xfl, .string xmd, .slice ca2 xn cc2, .int .i64 xbk, .slice da2 xm dc2, .int .i64 xcd, .string xtx]) := bbut (bpush (Below.refl _ _) _) (But.setRow _ _ _) (Nat.le_refl _)
    have hbo := HO.out.below
    have HH6 := hid (((HH5.out.below hbo).below hbb).cons hsr)
    have HB6 := hid (bstep (bstep HB5.out hbo) hbb)
    have HT1_6 := hid ((HT1_5.out.below hbo).below hbb)
    have HT2_6 := hid (HO.out.k.below hbb)
    have z5v2 : w5.heap.size ≤ v.heap.size := hbo.size
    have zv6 : v.heap.size < ((v.alloc (.cells #[.int .i64 0, .string ⟨#[]⟩, .string ⟨#[]⟩, .slice none 0 0, .int .i64 0, .slice none 0 0, .int .i64 0, .string ⟨#[]⟩] 26)).setRow v.heap.size #[.int .i64 xop, .string xfl, .string xmd, .slice ca2 xn cc2, .int .i64 xbk, .slice da2 xm dc2, .int .i64 xcd, .string xtx]).heap.size := heap_lt hsr
    clear CD HO hsr hbb hbo HH5 HB5 HT1_5 
    generalize (v.alloc (.cells #[.int .i64 0, .string ⟨#[]⟩, .string ⟨#[]⟩, .slice none 0 0, .int .i64 0, .slice none 0 0, .int .i64 0, .string ⟨#[]⟩] 26)).setRow v.heap.size #[.int .i64 xop, .string xfl, .string xmd, .slice ca2 xn cc2, .int .i64 xbk, .slice da2 xm dc2, .int .i64 xcd, .string xtx] = w6 at *
    generalize v.heap.size = g2 at *
    clear v
    have hq0 : ∀ q, w6.cell? ⟨g2, q, none⟩ = (#[.int .i64 xop, .string xfl, .string xmd, .slice ca2 xn cc2, .int .i64 xbk, .slice da2 xm dc2, .int .i64 xcd, .string xtx] : Array Value)[q]? := fun q => cell_of_heap (HH6.out.at 0 _ _ rfl) q
    have CX := hid (E4.out ca2 cc2 da2 dc2 _ (HT2_6.out.s PZ.out.2.2 HZS.out) HB6.out)
    go_wp2_with fail
    clear hq0
    refine CX.out.mono ?_
    rintro e w7 ⟨a3, n3, c3, rfl, an⟩
    have HH7 := hid (HH6.out.below an.out.2.2)
    have HB7 := hid (bstep HB6.out an.out.2.2)
    have HT1_7 := hid (HT1_6.out.below an.out.2.2)
    have HT2_7 := hid (HT2_6.out.below an.out.2.2)
    obtain ⟨en3, hp3⟩ := Ans.part an.out HZB.out
    have HP3_7 := hid hp3
    clear hp3
    have z67 : w6.heap.size ≤ w7.heap.size := an.out.2.2.size
    clear CX HH6 HB6 HT1_6 HT2_6
    subst en3
    clear an E4 D3x
    have CD := hid (D4.out a3 c3 _ HP3_7.out HB7.out)
    go_upto_region 21 with (first
      | (go_at_call 17; refine CD.out.mono ?_; go_loud (rintro e v ⟨ca3, cc3, da3, dc3, rfl, HO⟩))
      | (refine wpList_store_row rfl 26 _ _ rfl v.heap.size #[.int .i64 xop, .string xfl, .string xmd, .slice ca3 xn cc3, .int .i64 xbk, .slice da3 xm dc3, .int .i64 xcd, .string xtx] rfl rfl 26 _ (heap_new v _) (by kernel_rfl) rfl (by first | kernel_rfl | simp [Value.oneCell']) ?_)
      | fail)
    have hsr : ((v.alloc (.cells #[.int .i64 0, .string ⟨#[]⟩, .string ⟨#[]⟩, .slice none 0 0, .int .i64 0, .slice none 0 0, .int .i64 0, .string ⟨#[]⟩] 26)).setRow v.heap.size #[.int .i64 xop, .string xfl, .string xmd, .slice ca3 xn cc3, .int .i64 xbk, .slice da3 xm dc3, .int .i64 xcd, .string xtx]).heap[v.heap.size]? = some (.cells #[.int .i64 xop, .string xfl, .string xmd, .slice ca3 xn cc3, .int .i64 xbk, .slice da3 xm dc3, .int .i64 xcd, .string xtx] 26 (0, 0)) := setRow_heap _ _ _ _ _ _ (heap_new v _)
    have hbb : Below v.heap.size v ((v.alloc (.cells #[.int .i64 0, .string ⟨#[]⟩, .string ⟨#[]⟩, .slice none 0 0, .int .i64 0, .slice none 0 0, .int .i64 0, .string ⟨#[]⟩] 26)).setRow v.heap.size #[.int .i64 xop, .string xfl, .string xmd, .slice ca3 xn cc3, .int .i64 xbk, .slice da3 xm dc3, .int .i64 xcd, .string xtx]) := bbut (bpush (Below.refl _ _) _) (But.setRow _ _ _) (Nat.le_refl _)
    have hbo := HO.out.below
    have HH8 := hid (((HH7.out.below hbo).below hbb).cons hsr)
    have HB8 := hid (bstep (bstep HB7.out hbo) hbb)
    have HT1_8 := hid ((HT1_7.out.below hbo).below hbb)
    have HT2_8 := hid ((HT2_7.out.below hbo).below hbb)
    have HP3_8 := hid (Part.ok_below (Part.ok_below HP3_7.out hbo) hbb)
    have HT3_8 := hid (HO.out.k.below hbb)
    have z7v3 : w7.heap.size ≤ v.heap.size := hbo.size
    have zv8 : v.heap.size < ((v.alloc (.cells #[.int .i64 0, .string ⟨#[]⟩, .string ⟨#[]⟩, .slice none 0 0, .int .i64 0, .slice none 0 0, .int .i64 0, .string ⟨#[]⟩] 26)).setRow v.heap.size #[.int .i64 xop, .string xfl, .string xmd, .slice ca3 xn cc3, .int .i64 xbk, .slice da3 xm dc3, .int .i64 xcd, .string xtx]).heap.size := heap_lt hsr
    clear CD HO hsr hbb hbo HH7 HB7 HT1_7 HT2_7 HP3_7
    generalize (v.alloc (.cells #[.int .i64 0, .string ⟨#[]⟩, .string ⟨#[]⟩, .slice none 0 0, .int .i64 0, .slice none 0 0, .int .i64 0, .string ⟨#[]⟩] 26)).setRow v.heap.size #[.int .i64 xop, .string xfl, .string xmd, .slice ca3 xn cc3, .int .i64 xbk, .slice da3 xm dc3, .int .i64 xcd, .string xtx] = w8 at *
    generalize v.heap.size = g3 at *
    clear v
    have hq0 : ∀ q, w8.cell? ⟨g3, q, none⟩ = (#[.int .i64 xop, .string xfl, .string xmd, .slice ca3 xn cc3, .int .i64 xbk, .slice da3 xm dc3, .int .i64 xcd, .string xtx] : Array Value)[q]? := fun q => cell_of_heap (HH8.out.at 0 _ _ rfl) q
    have hq1 : ∀ q, w8.cell? ⟨g2, q, none⟩ = (#[.int .i64 xop, .string xfl, .string xmd, .slice ca2 xn cc2, .int .i64 xbk, .slice da2 xm dc2, .int .i64 xcd, .string xtx] : Array Value)[q]? := fun q => cell_of_heap (HH8.out.at 1 _ _ rfl) q
    have CX := hid (SZ.out _ ca3 cc3 da3 dc3 ca2 cc2 da2 dc2 (HT3_8.out.r PZ.out.2.2) (HT2_8.out.r PZ.out.2.2))
    go_wp2_with fail
    clear hq0 hq1
    refine CX.out.mono ?_
    rintro e w9 ⟨rfl, hb⟩
    have HH9 := hid (HH8.out.below hb.out)
    have HB9 := hid (bstep HB8.out hb.out)
    have HT1_9 := hid (HT1_8.out.below hb.out)
    have HT2_9 := hid (HT2_8.out.below hb.out)
    have HT3_9 := hid (HT3_8.out.below hb.out)
    have z89 : w8.heap.size ≤ w9.heap.size := hb.out.size
    clear CX HH8 HB8 HT1_8 HT2_8 HT3_8
    clear hb SZ D4
    have hq0 : ∀ q, w9.cell? ⟨w.heap.size, q, none⟩ = (#[.int .i64 6, .string fl, .string md, .slice ca cn cc, .int .i64 bk, .slice da dn dc, .int .i64 cd, .string tx] : Array Value)[q]? := fun q => cell_of_heap (HH9.out.at 4 _ _ rfl) q
    have hq1 : ∀ q, w9.cell? ⟨w.heap.size + 1, q, none⟩ = (#[.int .i64 ob, .int .i64 ow, .int .i64 os, .int .i64 om, .string on] : Array Value)[q]? := fun q => cell_of_heap (HH9.out.at 3 _ _ rfl) q
    have CX := hid (PA.out _ HB9.out)
    go_wp2_with fail
    clear hq0 hq1
    refine CX.out.mono ?_
    rintro e w10 ⟨a4, n4, c4, rfl, hr⟩
    have HH10 := hid (HH9.out.below hr.out.below)
    have HB10 := hid (bstep HB9.out hr.out.below)
    have HT1_10 := hid (HT1_9.out.below hr.out.below)
    have HT2_10 := hid (HT2_9.out.below hr.out.below)
    have HT3_10 := hid (HT3_9.out.below hr.out.below)
    have HV4 := hr.out.chv
    have HC4 := hr.out.cap
    have z910 : w9.heap.size ≤ w10.heap.size := hr.out.below.size
    clear CX HH9 HB9 HT1_9 HT2_9 HT3_9
    obtain ⟨e4, hv4⟩ := HV4
    subst e4
    have HV_10 := hid hv4
    clear hv4 hr PA
    have hq0 : ∀ q, w10.cell? ⟨w.heap.size, q, none⟩ = (#[.int .i64 6, .string fl, .string md, .slice ca cn cc, .int .i64 bk, .slice da dn dc, .int .i64 cd, .string tx] : Array Value)[q]? := fun q => cell_of_heap (HH10.out.at 4 _ _ rfl) q
    have hq1 : ∀ q, w10.cell? ⟨w.heap.size + 1, q, none⟩ = (#[.int .i64 ob, .int .i64 ow, .int .i64 os, .int .i64 om, .string on] : Array Value)[q]? := fun q => cell_of_heap (HH10.out.at 3 _ _ rfl) q
    have CX := hid (PC.out a4 c4 _ HV_10.out HC4 HB10.out)
    go_wp2_with fail
    clear hq0 hq1
    refine CX.out.mono ?_
    rintro e w11 ⟨rfl, hb⟩
    have HH11 := hid (HH10.out.below hb.out)
    have HB11 := hid (bstep HB10.out hb.out)
    have HT1_11 := hid (HT1_10.out.below hb.out)
    have HT2_11 := hid (HT2_10.out.below hb.out)
    have HT3_11 := hid (HT3_10.out.below hb.out)
    have HV_11 := hid (HV_10.out.below hb.out)
    have z1011 : w10.heap.size ≤ w11.heap.size := hb.out.size
    clear CX HH10 HB10 HT1_10 HT2_10 HT3_10
    clear hb PC
    have CX := hid (PE.out a4 c4 _ HV_11.out HC4 HB11.out)
    go_wp2_with fail
    refine CX.out.mono ?_
    rintro e w12 ⟨a5, n5, c5, rfl, an⟩
    have HH12 := hid (HH11.out.below an.out.2.2)
    have HB12 := hid (bstep HB11.out an.out.2.2)
    have HT1_12 := hid (HT1_11.out.below an.out.2.2)
    have HT2_12 := hid (HT2_11.out.below an.out.2.2)
    have HT3_12 := hid (HT3_11.out.below an.out.2.2)
    have HV_12 := hid (HV_11.out.below an.out.2.2)
    have z1112 : w11.heap.size ≤ w12.heap.size := an.out.2.2.size
    clear CX HH11 HB11 HT1_11 HT2_11 HT3_11
    clear an PE
    have CX := hid (PW.out a4 c4 _ HV_12.out)
    go_wp2_with fail
    refine CX.out.mono ?_
    rintro e w13 ⟨rfl, hb⟩
    have HB13 := hid (bstep HB12.out hb.out)
    clear CX PW hb
    have hb1 := hbl.out.1
    have hb2 := hbl.out.2
    have hadd := HADh.out
    cases wb
    · simp only [Bool.false_eq_true, if_false] at hadd
      subst hadd
      go_wp2_with fail
      go_ret
      exact ⟨rfl, HB13.out⟩
    · simp only [if_true] at hadd
      subst hadd
      go_wp2_with fail
      go_ret
      exact ⟨rfl, HB13.out⟩
end Go.Proofs.YtdcppiknomoigaaDoor
