/-
  The document's Pack into a small room: however many bytes the options have.
-/
import Derived.Test.YtoifblndpcelkaaORPk
namespace Go.Proofs.Ytoifblndpcelkaa
open Go.RowKit
set_option linter.all false

set_option maxRecDepth 20000 in
set_option maxHeartbeats 4000000 in
theorem refPack_small (a : Option Addr) (c : Nat) (os : List OP) (room : Int) (w : World) (h : OV w a os) (hr : -9223372036854775808 ≤ room ∧ room ≤ 9223372036854775807) (hs : (layL (absO os)).length ≤ 36028797018963968) (hrm : room ≤ 90000) :
    Calls Try.prog 25 #[.slice a os.length c, .int .i64 room] w fun e w' => ∃ ax cx, e = .returned (.tuple #[.slice ax (packA (absO os) room).length cx, .int .i64 (packE (absO os) room)]) ∧ Hid (Ans w w' (packA (absO os) room) ax (packA (absO os) room).length cx) := by
  obtain ⟨n, hn⟩ : ∃ n, n = os.length := ⟨_, rfl⟩
  have HN := hid hn
  have hf := h.few
  rw [← hn] at hf ⊢
  have HV := hid h
  have HRM := hid hrm
  have HS := hid hs
  clear h hn hs
  have hmk := fun wx => Go.run_make_row' (P := Try.prog) 88 4 (.bool false) 1 Try.underlying88 infoBl rfl .i64 .i64 255 (by omega) (by omega) wx
  rw [made_bool] at hmk
  have hmk' : ∀ wx : World, (Instr.makeSlice 88 (.int .i64 255) (.int .i64 255)).run Try.prog wx = .ok (.slice (some ⟨wx.heap.size, 0, none⟩) 255 255) (wx.alloc (.cells Z255 4)) := hmk
  clear hmk
  obtain ⟨w1, hw1⟩ : ∃ w1, w1 = w.alloc (.cells Z255 4) := ⟨_, rfl⟩
  have HG1 : Hid (w1.heap[w.heap.size]? = some (.cells Z255 4 (0, 0))) := by rw [hw1]; exact heap_new w _
  have HB1 : Hid (Below w.heap.size w w1) := by rw [hw1]; exact bpush (Below.refl _ _) _
  obtain ⟨gb, hgb⟩ : ∃ gb, gb = w.heap.size := ⟨_, rfl⟩
  have HGB : Hid (w.heap.size ≤ gb) := hid (by omega)
  rw [← hgb] at HG1
  go_enter Try.func25, Try.ntmps25
  go_wp2
  rw [← hw1, ← hgb]
  clear hw1 hgb hmk'
  go_loopw [7] (fun i wr => ∃ k : Nat, k ≤ n ∧ i = .int .i64 k ∧ Hid (Below w.heap.size w wr) ∧ ∃ X, Hid (wr.heap[gb]? = some (.cells X 4 (0, 0))) ∧ Hid (Came (absO (os.take k)) X) ∧ Hid (Apart (absO (os.take k)))) (fun i _ => n - (intOf i).toNat)
  case atStart => exact ⟨0, Nat.zero_le _, rfl, HB1.out, _, HG1.out, Came.nil, apart_nil⟩
  case round =>
    obtain ⟨k, hk, rfl, HB, X, HX, HC, HA⟩ := hrel
    clear HB1 HG1
    by_cases hlt : k < n
    · have hlt' : (k : Int) < n := by omega
      obtain ⟨⟨cd, ad, cp, zs⟩, ho⟩ : ∃ o, os[k]? = some o := ⟨os[k]'(by rw [← HN.out]; exact hlt), List.getElem?_eq_getElem _⟩
      obtain ⟨b, off, ea, c0, c1⟩ := (HV.out.below HB.out).cell k _ ho
      simp only [Part.val] at c0 c1
      subst ea
      have HO := hid ho
      have HT : Hid (absO (os.take (k + 1)) = absO (os.take k) ++ [(cd, zs)]) := absO_take ho
      clear ho c1
      by_cases hin : 1 ≤ cd ∧ cd ≤ 254
      · obtain ⟨h1, h2⟩ := hin
        obtain ⟨q, rfl⟩ : ∃ q : Nat, cd = (q : Int) := ⟨cd.toNat, by omega⟩
        have hq : q < 255 := by omega
        have cq : wr.cell? ⟨gb, q, none⟩ = some (.bool (decide ((q : Int) ∈ (absO (os.take k)).map Prod.fst))) := by rw [cell_of_heap HX.out]; exact HC.out.at_ q hq
        have fq : wr.frozen? ⟨gb, q, none⟩ = false := frozen_of_heap HX.out q
        by_cases hm : (q : Int) ∈ (absO (os.take k)).map Prod.fst
        · have HR : Hid (packE (absO os) room = 150) := hid (by
            unfold packE
            rw [if_neg]
            intro hA
            have := apart_cut (k + 1) hA
            rw [HT.out] at this
            exact (apart_snoc.1 this).2.2 hm)
          have hmd : decide ((q : Int) ∈ (absO (os.take k)).map Prod.fst) = true := by simpa using hm
          rw [hmd] at cq
          clear hm hmd
          go_wp2
          go_ret2
          have e0 := packA_no (L := absO os) (room := room) (by rw [HR.out]; decide)
          exact ⟨none, 0, by rw [HR.out, e0]; rfl, by rw [e0]; exact ans_nil HB.out⟩
        · have hmd : decide ((q : Int) ∈ (absO (os.take k)).map Prod.fst) = false := by simpa using hm
          have HM := hid hm
          rw [hmd] at cq
          clear hm hmd
          go_wp2
          go_roundw
          case rel =>
            refine ⟨k + 1, by omega, by go_num, ?_, X.setIfInBounds q (.bool true), ?_, ?_, ?_⟩
            · exact bbut HB.out (But.setCell gb _ _ _) HGB.out
            · exact heap_setCell HX.out
            · rw [HT.out]; exact HC.out.snoc q zs hq
            · rw [HT.out]; exact apart_snoc.2 ⟨HA.out, ⟨h1, h2⟩, HM.out⟩
          case measure => simp [intOf]; omega
      · have HR : Hid (packE (absO os) room = 150) := hid (by
          unfold packE
          rw [if_neg]
          intro hA
          have := apart_cut (k + 1) hA
          rw [HT.out] at this
          exact hin (apart_snoc.1 this).2.1)
        by_cases h1 : cd < 1
        · clear hin
          go_wp2
          go_ret2
          have e0 := packA_no (L := absO os) (room := room) (by rw [HR.out]; decide)
          exact ⟨none, 0, by rw [HR.out, e0]; rfl, by rw [e0]; exact ans_nil HB.out⟩
        · have h2 : 255 ≤ cd := by omega
          clear hin
          go_wp2
          go_ret2
          have e0 := packA_no (L := absO os) (room := room) (by rw [HR.out]; decide)
          exact ⟨none, 0, by rw [HR.out, e0]; rfl, by rw [e0]; exact ans_nil HB.out⟩
    · have hge : ¬ (k : Int) < n := by omega
      have hkn : k = n := by omega
      have HAP : Hid (Apart (absO os)) := by
        have e : os.take k = os := by rw [hkn, HN.out]; simp
        have := HA.out
        rw [e] at this
        exact this
      clear HX HC HA HGB
      by_cases hm : 64 < n
      · have hm' : (64 : Int) < n := by omega
        have HR : Hid (packE (absO os) room = 2) := hid (by unfold packE; rw [if_pos HAP.out, if_pos (by rw [absO_len, ← HN.out]; exact hm)])
        go_wp2
        go_ret2
        have e0 := packA_no (L := absO os) (room := room) (by rw [HR.out]; decide)
        exact ⟨none, 0, by rw [HR.out, e0]; rfl, by rw [e0]; exact ans_nil HB.out⟩
      · have hm' : ¬ (64 : Int) < n := by omega
        have HLT : Hid (∀ j, (layL (absO (os.take j))).length ≤ 36028797018963968) := fun j => by
          have e1 : absO os = absO (os.take j) ++ absO (os.drop j) := by unfold absO; rw [← List.map_append, List.take_append_drop]
          have e2 := HS.out
          rw [e1, layL_app, List.length_append] at e2
          omega
        go_wp2
        have HBB := HB
        clear HB
        go_loopw [9, 10] (fun t i wr => ∃ j : Nat, j ≤ n ∧ i = .int .i64 j ∧ t = .int .i64 (((layL (absO (os.take j))).length : Int) + 1) ∧ Hid (Below w.heap.size w wr)) (fun _ i _ => n - (intOf i).toNat)
        case atStart => exact ⟨0, Nat.zero_le _, rfl, by simp [absO, layL], HBB⟩
        case round =>
          clear HBB
          obtain ⟨j, hj, rfl, rfl, HB⟩ := hrel
          by_cases hjn : j < n
          · have hjn' : (j : Int) < n := by omega
            obtain ⟨⟨cd, ad, cp, zs⟩, ho⟩ : ∃ o, os[j]? = some o := ⟨os[j]'(by rw [← HN.out]; exact hjn), List.getElem?_eq_getElem _⟩
            obtain ⟨b, off, ea, c0, c1⟩ := (HV.out.below HB.out).cell j _ ho
            simp only [Part.val] at c0 c1
            subst ea
            have hzl := (HV.out.oks _ (List.mem_of_getElem? ho)).2
            simp only at hzl
            have HT : Hid ((layL (absO (os.take (j + 1)))).length = (layL (absO (os.take j))).length + (layO (cd, zs)).length) := hid (by rw [absO_take ho, layL_app, List.length_append]; simp [layL])
            have CZ := osize_any cd ad cp zs wr hzl
            have hl1 := HLT.out j
            have hl2 := HLT.out (j + 1)
            rw [HT.out] at hl2
            generalize (layL (absO (os.take j))).length = LL at *
            generalize (layO (cd, zs)).length = LO at *
            clear ho
            go_wp2_with (first
              | (go_at_call 54; refine CZ.mono ?_; rintro e w2 ⟨rfl, B2⟩))
            go_roundw
            case rel => exact ⟨j + 1, by omega, by go_num, by rw [HT.out]; first | (push_cast; go_num) | (congr 1; omega), bstep HB.out B2.out⟩
            case measure => simp [intOf]; omega
          · have hjn' : ¬ (j : Int) < n := by omega
            have hjj : j = n := by omega
            have HPB : Hid (((layL (absO (os.take j))).length : Int) + 1 = ((packB (absO os)).length : Int)) := hid (by
              rw [hjj, HN.out]
              simp [packB])
            have HNB := HS.out
            rw [HPB.out]
            have hpb : (packB (absO os)).length ≤ 36028797018963969 := by unfold packB; simp; omega
            generalize hPL : (packB (absO os)).length = PL at *
            have HPL := hid hPL
            clear hPL
            by_cases hgt : room < (PL : Int)
            · have HR : Hid (packE (absO os) room = 2) := hid (by unfold packE; rw [if_pos HAP.out, if_neg (by rw [absO_len, ← HN.out]; exact hm), if_pos (by rw [HPL.out]; exact hgt)])
              go_wp2
              go_ret2
              have e0 := packA_no (L := absO os) (room := room) (by rw [HR.out]; decide)
              exact ⟨none, 0, by rw [HR.out, e0]; rfl, by rw [e0]; exact ans_nil HB.out⟩
            · have HLS : Hid ((layL (absO os)).length ≤ 90000) := hid (by
                have e : (packB (absO os)).length = (layL (absO os)).length + 1 := by unfold packB; simp
                have := HPL.out
                have := HRM.out
                omega)
              have HLT2 : Hid (∀ j, (layL (absO (os.take j))).length ≤ 35184372088832) := fun j => by
                have e1 : absO os = absO (os.take j) ++ absO (os.drop j) := by unfold absO; rw [← List.map_append, List.take_append_drop]
                have e2 := HLS.out
                rw [e1, layL_app, List.length_append] at e2
                omega
              have HR : Hid (packE (absO os) room = 0) := hid (by unfold packE; rw [if_pos HAP.out, if_neg (by rw [absO_len, ← HN.out]; exact hm), if_neg (by rw [HPL.out]; exact hgt)])
              go_wp2
              have ho0 : OutR w (layL (absO (os.take 0))) none 0 0 wr := by
                have := OutR.nil w wr HB.out
                simpa [absO, layL] using this
              have HO0 := hid ho0
              clear ho0
              clear HB hj hjn hjn' hjj
              go_loopw [11, 12] (fun v i wr => ∃ (j : Nat) (a' : Option Addr) (n' c' : Nat), j ≤ n ∧ i = .int .i64 j ∧ v = .slice a' n' c' ∧ Hid (OutR w (layL (absO (os.take j))) a' n' c' wr)) (fun _ i _ => n - (intOf i).toNat)
              case atStart => exact ⟨0, none, 0, 0, Nat.zero_le _, rfl, rfl, HO0⟩
              case round =>
                clear HO0
                obtain ⟨j, a1, n1, c1', hj, rfl, rfl, HO1⟩ := hrel
                by_cases hjn : j < n
                · have hjn' : (j : Int) < n := by omega
                  obtain ⟨⟨cd, ad, cp, zs⟩, ho⟩ : ∃ o, os[j]? = some o := ⟨os[j]'(by rw [← HN.out]; exact hjn), List.getElem?_eq_getElem _⟩
                  obtain ⟨b, off, ea, c0, c1⟩ := (HV.out.below HO1.out.2.2).cell j _ ho
                  simp only [Part.val] at c0 c1
                  have HVC : Hid (∀ wx, Below w.heap.size w wx → wx.cell? ⟨b, off + j * 2, none⟩ = some (.int .i64 cd)) := fun wx hx => by
                    obtain ⟨b', off', ea', c0', c1'⟩ := (HV.out.below hx).cell j _ ho
                    rw [ea] at ea'
                    simp only [Option.some.injEq, Addr.mk.injEq] at ea'
                    obtain ⟨rfl, rfl, _⟩ := ea'
                    exact c0'
                  have hok := HV.out.oks _ (List.mem_of_getElem? ho)
                  subst ea
                  have HT : Hid (layL (absO (os.take (j + 1))) = layL (absO (os.take j)) ++ (chop zs).flatMap (layP cd)) := hid (by rw [absO_take ho, layL_app]; simp [layL, layO])
                  have hcb := HAP.out.1 (cd, zs) (by rw [show (cd, zs) = (cd, (⟨ad, cp, zs⟩ : Part).zs) from rfl]; exact List.mem_map.2 ⟨_, List.mem_of_getElem? ho, rfl⟩)
                  obtain ⟨hcb1, hcb2⟩ := hcb
                  simp only at hcb1 hcb2
                  have HOK := hid hok.1
                  have hzl := hok.2
                  simp only at hzl
                  have HLN : Hid ((layL (absO (os.take j)) ++ (chop zs).flatMap (layP cd)).length ≤ 35184372088832) := hid (by rw [← HT.out]; exact HLT2.out (j + 1))
                  clear ho hok
                  go_wp2
                  clear c0 c1
                  go_loopw [11, 13] (fun v d wr => ∃ (q : Part) (a' : Option Addr) (n' c' : Nat) (z' : List Int), v = .slice a' n' c' ∧ d = .slice q.a q.zs.length q.c ∧ q.zs.length ≤ 140737488353280 ∧ Hid (Part.ok w q ∧ OutR w z' a' n' c' wr ∧ z' ++ (chop q.zs).flatMap (layP cd) = layL (absO (os.take j)) ++ (chop zs).flatMap (layP cd))) (fun _ d _ => lenOf d)
                  case atStart => exact ⟨⟨ad, cp, zs⟩, a1, n1, c1', _, rfl, rfl, hzl, HOK.out, HO1.out, rfl⟩
                  case round =>
                    clear HO1 HOK
                    obtain ⟨⟨qa, qc, qz⟩, a2, n2, c2, z2, rfl, rfl, hql, HI⟩ := hrel
                    simp only at hql ⊢
                    have cc0 : wr.cell? ⟨b, off + j * 2, none⟩ = some (.int .i64 cd) := HVC.out wr HI.out.2.1.2.2
                    have hqc : qz.length ≤ qc := HI.out.1.2.1
                    have hcd : cd % 256 = cd := by omega
                    by_cases hlong : qz.length ≤ 255
                    · have hl2 := HLN.out
                      rw [← HI.out.2.2, chop_short hlong] at hl2
                      simp only [List.flatMap_cons, List.flatMap_nil, List.append_nil, List.length_append, layP_len] at hl2
                      obtain ⟨a3, n3, c3, w3, r3, O3⟩ := HI.out.2.1.two cd qz.length (by omega) (by omega) (by omega)
                      obtain ⟨a4, n4, c4, w4, r4, O4⟩ := O3.app ⟨qa, qc, qz⟩ (Part.ok_below HI.out.1 O3.2.2) (by simp; omega)
                      have HR3 := hid r3
                      simp only [Part.val] at r4
                      have HR4 := hid r4
                      have HEND : Hid (OutR w (layL (absO (os.take (j + 1)))) a4 n4 c4 w4) := by
                        rw [HT.out, ← HI.out.2.2, chop_short hlong]
                        simp only [List.flatMap_cons, List.flatMap_nil, List.append_nil]
                        rw [List.append_assoc] at O4
                        exact O4
                      have hql' : ((qz.length : Int)) % 256 = (qz.length : Int) := by omega
                      have hle : (qz.length : Int) ≤ 255 := by omega
                      have hqci : (qz.length : Int) ≤ (qc : Int) := by omega
                      clear r3 r4 O3 O4 hl2
                      generalize qz.length = lq at *
                      cases qa with
                      | none =>
                        go_wp2_with (first
                          | (at_builtin; refine wpList_append_run _ rfl _ _ _ _ rfl _ _ rfl rfl HR3.out ?_; clear HR3)
                          | (at_builtin; refine wpList_append_run _ rfl _ _ _ _ rfl _ _ rfl rfl HR4.out ?_; clear HR4))
                        exact ⟨⟨j + 1, a4, n4, c4, by omega, by go_num, rfl, HEND⟩, by simp [intOf]; omega⟩
                      | some qa =>
                        go_wp2_with (first
                          | (at_builtin; refine wpList_append_run _ rfl _ _ _ _ rfl _ _ rfl rfl HR3.out ?_; clear HR3)
                          | (at_builtin; refine wpList_append_run _ rfl _ _ _ _ rfl _ _ rfl rfl HR4.out ?_; clear HR4))
                        exact ⟨⟨j + 1, a4, n4, c4, by omega, by go_num, rfl, HEND⟩, by simp [intOf]; omega⟩
                    · obtain ⟨b2, o2, hqa⟩ := Part.long HI.out.1 (fun e => by simp only at e; rw [e] at hlong; simp at hlong)
                      simp only at hqa
                      subst hqa
                      have hl2 := HLN.out
                      rw [← HI.out.2.2, chop_long hlong] at hl2
                      have h255 : (qz.take 255).length = 255 := by simp; omega
                      simp only [List.flatMap_cons, List.length_append, layP_len, h255] at hl2
                      obtain ⟨a3, n3, c3, w3, r3, O3⟩ := HI.out.2.1.two cd 255 (by omega) (by omega) (by omega)
                      obtain ⟨a4, n4, c4, w4, r4, O4⟩ := O3.app ⟨some ⟨b2, o2, none⟩, qc, qz.take 255⟩ (Part.ok_below (Part.head_ok HI.out.1 255 (by simp only; omega)) O3.2.2) (by simp only [h255, List.length_append, List.length_cons, List.length_nil]; omega)
                      have HR3 := hid r3
                      simp only [Part.val, h255] at r4
                      have HR4 := hid r4
                      have HEND : Hid (Part.ok w (Part.from ⟨some ⟨b2, o2, none⟩, qc, qz⟩ 255) ∧ OutR w (z2 ++ [cd, 255] ++ qz.take 255) a4 n4 c4 w4 ∧ (z2 ++ [cd, 255] ++ qz.take 255) ++ (chop (qz.drop 255)).flatMap (layP cd) = layL (absO (os.take j)) ++ (chop zs).flatMap (layP cd)) := by
                        refine ⟨Part.from_ok HI.out.1 255 (by simp only; omega), O4, ?_⟩
                        rw [← HI.out.2.2, chop_long hlong, List.flatMap_cons, layP, h255]
                        simp [List.append_assoc]
                      obtain ⟨l2, hl2e⟩ : ∃ l2, qz.length = l2 + 256 := ⟨qz.length - 256, by omega⟩
                      have HLD : Hid ((qz.drop 255).length = l2 + 1) := hid (by rw [List.length_drop, hl2e]; omega)
                      rw [hl2e] at hqc hql ⊢
                      have hgt : ¬ ((l2 : Int) + 256 ≤ 255) := by omega
                      have hgt2 : (255 : Int) < (l2 : Int) + 256 := by omega
                      have hqci : (255 : Int) ≤ (qc : Int) := by omega
                      have hqcn : ¬ qc = 255 := by omega
                      have hq255 : 255 ≤ qc := by omega
                      clear r3 r4 O3 O4 hl2 h255 hl2e
                      go_wp2_with (first
                        | (at_builtin; refine wpList_append_run _ rfl _ _ _ _ rfl _ _ rfl rfl HR3.out ?_; clear HR3)
                        | (at_builtin; refine wpList_append_run _ rfl _ _ _ _ rfl _ _ rfl rfl HR4.out ?_; clear HR4))
                      refine ⟨⟨Part.from ⟨some ⟨b2, o2, none⟩, qc, qz⟩ 255, a4, n4, c4, _, rfl, ?_, ?_, HEND.out⟩, by simp [lenOf]⟩
                      · simp only [Part.from, Option.map_some, HLD.out]
                      · simp only [Part.from, HLD.out]
                        omega
                · have hjj : j = n := by omega
                  have hjn' : ¬ (j : Int) < n := by omega
                  have o1 := HO1.out
                  have etk : os.take j = os := by rw [hjj, HN.out]; simp
                  rw [etk] at o1
                  have hl3 := HLS.out
                  obtain ⟨a4, n4, c4, w4, r4, O4⟩ := o1.one 255 (by omega) (by omega)
                  have HR4 := hid r4
                  have HA4 : Hid (Ans w w4 (packB (absO os)) a4 n4 c4) := O4
                  have hn4 : n4 = (packB (absO os)).length := O4.len
                  have HN4 := hid hn4
                  clear r4 O4 o1 etk hn4
                  go_wp2_with (first
                    | (at_builtin; refine wpList_append_run _ rfl _ _ _ _ rfl _ _ rfl rfl HR4.out ?_; clear HR4))
                  go_ret2
                  have e0 : packA (absO os) room = packB (absO os) := by unfold packA; rw [if_pos HR.out]
                  exact ⟨a4, c4, by rw [HR.out, e0, ← HN4.out]; rfl, by rw [e0, ← HN4.out]; exact HA4.out⟩
end Go.Proofs.Ytoifblndpcelkaa
