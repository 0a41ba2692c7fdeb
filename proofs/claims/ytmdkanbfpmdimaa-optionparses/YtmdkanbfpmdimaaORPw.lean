/-
  The contract of the document's Parse.
-/
import Derived.Test.YtmdkanbfpmdimaaORPar
namespace Go.Proofs.Ytmdkanbfpmdimaa
open Go.RowKit
set_option linter.all false

/-- while parts are read: what is gathered. -/
def PJ (w wr : World) (v : Value) (E : List (Opt × Value)) : Prop := OwnO w.heap.size wr v E ∧ Took (codes E) ∧ Below w.heap.size w wr
set_option maxRecDepth 20000 in
set_option maxHeartbeats 8000000 in
theorem refParse_any (a : Option Addr) (c : Nat) (ps : List Part) (w : World) (h : PV w a ps) (hn : ps.length ≤ 4398046511104) (hs : sumB (partsZ ps) ≤ 140737488351232) :
    Calls Try.prog 7 #[.slice a ps.length c] w fun e w' => ∃ ax n cx, e = .returned (.tuple #[.slice ax n cx, .int .i64 (exR (parseG [] (partsZ ps)))]) ∧ Hid (ParseI w w' (parseG [] (partsZ ps)) (.slice ax n cx)) := by
  obtain ⟨R, hR⟩ : ∃ R, R = parseG [] (partsZ ps) := ⟨_, rfl⟩
  rw [← hR]
  have HR := hid hR
  obtain ⟨n, hnn⟩ : ∃ n, n = ps.length := ⟨_, rfl⟩
  have HN := hid hnn
  rw [← hnn] at hn ⊢
  have HV := hid h
  have HS := hid hs
  clear h hnn hs hR
  go_enter Try.func7, Try.ntmps7
  go_wp2
  go_loopw [4, 5] (fun v i wr => ∃ (k : Nat) (a' : Option Addr) (n' c' : Nat) (E : List (Opt × Value)), k ≤ n ∧ i = .int .i64 k ∧ v = .slice a' n' c' ∧ Hid (PJ w wr (.slice a' n' c') E ∧ parseG (codes E) (partsZ (ps.drop k)) = R ∧ sumO (codes E) + sumB (partsZ (ps.drop k)) ≤ 140737488351232)) (fun _ i _ => n - (intOf i).toNat)
  case atStart => exact ⟨0, none, 0, 0, [], Nat.zero_le _, rfl, rfl, ⟨OwnO.nil _ _, took_nil, Below.refl _ _⟩, HR.out.symm, by simpa [sumO] using HS.out⟩
  case round =>
    obtain ⟨k, a0, n0, c0', E0, hk, rfl, rfl, HG⟩ := hrel
    by_cases hlt : k < n
    · have hlt' : (k : Int) < n := by omega
      obtain ⟨⟨pa, pc, pz⟩, hp⟩ : ∃ p, ps[k]? = some p := ⟨ps[k]'(by rw [← HN.out]; exact hlt), List.getElem?_eq_getElem _⟩
      obtain ⟨b0, off, ea, c0⟩ := (HV.out.below HG.out.1.2.2).cell k _ hp
      simp only [Part.val] at c0
      subst ea
      have hpo := HV.out.oks _ (List.mem_of_getElem? hp)
      have edrop : ps.drop k = ⟨pa, pc, pz⟩ :: ps.drop (k + 1) := by
        have hkl : k < ps.length := (List.getElem?_eq_some_iff.1 hp).1
        rw [List.drop_eq_getElem_cons hkl]
        rw [List.getElem?_eq_getElem hkl] at hp
        simp only [Option.some.injEq] at hp
        rw [hp]
      obtain ⟨g1, g2, g4⟩ := HG.out
      rw [edrop] at g2 g4
      simp only [partsZ, List.map_cons, sumB, List.sum_cons, parseG] at g2 g4
      obtain ⟨R1, hR1⟩ : ∃ R1, R1 = readG (codes E0) pz := ⟨_, rfl⟩
      rw [← hR1] at g2
      have HR1 := hid hR1
      have HG2 := hid g2
      have HI0 : Hid (PJ w wr (.slice a0 n0 c0') E0 ∧ readG (codes E0) (pz.drop 0) = R1 ∧ sumO (codes E0) + (pz.drop 0).length + sumB (partsZ (ps.drop (k + 1))) ≤ 140737488351232) := ⟨g1, by simpa using hR1.symm, by simp only [List.drop_zero, partsZ, sumB]; omega⟩
      have HPO := hid hpo
      have hzl : pz.length ≤ 140737488351232 := by omega
      obtain ⟨l, hl⟩ : ∃ l, l = pz.length := ⟨_, rfl⟩
      have HL := hid hl
      have hcap : l ≤ pc := by rw [hl]; exact hpo.2.1
      rw [← hl] at c0 hzl
      clear hp hpo edrop g1 g2 g4 hR1 hl HG
      go_wp2
      clear c0
      go_loopw [4, 7] (fun v i wr => ∃ (t : Nat) (a' : Option Addr) (n' c' : Nat) (E : List (Opt × Value)), t ≤ l ∧ i = .int .i64 t ∧ v = .slice a' n' c' ∧ Hid (PJ w wr (.slice a' n' c') E ∧ readG (codes E) (pz.drop t) = R1 ∧ sumO (codes E) + (pz.drop t).length + sumB (partsZ (ps.drop (k + 1))) ≤ 140737488351232)) (fun _ i _ => l - (intOf i).toNat)
      case atStart => exact ⟨0, a0, n0, c0', E0, Nat.zero_le _, rfl, rfl, HI0⟩
      case round =>
        clear HI0
        obtain ⟨t, a1, n1, c1, E, ht, rfl, rfl, HI⟩ := hrel
        by_cases htl : t < l
        · have htl' : (t : Int) < l := by omega
          obtain ⟨b, o, hqa⟩ : ∃ b o, pa = some ⟨b, o, none⟩ := by
            rcases HPO.out.2.2 with h | ⟨b, o, ha, _⟩
            · have := HL.out
              simp only at h
              rw [h] at this
              simp at this
              omega
            · exact ⟨b, o, ha⟩
          subst hqa
          have HC : Hid (∀ wx, Below w.heap.size w wx → ∀ j, j < pz.length → wx.cell? ⟨b, o + j, none⟩ = some (.int .u8 (pz.getD j 0))) := fun wx hb j hj => by
            rcases (Part.ok_below HPO.out hb).2.2 with h | ⟨b', o', ha, hc⟩
            · simp only at h
              rw [h] at hj
              simp at hj
            · simp only [Option.some.injEq, Addr.mk.injEq] at ha
              obtain ⟨rfl, rfl, _⟩ := ha
              exact hc j hj
          have htz : t < pz.length := by rw [← HL.out]; exact htl
          obtain ⟨ch, hch⟩ : ∃ ch, ch = pz.getD t 0 := ⟨_, rfl⟩
          have hd : pz.drop t = ch :: pz.drop (t + 1) := by
            rw [List.drop_eq_getElem_cons htz, hch, List.getD_eq_getElem?_getD, List.getElem?_eq_getElem htz]
            rfl
          have hct := HC.out wr HI.out.1.2.2 t htz
          rw [← hch] at hct
          have hcb : 0 ≤ ch ∧ ch ≤ 255 := HPO.out.1 ch (List.mem_of_mem_drop (by rw [hd]; simp))
          have HD := hid hd
          clear hch hd htz
          by_cases h255 : ch = 255
          · subst h255
            have HRE : Hid (R1 = .ok (codes E)) := by
              rw [← HI.out.2.1, HD.out]
              exact readG_end _ _
            have HX : Hid (parseG (codes E) (partsZ (ps.drop (k + 1))) = R ∧ sumO (codes E) + sumB (partsZ (ps.drop (k + 1))) ≤ 140737488351232) := by
              have h1 := HG2.out
              rw [HRE.out] at h1
              exact ⟨h1, by have := HI.out.2.2; omega⟩
            go_wp2
            refine ⟨⟨k + 1, a1, n1, c1, E, by omega, by go_num, rfl, HI.out.1, HX.out.1, HX.out.2⟩, ?_⟩
            simp [intOf]
            omega
          · have hne : (ch != 255) = true := by simpa using h255
            by_cases h0 : ch = 0
            · subst h0
              clear h255
              have HX : Hid (readG (codes E) (pz.drop (t + 1)) = R1 ∧ sumO (codes E) + (pz.drop (t + 1)).length + sumB (partsZ (ps.drop (k + 1))) ≤ 140737488351232) := by
                obtain ⟨h1, h2, h3⟩ := HI.out
                rw [HD.out] at h2 h3
                rw [readG_pad] at h2
                exact ⟨h2, by simp only [List.length_cons] at h3; omega⟩
              go_wp2
              refine ⟨⟨t + 1, a1, n1, c1, E, by omega, by go_num, rfl, HI.out.1, HX.out.1, HX.out.2⟩, ?_⟩
              simp [intOf]
              omega
            · have hne0 : (ch == 0) = false := by simpa using h0
              obtain ⟨q, rfl⟩ : ∃ q : Nat, ch = (q : Int) := ⟨ch.toNat, by omega⟩
              have H0 := hid h0
              have H255 := hid h255
              have hq : q ≤ 255 := by omega
              have HNE1 : Hid (n1 = E.length) := hid (by
                obtain ⟨a', c', e', _⟩ := HI.out.1.1.form
                simp only [Value.slice.injEq] at e'
                exact e'.2.1)
              have HFEW : Hid (E.length ≤ 64) := hid (by have := HI.out.1.2.1.few; simpa [codes] using this)
              obtain ⟨PV, hPV⟩ : ∃ PV : Int, PV = if plc (codes E) q < (codes E).length then (plc (codes E) q : Int) else -1 := ⟨_, rfl⟩
              have HPV := hid hPV
              have CP : Calls Try.prog 21 #[.slice a1 n1 c1, .int .i64 q] wr fun e w' => e = .returned (.int .i64 PV) ∧ w' = wr := by
                have hvv := (HI.out.1.1.view (fun o ho => by
                  have h1 : o.1.2.length ≤ sumO (codes E) := by
                    unfold sumO
                    have : o.1 ∈ codes E := List.mem_map.2 ⟨o, ho, rfl⟩
                    obtain ⟨s, t, hst⟩ := List.append_of_mem this
                    rw [hst]
                    simp
                    omega
                  have := HI.out.2.2
                  omega) (by have := HFEW.out; omega) (fun o ho => by
                  have := HI.out.1.2.1.apart.1 o.1 (List.mem_map.2 ⟨o, ho, rfl⟩)
                  omega)).1
                have := place_any a1 c1 (E.map ptOf) q wr hvv
                rw [List.length_map, ← HNE1.out, plI_plc, ← hPV] at this
                exact this
              have HCP := hid CP
              clear h0 h255 hPV CP
              go_upto_region 12 with (first
                | (go_at_call 21; refine HCP.out.mono ?_; rintro e w2 ⟨rfl, hw2⟩; subst w2)
                | fail)
              clear HCP
              by_cases hlong : noLong (codes E) q
              · go_cut [44, 45, 46, 47, 48, 49, 50] (fun _ _ _ _ _ _ v wx => v = .bool false ∧ wr = wx)
                case first =>
                  by_cases hpl : plc (codes E) q < (codes E).length
                  · have hpv : (0 : Int) ≤ PV := by rw [HPV.out, if_pos hpl]; omega
                    have hpv2 : ¬ PV < 0 := by omega
                    go_wp2_with fail
                    go_meet
                    case rel => exact ⟨rfl, rfl⟩
                  · have hpv2 : PV < 0 := by rw [HPV.out, if_neg hpl]; omega
                    have h64 : ((n1 : Int) == 64) = false := by
                      have h1 := HNE1.out
                      have h2 := hlong
                      unfold noLong at h2
                      simp only [codes, List.length_map] at h2 hpl
                      simp
                      omega
                    go_wp2_with fail
                    go_meet
                    case rel => exact ⟨rfl, rfl⟩
                case rest =>
                  obtain ⟨rfl, rfl⟩ := hcut
                  by_cases hlast : t + 1 = l
                  · have HDN : Hid (pz.drop (t + 1) = []) := hid (List.drop_eq_nil_of_le (by rw [← HL.out]; omega))
                    have hlast' : ((t : Int) + 1 == (l : Int)) = true := by simp; omega
                    have hla2 : (t : Int) + 1 = (l : Int) := by omega
                    have HLA := hid hlast
                    clear hlast
                    have HRE : Hid (R1 = .error 5) := by
                      rw [← HI.out.2.1, HD.out, HDN.out]
                      exact readG_bare H255.out H0.out hlong
                    have HRR : Hid (R = .error 5) := by
                      have h1 := HG2.out
                      rw [HRE.out] at h1
                      exact h1.symm
                    have HBE := hid HI.out.1.2.2
                    clear HI HG2 HRE
                    go_wp2
                    go_ret2
                    exact ⟨none, 0, 0, by rw [HRR.out]; rfl, [], OwnO.nil _ _, by rw [HRR.out]; rfl, HBE.out⟩
                  · have hla2 : ¬ (t : Int) + 1 = (l : Int) := by omega
                    have hlast' : ((t : Int) + 1 == (l : Int)) = false := by simp; omega
                    have htz : t + 1 < pz.length := by rw [← HL.out]; omega
                    obtain ⟨m, hm⟩ : ∃ m, m = pz.getD (t + 1) 0 := ⟨_, rfl⟩
                    have hd2 : pz.drop (t + 1) = m :: pz.drop (t + 2) := by
                      rw [List.drop_eq_getElem_cons htz, hm, List.getD_eq_getElem?_getD, List.getElem?_eq_getElem htz]
                      rfl
                    have hcm := HC.out wr HI.out.1.2.2 (t + 1) htz
                    rw [← hm] at hcm
                    have hmb : 0 ≤ m ∧ m ≤ 255 := HPO.out.1 m (List.mem_of_mem_drop (by rw [hd2]; simp))
                    obtain ⟨mm, rfl⟩ : ∃ mm : Nat, m = (mm : Int) := ⟨m.toNat, by omega⟩
                    have HD2 := hid hd2
                    have htl2 : (t : Int) + 1 < (l : Int) := by omega
                    have htl3 : t + 1 < l := by omega
                    clear hm hd2 htz
                    by_cases hsh : l < t + 2 + mm
                    · have hsh' : (l : Int) < (t : Int) + 1 + 1 + mm := by omega
                      have HRE : Hid (R1 = .error 5) := by
                        rw [← HI.out.2.1, HD.out, HD2.out]
                        exact readG_short H255.out H0.out hlong (by rw [List.length_drop, ← HL.out, Int.toNat_natCast]; omega)
                      have HRR : Hid (R = .error 5) := by
                        have h1 := HG2.out
                        rw [HRE.out] at h1
                        exact h1.symm
                      have HBE := hid HI.out.1.2.2
                      clear HI HG2 HRE
                      go_wp2
                      go_ret2
                      exact ⟨none, 0, 0, by rw [HRR.out]; rfl, [], OwnO.nil _ _, by rw [HRR.out]; rfl, HBE.out⟩
                    · have hsh' : ¬ (l : Int) < (t : Int) + 1 + 1 + mm := by omega
                      obtain ⟨p, hp1, hp2, hp3, hp4⟩ := metE_at E q
                      obtain ⟨K, hK⟩ : ∃ K, K = plc (codes E) q := ⟨_, rfl⟩
                      have HK := hid hK
                      rw [← hK] at hp1 hp3
                      have HP := hid (And.intro hp1 (And.intro hp2 (And.intro hp3 hp4)))
                      clear hp1 hp2 hp3 hp4 hK
                      go_upto_if 69 with fail
                      go_cut [4, 9, 70, 71, 72, 73, 74, 75, 76] (fun v4 v9 _ _ _ _ _ _ _ wx => ∃ (wy : World) (a2 : Option Addr) (n2 c2 : Nat), wy = wx ∧ v4 = .slice a2 n2 c2 ∧ v9 = .int .i64 K ∧ Hid (OwnO w.heap.size wx (.slice a2 n2 c2) (metE E q) ∧ Below w.heap.size w wx))
                      case first =>
                        by_cases hpl : plc (codes E) q < (codes E).length
                        · have hpv2 : ¬ PV < 0 := by rw [HPV.out, if_pos hpl]; omega
                          have hpv3 : PV = K := by rw [HPV.out, if_pos hpl, HK.out]
                          have HME : Hid (metE E q = E) := hid (by unfold metE; rw [if_pos hpl])
                          have HP3 := hid hpv3
                          clear hpv3
                          go_wp2_with fail
                          go_meet
                          case rel => exact ⟨_, a1, n1, c1, rfl, rfl, by rw [HP3.out], by rw [HME.out]; exact ⟨HI.out.1.1, HI.out.1.2.2⟩⟩
                        · have hpv2 : PV < 0 := by rw [HPV.out, if_neg hpl]; omega
                          have HKE : Hid (K = n1) := hid (by
                            have := plc_le (codes E) q
                            rw [HK.out, HNE1.out]
                            simp only [codes, List.length_map] at *
                            omega)
                          have HME : Hid (metE E q = E ++ [(((q : Int), []), .slice none 0 0)]) := hid (by unfold metE; rw [if_neg hpl])
                          obtain ⟨a3, n3, c3, w3, r3, O3, B3⟩ := (HI.out.1.1).app HI.out.1.2.2.size (by have := HFEW.out; omega) (q : Int) [] (.slice none 0 0) (Row.nil _ _) (by simp) (fun b hb => by simp [Value.ownBlock] at hb)
                          have HR3 := hid r3
                          have HO3 := hid (And.intro O3 (HI.out.1.2.2.trans B3))
                          clear r3 O3 B3
                          go_wp2_with (first
                            | (at_builtin; refine wpList_append_run _ rfl _ _ _ _ rfl _ _ rfl rfl HR3.out ?_; clear HR3)
                            | fail)
                          go_meet
                          case rel => exact ⟨_, a3, n3, c3, rfl, rfl, by rw [HKE.out], by rw [HME.out]; exact HO3.out⟩
                      case rest =>
                        obtain ⟨wx, a2, n2, c2, rfl, rfl, rfl, HM⟩ := hcut
                        have HLN := hid hlong
                        clear hcm hct hlong
                        have hcm := HC.out wx HM.out.2 (t + 1) (by rw [← HL.out]; exact htl3)
                        have hmq : pz.getD (t + 1) 0 = (mm : Int) := by
                          have h1 := congrArg (fun x => x.getD 0 0) HD2.out
                          simpa using h1
                        rw [hmq] at hcm
                        clear hmq
                        have hse : (pz.drop (t + 2)).take mm = (pz.drop (t + 1 + 1)).take mm := rfl
                        clear hse
                        have HPT : Hid (Part.ok wx.drew ⟨if pc = t + 1 + 1 then some ⟨b, o, none⟩ else some ⟨b, o + (t + 1 + 1), none⟩, pc - (t + 1 + 1), (pz.drop (t + 2)).take mm⟩) := hid (cut_ok (Part.ok_below HPO.out HM.out.2.drew) (t + 2) mm (by rw [← HL.out]; omega))
                        have HML : Hid (((pz.drop (t + 2)).take mm).length = mm) := hid (by rw [List.length_take, List.length_drop, ← HL.out]; omega)
                        have HLY : Hid (∃ g1 cc da dn dc a4 n4 c4 w2 u, a2 = some ⟨g1, 0, none⟩ ∧ n2 = (metE E q).length ∧ K < n2 ∧ c2 = cc ∧ wx.cell? ⟨g1, K * 2 + 1, none⟩ = some (.slice da dn dc) ∧ (Builtin.append_ #[41, 41] 41 #[.slice da dn dc, .slice (if pc = t + 1 + 1 then some ⟨b, o, none⟩ else some ⟨b, o + (t + 1 + 1), none⟩) mm (pc - (t + 1 + 1))]).run Try.prog wx.drew = .ok (.slice a4 n4 c4) w2 ∧ w2.cell? ⟨g1, K * 2 + 1, none⟩ = some u ∧ w2.frozen? ⟨g1, K * 2 + 1, none⟩ = false ∧
                            Hid (OwnO w.heap.size (w2.setCell ⟨g1, K * 2 + 1, none⟩ (.slice a4 n4 c4)) (.slice a2 n2 c2) ((metE E q).set K ((p.1.1, p.1.2 ++ (pz.drop (t + 2)).take mm), .slice a4 n4 c4)) ∧ Below w.heap.size w (w2.setCell ⟨g1, K * 2 + 1, none⟩ (.slice a4 n4 c4)))) := hid (by
                          obtain ⟨p1, p2, p3, p4⟩ := HP.out
                          have hpm := List.mem_of_getElem? p1
                          have hsum : p.1.2.length ≤ sumO (codes (metE E q)) := by
                            unfold sumO
                            have : p.1 ∈ codes (metE E q) := List.mem_map.2 ⟨p, hpm, rfl⟩
                            obtain ⟨s, t, hst⟩ := List.append_of_mem this
                            rw [hst]
                            simp
                            omega
                          have hkl : K < (metE E q).length := (List.getElem?_eq_some_iff.1 p1).1
                          obtain ⟨g1, cc, da, dc, a4, n4, c4, w2, u, e1, e2, e3, e4, e5, e6, e7⟩ := OwnO.lay (HM.out.1.below (w' := wx.drew) (Below.refl _ _).drew) HM.out.2.size p1 _ HPT.out (by rw [HML.out]; rw [p4] at hsum; have := HI.out.2.2; have := hmb.2; omega)
                          simp only [Value.slice.injEq] at e1
                          obtain ⟨f1, f2, f3⟩ := e1
                          simp only [Part.val, HML.out] at e3
                          exact ⟨g1, cc, da, _, dc, a4, n4, c4, w2, u, f1, f2, by omega, f3, e2, e3, e4, e5, e6, HM.out.2.trans ((Below.refl _ wx).drew.trans e7)⟩)
                        obtain ⟨g1, cc, da, dn, dc, a4, n4, c4, w2, u, rfl, hnm, hKn, rfl, k0, hap, k1, k2, HO⟩ := HLY.out
                        have HAP := hid hap
                        have HNM := hid hnm
                        clear HLY hap hnm
                        have b1 : (t : Int) + 1 + 1 + mm ≤ (l : Int) := by omega
                        have b2 : (t : Int) + 1 + 1 + mm ≤ (pc : Int) := by omega
                        have b3 : t + 1 + 1 + mm ≤ pc := by omega
                        have hKn' : (K : Int) < (n2 : Int) := by omega
                        have b4 : (0 : Int) ≤ (t : Int) + 1 + 1 := by omega
                        have b5 : (t : Int) + 1 + 1 ≤ (t : Int) + 1 + 1 + mm := by omega
                        have b6 : (0 : Int) ≤ (t : Int) + 1 + 1 + mm := by omega
                        have e1 : IntKind.i64.wrap ((t : Int) + 1 + 1) = (t : Int) + 1 + 1 := by simp only [IntKind.wrap_i64]; omega
                        have e2 : IntKind.i64.wrap ((t : Int) + 1 + 1 + mm) = (t : Int) + 1 + 1 + mm := by simp only [IntKind.wrap_i64]; omega
                        have e3 : ((t : Int) + 1 + 1).toNat = t + 1 + 1 := by omega
                        have e4 : ((t : Int) + 1 + 1 + mm).toNat = t + 1 + 1 + mm := by omega
                        have e5 : t + 1 + 1 + mm - (t + 1 + 1) = mm := by omega
                        go_upto_region 20 with fail
                        go_region_law (refine step_append_run rfl (.tmp 88) (.tmp 96) 41 41 rfl _ _ rfl rfl HAP.out ?_)
                        all_goals go_wp2
                        have HRL : Hid (readG (layG (codes E) q ((pz.drop (t + 2)).take mm)) (pz.drop (t + 2 + mm)) = R1) := hid (by
                          have h2 := HI.out.2.1
                          rw [HD.out, HD2.out, readG_lay H255.out H0.out HLN.out (by rw [List.length_drop, ← HL.out, Int.toNat_natCast]; omega), Int.toNat_natCast, List.drop_drop] at h2
                          exact h2)
                        have HCD : Hid (codes ((metE E q).set K ((p.1.1, p.1.2 ++ (pz.drop (t + 2)).take mm), .slice a4 n4 c4)) = layG (codes E) q ((pz.drop (t + 2)).take mm)) := hid (by
                          obtain ⟨p1, p2, p3, p4⟩ := HP.out
                          rw [p2]
                          exact p3 _ _)
                        have HTK : Hid (Took (layG (codes E) q ((pz.drop (t + 2)).take mm))) := hid (took_lay HI.out.1.2.1 (by have := H0.out; have := H255.out; omega) HLN.out (fun z hz => HPO.out.1 z (List.mem_of_mem_drop (List.mem_of_mem_take hz))))
                        refine ⟨⟨t + 2 + mm, some ⟨g1, 0, none⟩, n2, c2, _, by omega, by go_num, rfl, ⟨HO.out.1, by rw [HCD.out]; exact HTK.out, HO.out.2⟩, by rw [HCD.out]; exact HRL.out, ?_⟩, ?_⟩
                        · rw [HCD.out, sumO_lay, HML.out]
                          have h3 := HI.out.2.2
                          rw [List.length_drop] at h3 ⊢
                          have := HL.out
                          omega
                        · simp [intOf]
                          omega
              · have HPN : Hid (PV < 0 ∧ (n1 : Int) = 64 ∧ ((codes E).length ≤ plc (codes E) q ∧ (codes E).length = 64)) := hid (by
                  have h1 := HNE1.out
                  have h2 := Decidable.not_not.1 hlong
                  refine ⟨by rw [HPV.out, if_neg (by omega)]; omega, ?_, h2⟩
                  simp only [codes, List.length_map] at h2
                  omega)
                have hpv2 : PV < 0 := HPN.out.1
                have hn64 : ((n1 : Int) == 64) = true := by simp; exact HPN.out.2.1
                have HRE : Hid (R1 = .error 2) := by
                  rw [← HI.out.2.1, HD.out]
                  exact readG_long H255.out H0.out HPN.out.2.2
                have HRR : Hid (R = .error 2) := by
                  have h1 := HG2.out
                  rw [HRE.out] at h1
                  exact h1.symm
                have HBE := hid HI.out.1.2.2
                clear HI HG2 HRE
                go_wp2
                go_ret2
                exact ⟨none, 0, 0, by rw [HRR.out]; rfl, [], OwnO.nil _ _, by rw [HRR.out]; rfl, HBE.out⟩
        · have hge : ¬ (t : Int) < l := by omega
          have HRE : Hid (R1 = .ok (codes E)) := by
            rw [← HI.out.2.1, List.drop_eq_nil_of_le (by rw [← HL.out]; omega)]
            exact readG_nil _
          have HX : Hid (parseG (codes E) (partsZ (ps.drop (k + 1))) = R ∧ sumO (codes E) + sumB (partsZ (ps.drop (k + 1))) ≤ 140737488351232) := by
            have h1 := HG2.out
            rw [HRE.out] at h1
            exact ⟨h1, by have := HI.out.2.2; omega⟩
          go_wp2
          refine ⟨⟨k + 1, a1, n1, c1, E, by omega, by go_num, rfl, HI.out.1, HX.out.1, HX.out.2⟩, ?_⟩
          simp [intOf]
          omega
    · have hge : ¬ (k : Int) < n := by omega
      have hkn : k = n := by omega
      have HRE : Hid (R = .ok (codes E0)) := hid (by
        rw [← HG.out.2.1, hkn, HN.out]
        simp [partsZ, parseG])
      have HO := hid HG.out.1
      clear HG
      go_wp2
      go_ret2
      exact ⟨a0, _, c0', by rw [HRE.out]; rfl, E0, HO.out.1, by rw [HRE.out]; rfl, HO.out.2.2⟩
end Go.Proofs.Ytmdkanbfpmdimaa
