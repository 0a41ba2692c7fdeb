/-
  Advance.
-/
import Derived.Test.YthgcjocjkeieaaaWAdvI
namespace Go.Proofs.Ythgcjocjkeieaaa
open Go.RowKit
set_option linter.all false

/-- what an Advance leaves. -/
structure AdvE (w : World) (b m : Nat) (last : Int) (T0 : List Tm) (V0 : Nat → Value) (e : Int) (w' : World) (T : List Tm) (V : Nat → Value) (R : Nat → List Int) (v : Value) (F : List Tm) : Prop where
  wh : WheelW w' b m e last T V R
  inv : Inv e last T R []
  turn : Turn b m w V0 w' V
  fired : Fired T0 e F T
  row : RowF w' v F
  new : ∀ g, v.ownBlock = some g → w.heap.size ≤ g
  off : Off b m V v
/-- at the end the time is set. -/
theorem AdvI.stop {w : World} {b m : Nat} {last : Int} {T0 : List Tm} {V0 : Nat → Value} {e : Int} {wr : World} {n : Int} {T : List Tm} {V : Nat → Value} {R : Nat → List Int} {v : Value} {F : List Tm} (h : AdvI w b m last T0 V0 e wr n T V R v F) (hr : Rising T0) (he : e ≤ 1125899906842624) (hs : ∀ y ∈ T, e < stt y.t (lev n y.t)) (q : Nat) :
    AdvE w b m last T0 V0 e ((wr.drewN q).setCell ⟨b, 0, none⟩ (.int .i64 e)) T V R v F ∧ (wr.drewN q).cell? ⟨b, 0, none⟩ = some (.int .i64 n) ∧ (wr.drewN q).frozen? ⟨b, 0, none⟩ = false := by
  have xq := h.wh.drewN q
  refine ⟨⟨xq.setNow e, h.inv.wait h.le he hs, (h.turn.trans (Turn.drewN _ _ _ _ q)).trans (Turn.but (But.setCell b _ 0 _) (Or.inl rfl)), h.going.done hr (fun y hy => by have := hs y hy; have := stt_le y.t (lev n y.t); omega), ?_, h.new, h.off⟩, xq.box.cNow, xq.box.fr 0⟩
  exact RowS.keep h.row fun g hg => Below.heap_setCell _ _ _ _ (fun e => h.off g hg (Or.inl e))
/-- the time goes to the first slot, which is taken. -/
theorem AdvI.enter {w : World} {b m : Nat} {last : Int} {T0 : List Tm} {V0 : Nat → Value} {e : Int} {wr : World} {n : Int} {T : List Tm} {V : Nat → Value} {R : Nat → List Int} {v : Value} {F : List Tm} (h : AdvI w b m last T0 V0 e wr n T V R v F) (hlen : T.length ≤ 1024) (hall : F.length + T.length = T0.length) {i : Nat} {y : Tm} (f : Front n T R i y) (hs : stt y.t (lev n y.t) ≤ e) (q : Nat)
    {w1 : World} {V1 : Nat → Value} {R1 : Nat → List Int} {pv : Value} {PP : List Int} (ht : TakenI ((wr.drewN q).setCell ⟨b, 0, none⟩ (.int .i64 (stt y.t (lev n y.t)))) b m (stt y.t (lev n y.t)) last T V R i y w1 V1 R1 pv PP) :
    AdvJ w b m last T0 V0 e (mu n T) (lev n y.t) (stt y.t (lev n y.t)) pv PP 0 w1 T V1 R1 v F := by
  have ht0 : Turn b m wr V ((wr.drewN q).setCell ⟨b, 0, none⟩ (.int .i64 (stt y.t (lev n y.t)))) V := (Turn.drewN _ _ _ _ q).trans (Turn.but (But.setCell b _ 0 _) (Or.inl rfl))
  have htt := ht0.trans ht.turn
  obtain ⟨o1, k1⟩ := h.off.turn htt (fun g hg => RowS.lt h.row hg)
  refine ⟨ht.wh, by rw [List.drop_zero]; exact ht.inv, h.turn.trans htt, h.going, hs, RowS.keep h.row k1, h.new, o1, ht.row, ht.off, fun h0 => ?_, ?_, hlen, hall⟩
  · obtain ⟨h1, h2, h3⟩ := f.lowest h.inv h0
    rw [List.drop_zero, ht.near h1]
    exact ⟨h2, h3⟩
  · by_cases h0 : lev n y.t = 0
    · exact Or.inr ⟨h0, rfl, f.mu_near h.inv⟩
    · exact Or.inl (f.mu_lower h.inv h0)
/-- the slot is done. -/
theorem AdvJ.leave {w : World} {b m : Nat} {last : Int} {T0 : List Tm} {V0 : Nat → Value} {e : Int} {M L : Nat} {s : Int} {pv : Value} {PP : List Int} {j : Nat} {wr : World} {T : List Tm} {V : Nat → Value} {R : Nat → List Int} {v : Value} {F : List Tm} (h : AdvJ w b m last T0 V0 e M L s pv PP j wr T V R v F) (hj : PP.length ≤ j) (h0 : 0 < PP.length) : AdvI w b m last T0 V0 e wr s T V R v F ∧ muOf wr b m < M := by
  have hI := h.inv
  rw [List.drop_eq_nil_of_le hj] at hI
  refine ⟨⟨h.wh, hI, h.turn, h.going, h.le, h.row, h.new, h.off⟩, ?_⟩
  rw [h.wh.mu]
  rcases h.mu with h1 | ⟨_, h1, _⟩
  · exact h1
  · omega
set_option maxRecDepth 20000 in
set_option maxHeartbeats 8000000 in
theorem advance_any (b m : Nat) (now last : Int) (T0 : List Tm) (V0 : Nat → Value) (R0 : Nat → List Int) (t : Int) (hl : last ≤ 9223372036854775807) (hT : T0.length ≤ 1024) (w : World) (x : WheelW w b m now last T0 V0 R0) (I : Inv now last T0 R0 []) :
    Calls Try.prog 14 #[.pointer (some ⟨b, 0, none⟩), .int .i64 t] w fun en w' => ∃ ad cap F, en = .returned (.slice ad F.length cap) ∧ ∃ T V R, Hid (AdvE w b m last T0 V0 (cnt now t) w' T V R (.slice ad F.length cap) F) := by
  have hcn := cnt_le I.high t
  have HAs : Hid (Calls Try.prog 28 #[.pointer (some ⟨b, 0, none⟩), .int .i64 t] w fun e w' => e = .returned (.int .i64 (cnt now t)) ∧ w' = w) := asTime_any b m now last T0 V0 R0 t w x
  generalize cnt now t = e at *
  have HX : Hid (AdvI w b m last T0 V0 e w now T0 V0 R0 (.slice none 0 0) []) := ⟨x, I, Turn.refl _ _ _ _, Going.start _ _, hcn.1, RowS.nil _ _ _, fun g hg => by simp [Value.ownBlock] at hg, Off.nil _ _ _⟩
  have HR := hid I.rise
  have HH := hid hcn.2
  have HL := hid hl
  have HT := hid hT
  clear x I hcn hl hT
  go_enter Try.func14, Try.ntmps14
  go_wp2_with (first | (go_at_call 28; refine HAs.out.mono ?_; rintro en w1 ⟨rfl, hw⟩; subst w1) | fail)
  clear HAs
  go_loopw [6, 7, 8, 9, 11] (fun fv _ _ _ _ wr => ∃ (ad : Option Addr) (cap : Nat) (F T : List Tm) (n : Int) (V : Nat → Value) (R : Nat → List Int), fv = .slice ad F.length cap ∧ Hid (AdvI w b m last T0 V0 e wr n T V R (.slice ad F.length cap) F) ∧ Hid (F.length + T.length = T0.length)) (fun _ _ _ _ _ wr => muOf wr b m)
  case atStart => exact ⟨none, 0, [], T0, now, V0, R0, rfl, HX, by simp [Hid]⟩
  case round =>
    clear HX
    obtain ⟨ad, cap, F, T, n, V, R, rfl, HX, HA⟩ := hrel
    have hTl : T.length ≤ 1024 := by have := HT.out; have := HA.out; omega
    have c2 := HX.out.wh.box.cMap
    have hlen := fun ty => HX.out.wh.map.len ty
    by_cases h0 : T.length = 0
    · have hTn : T = [] := List.eq_nil_of_length_eq_zero h0
      obtain ⟨hE, c0, f0⟩ := HX.out.stop HR.out HH.out (by rw [hTn]; simp) 0
      have HE := hid hE
      have c0' : wr.cell? ⟨b, 0, none⟩ = some (.int .i64 n) := c0
      have f0' : wr.frozen? ⟨b, 0, none⟩ = false := f0
      rw [h0] at hlen
      have HE2 : Hid (AdvE w b m last T0 V0 e (wr.setCell ⟨b, 0, none⟩ (.int .i64 e)) T V R (.slice ad F.length cap) F) := HE
      clear c0 f0 hE HE HX HA hTn h0 hTl HR HH HL HT
      go_wp2
      go_ret
      exact ⟨ad, cap, F, rfl, T, V, R, HE2⟩
    · have h1 : (0 : Int) < T.length := by omega
      have HU := hid (upcoming_any b m n last T V R (by omega) wr HX.out.wh HX.out.inv)
      have hF := timerAt
      have HTl := hid hTl
      clear h0 hTl
      have HNX : Hid (∀ i y q, Front n T R i y → (wr.drewN q).cell? ⟨b, 2, none⟩ = some (.map (some m)) ∧ (Instr.lookup 50 (.map (some m)) (.int .i64 y.id) false).run Try.prog (wr.drewN q) = .ok (.agg #[.int .i64 y.t, .int .i64 (tagT T y.id)]) (wr.drewN q) ∧ Calls Try.prog 32 #[.int .i64 y.t, .int .i64 (lev n y.t : Nat)] (wr.drewN q) (fun e w' => e = .returned (.int .i64 (stt y.t (lev n y.t))) ∧ w' = wr.drewN q) ∧ (wr.drewN q).cell? ⟨b, 0, none⟩ = some (.int .i64 n) ∧ (wr.drewN q).frozen? ⟨b, 0, none⟩ = false ∧
          (e < stt y.t (lev n y.t) → AdvE w b m last T0 V0 e ((wr.drewN q).setCell ⟨b, 0, none⟩ (.int .i64 e)) T V R (.slice ad F.length cap) F) ∧
          (stt y.t (lev n y.t) ≤ e → Calls Try.prog 33 #[.pointer (some ⟨b, 0, none⟩), .int .i64 (lev n y.t : Nat)] ((wr.drewN q).setCell ⟨b, 0, none⟩ (.int .i64 (stt y.t (lev n y.t)))) fun en w' => ∃ ad2 cap2 PP, en = .returned (.slice ad2 PP.length cap2) ∧ Hid (0 < PP.length ∧ PP.length ≤ 1024) ∧ ∃ V' R', Hid (AdvJ w b m last T0 V0 e (mu n T) (lev n y.t) (stt y.t (lev n y.t)) (.slice ad2 PP.length cap2) PP 0 w' T V' R' (.slice ad F.length cap) F))) := fun i y q f => by
        have xq := HX.out.wh.drewN q
        have hid1 := HX.out.inv.ids y f.mem
        have hti := HX.out.inv.time y f.mem
        have hlow := HX.out.inv.low
        have hfit : fits y.id := by have := HL.out; unfold fits; omega
        have hlk := xq.map.look hfit
        rw [HX.out.inv.rise.key f.mem] at hlk
        refine ⟨xq.box.cMap, hlk, startOf_any y.t (lev n y.t) (lev_le _ _) (by omega) (by omega) _, xq.box.cNow, xq.box.fr 0, fun hs => (HX.out.stop HR.out HH.out (fun z hz => by have := f.stt_le HX.out.inv hz; omega) q).1, fun hs => ?_⟩
        refine (take_any b m n last T V R i y HL.out HTl.out HX.out.inv f _ (xq.setNow _)).mono ?_
        rintro en w' ⟨ad2, cap2, PP, rfl, V', R', HTk⟩
        exact ⟨ad2, cap2, PP, rfl, ⟨List.length_pos_of_mem HTk.out.has, by have := HTk.out.inv.plen; have := HTl.out; omega⟩, V', R', HX.out.enter HTl.out HA.out f hs q HTk.out⟩
      have HMU : Hid (muOf wr b m = mu n T) := HX.out.wh.mu
      clear HX HA HR HH
      go_wp2_with (first
        | (go_at_call 31; refine HU.out.mono ?_; go_loud (rintro en w1 ⟨i, y, q, rfl, HFr, hw⟩; obtain ⟨d2, hlk, hst, d0, f0, hstop, htake⟩ := HNX.out i y q HFr.out; subst w1; have HST := hid hst; have HSP := hid hstop; have HTK := hid htake; clear hst hstop htake HNX HU HFr c2 hlen; generalize wr.drewN q = wq at *; generalize tagT T y.id = tg at *))
        | (go_at_call 32; refine HST.out.mono ?_; rintro en w2 ⟨rfl, hw⟩; subst w2)
        | fail)
      · go_ret
        exact ⟨ad, cap, F, rfl, T, V, R, HSP.out (by assumption)⟩
      · have HTK2 := hid (HTK.out (by omega))
        clear HTK HSP HST hlk d0 f0 d2
        generalize stt y.t (lev n y.t) = s at *
        generalize lev n y.t = L at *
        generalize mu n T = M at *
        refine HTK2.out.mono ?_
        go_loud (rintro en w3 ⟨ad2, cap2, PP, rfl, HPP, V1, R1, HJ⟩; clear HTK2)
        obtain ⟨g, cg, hg, _⟩ := HJ.out.prow.formI HPP.out.1
        simp only [Value.slice.injEq] at hg
        obtain ⟨rfl, _, rfl⟩ := hg
        obtain ⟨N, hN⟩ : ∃ N, N = PP.length := ⟨_, rfl⟩
        have HN := hid hN
        have hNb : N ≤ 1024 := by have := HPP.out; omega
        rw [← hN] at HJ ⊢
        clear hN
        have hNb2 : (N : Int) ≤ 1024 := by omega
        go_wp2_with fail
        go_loopw [6, 11, 46] (fun fv _ jv wz => ∃ (j : Nat) (ad : Option Addr) (cap : Nat) (F T : List Tm) (V : Nat → Value) (R : Nat → List Int), fv = .slice ad F.length cap ∧ jv = .int .i64 j ∧ Hid (j ≤ N) ∧ Hid (AdvJ w b m last T0 V0 e M L s (.slice (some ⟨g, 0, none⟩) N cap2) PP j wz T V R (.slice ad F.length cap) F)) (fun _ _ jv _ => N - (intOf jv).toNat)
        case atStart => exact ⟨0, ad, cap, F, T, V1, R1, rfl, rfl, Nat.zero_le _, HJ⟩
        case round =>
          clear HJ
          obtain ⟨j, ad3, cap3, F3, T3, V3, R3, rfl, rfl, HJN, HJ⟩ := hrel
          by_cases hj : j < N
          · have hjP : j < PP.length := by rw [← HN.out]; exact hj
            have hj2 : (j : Int) < N := by omega
            have hpr := HJ.out.prow
            have hcj : wr.cell? ⟨g, j, none⟩ = some (.int .i64 (nth PP j)) := by
              rw [HN.out] at hpr
              exact hpr.nthCell hjP
            have hI := HJ.out.inv
            rw [drop_cons hjP] at hI
            have hfit := hI.pfit HL.out (nth PP j) (by simp)
            by_cases hL0 : L = 0
            · have HG : Hid (Calls Try.prog 34 #[.pointer (some ⟨b, 0, none⟩), .int .i64 (nth PP j)] wr fun en w' => ∃ y w2 ad4 cap4, en = .returned (.agg #[.int .i64 y.t, .int .i64 y.id, .int .i64 y.tag]) ∧ (Builtin.append_ #[41, 41] 41 #[.slice ad3 F3.length cap3, .slice (some ⟨w'.heap.size, 0, none⟩) 1 1]).run Try.prog (w'.alloc (.cells #[.int .i64 y.t, .int .i64 y.id, .int .i64 y.tag] 44)) = .ok (.slice ad4 (F3.length + 1) cap4) w2 ∧ Hid (AdvJ w b m last T0 V0 e M L s (.slice (some ⟨g, 0, none⟩) N cap2) PP (j + 1) w2 (del T3 y.id) V3 R3 (.slice ad4 (F3.length + 1) cap4) (F3 ++ [y]))) := by
                refine (goOff_any b m s last T3 V3 R3 (nth PP j) hfit wr HJ.out.wh).mono ?_
                rintro en w' ⟨rfl, HO⟩
                obtain ⟨w2, ad4, cap4, y, k1, k2, k3, hrun, hJ⟩ := HJ.out.off1 hL0 hjP HT.out HO.out
                refine ⟨y, w2, ad4, cap4, by rw [k1, k3, k2], hrun, hJ⟩
              have hLz : ((L : Int) == 0) = true := by simp [hL0]
              clear hI hfit hpr HJ HJN HPP HN hjP hL0
              generalize nth PP j = a at *
              go_wp2_with (first
                | (go_at_call 34; refine HG.out.mono ?_; go_loud (rintro en w4 ⟨y2, w5, ad4, cap4, rfl, hrun, HJ2⟩; have HRUN := hid hrun; clear hrun HG))
                | (at_builtin; refine wpList_append_run _ rfl _ _ _ _ rfl _ _ rfl rfl HRUN.out ?_)
                | fail)
              go_roundw
              case rel => exact ⟨j + 1, ad4, cap4, F3 ++ [y2], del T3 y2.id, V3, R3, by simp, by go_num, by unfold Hid; omega, by rw [List.length_append]; exact HJ2⟩
              case measure => simp [intOf]; omega
            · have HG : Hid (Calls Try.prog 29 #[.pointer (some ⟨b, 0, none⟩), .int .i64 (nth PP j)] wr fun en w' => en = .returned (.tuple #[]) ∧ ∃ V4 R4, Hid (AdvJ w b m last T0 V0 e M L s (.slice (some ⟨g, 0, none⟩) N cap2) PP (j + 1) w' T3 V4 R4 (.slice ad3 F3.length cap3) F3)) := by
                refine (file_any b m s last T3 V3 R3 (nth PP j) (PP.drop (j + 1)) HL.out HJ.out.len wr HJ.out.wh hI).mono ?_
                rintro en w' ⟨rfl, V4, R4, HFi⟩
                exact ⟨rfl, V4, R4, HJ.out.file hL0 hjP HFi.out⟩
              have hL1 : ¬ (L : Int) = 0 := by omega
              clear hI hfit hpr HJ HJN HPP HN hjP
              generalize nth PP j = a at *
              go_wp2_with (first
                | (go_at_call 29; refine HG.out.mono ?_; go_loud (rintro en w4 ⟨rfl, V4, R4, HJ2⟩; clear HG))
                | fail)
              go_roundw
              case rel => exact ⟨j + 1, ad3, cap3, F3, T3, V4, R4, rfl, by go_num, by unfold Hid; omega, HJ2⟩
              case measure => simp [intOf]; omega
          · have hjN : j = N := by have := HJN.out; omega
            subst hjN
            obtain ⟨hA, hM⟩ := HJ.out.leave (by rw [← HN.out]; exact Nat.le_refl _) HPP.out.1
            have HA := hid hA
            have HM := hid hM
            have HAL := hid HJ.out.all
            clear HJ hA hM HJN HPP HN hj
            go_wp2_with fail
            go_roundw
            case rel => exact ⟨ad3, cap3, F3, T3, s, V3, R3, rfl, HA, HAL⟩
            case measure => have h1 := HM.out; have h2 := HMU.out; omega
end Go.Proofs.Ythgcjocjkeieaaa
