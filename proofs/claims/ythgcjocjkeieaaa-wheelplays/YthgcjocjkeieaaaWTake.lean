/-
  take, goOff, asTime.
-/
import Derived.Test.YthgcjocjkeieaaaWFar
import Derived.Test.YthgcjocjkeieaaaWUnf
namespace Go.Proofs.Ythgcjocjkeieaaa
open Go.RowKit
set_option linter.all false

theorem slt_stt (t : Int) (l : Nat) (hl : l ≤ 3) : slt (stt t l) l = slt t l := by
  unfold slt stt
  obtain rfl | rfl | rfl | rfl : l = 0 ∨ l = 1 ∨ l = 2 ∨ l = 3 := by omega
  all_goals simp only [unit]; congr 2; omega
/-- what is left behind a take, at the first slot's beginning. -/
structure TakenI (w : World) (b m : Nat) (s last : Int) (T : List Tm) (V : Nat → Value) (R : Nat → List Int) (i : Nat) (y : Tm) (w' : World) (V' : Nat → Value) (R' : Nat → List Int) (v : Value) (P : List Int) : Prop where
  wh : WheelW w' b m s last T V' R'
  inv : Inv s last T R' P
  turn : Turn b m w V w' V'
  row : Row w' 3 v (ints P)
  off : ∀ g, v.ownBlock = some g → ¬ WK b m V' g
  has : y.id ∈ P
  near : i < 256 → P = R i
set_option maxRecDepth 20000 in
set_option maxHeartbeats 2000000 in
theorem take_any (b m : Nat) (n last : Int) (T : List Tm) (V : Nat → Value) (R : Nat → List Int) (i : Nat) (y : Tm) (hl : last ≤ 9223372036854775807) (hT : T.length ≤ 1024) (I : Inv n last T R []) (F : Front n T R i y) (w : World) (x : WheelW w b m (stt y.t (lev n y.t)) last T V R) :
    Calls Try.prog 33 #[.pointer (some ⟨b, 0, none⟩), .int .i64 (lev n y.t : Nat)] w fun e w' => ∃ ad cap P, e = .returned (.slice ad P.length cap) ∧ ∃ V' R', Hid (TakenI w b m (stt y.t (lev n y.t)) last T V R i y w' V' R' (.slice ad P.length cap) P) := by
  have hyt := I.time y F.mem
  have h0 := I.low
  have hns := le_stt hyt.1
  have hsy := stt_le y.t (lev n y.t)
  have hle := lev_le n y.t
  have hyR : y.id ∈ R i := by
    rcases I.lies y F.mem with h | h
    · simp at h
    · rw [F.at_] at h; exact h
  by_cases h4 : lev n y.t = 4
  · have hi : i = 256 := by rw [← F.at_]; exact plc_far.2 h4
    subst hi
    have hf : ∀ a ∈ R 256, fits a ∧ 0 ≤ keyT T a ∧ keyT T a ≤ 1125899906842624 := fun a ha => by
      obtain ⟨z, hz, rfl, _⟩ := I.has 256 (by omega) a ha
      have h1 := I.ids z hz
      have h2 := I.time z hz
      rw [I.rise.key hz]
      exact ⟨by unfold fits; omega, by omega, by omega⟩
    have hH := takeFar_any b m (stt y.t (lev n y.t)) last T V R I.heap (I.once 256 (by omega)) (by have := I.len (i := 256) (by omega); omega) hf (by omega) (by omega) w x
    have HC : Hid (Calls Try.prog 43 #[.pointer (some ⟨b, 0, none⟩)] w fun e w' => ∃ ad cap P, e = .returned (.slice ad P.length cap) ∧ ∃ V' R', Hid (TakenI w b m (stt y.t (lev n y.t)) last T V R 256 y w' V' R' (.slice ad P.length cap) P)) := by
      refine hH.mono ?_
      rintro e w' ⟨ad, cap, P, rfl, HE⟩
      obtain ⟨H, V', h, hstop⟩ := HE.out.ex
      have hs := far_stt h4
      have hxk : ∀ a ∈ R 256, y.t ≤ keyT T a := fun a ha => by
        have h1 := I.heap.min ha
        rw [← F.top rfl] at h1
        unfold upTo at h1
        rw [I.rise.key F.mem] at h1
        omega
      have hfar : ∀ a ∈ H, lev (stt y.t (lev n y.t)) (keyT T a) = 4 := fun a ha => by
        have h2 := hstop (List.length_pos_of_mem ha)
        have hr0 : nth H 0 ∈ R 256 := h.perm.mem_iff.1 (List.mem_append.2 (Or.inr (nth_mem (List.length_pos_of_mem ha))))
        rw [far_iff hs (hxk _ hr0)] at h2
        have h3 := h.heap.min ha
        unfold upTo at h3
        rw [far_iff hs (hxk _ (h.perm.mem_iff.1 (List.mem_append.2 (Or.inr ha))))]
        omega
      have hin : y.id ∈ P := by
        have h5 : y.id ∈ P ++ H := h.perm.mem_iff.2 hyR
        rcases List.mem_append.1 h5 with h6 | h6
        · exact h6
        · exfalso
          have h7 := hfar _ h6
          rw [I.rise.key F.mem, far_iff hs (Int.le_refl _)] at h7
          omega
      exact ⟨ad, cap, P, rfl, V', upd R 256 H, h.wh, I.takeFar F h.perm h.sort h.heap h.near hfar, h.turn, h.row, fun g hg => (h.new g hg).2, hin, fun e => absurd e (by omega)⟩
    rw [h4] at HC ⊢
    clear hH hf x I F hyt hyR hns hsy hle h0 h4
    go_enter Try.func33, Try.ntmps33
    go_wp2_with (first
      | (go_at_call 43; refine HC.out.mono ?_; rintro e w1 ⟨ad, cap, P, rfl, V1, R1, HH1⟩)
      | fail)
    go_ret
    exact ⟨ad, cap, P, rfl, V1, R1, HH1⟩
  · have hpn := plc_near h4
    rw [F.at_] at hpn
    have hs64 := slt_lt y.t (lev n y.t)
    have hi : i < 256 := by omega
    have hTk := I.take F hi
    have HS := hid (fun q => slotOf_any (stt y.t (lev n y.t)) (lev n y.t) (by omega) (by omega) (by omega) (w.drewN q))
    rw [slt_stt y.t _ (by omega)] at HS
    have hrow := x.rows i (by omega)
    obtain ⟨g, cap, hV, hlc, hcm⟩ := hrow.formI (List.length_pos_of_mem hyR)
    have c0 := x.box.cNow
    have HE : Hid (∀ q, (w.drewN q).cell? ⟨b, 3 + i, none⟩ = some (.slice (some ⟨g, 0, none⟩) (R i).length cap) ∧ (w.drewN q).frozen? ⟨b, 3 + i, none⟩ = false ∧ TakenI w b m (stt y.t (lev n y.t)) last T V R i y ((w.drewN q).setCell ⟨b, 3 + i, none⟩ (.slice none 0 0)) (updV V i (.slice none 0 0)) (upd R i []) (.slice (some ⟨g, 0, none⟩) (R i).length cap) (R i)) := fun q => by
      have xq := x.drewN q
      have hc := xq.box.cSlot hi
      rw [hV] at hc
      have hgb : g ≠ b := x.row_ne_b (i := i) (by omega) (by rw [hV]; rfl)
      have hw : WheelW ((w.drewN q).setCell ⟨b, 3 + i, none⟩ (.slice none 0 0)) b m (stt y.t (lev n y.t)) last T (updV V i (.slice none 0 0)) (upd R i []) := xq.setRow (by omega) (xq.box.setSlot hi _) (Row.nil _ _) (fun k h1 h2 hl => Below.heap_setCell _ _ _ _ h1) (fun k hk => by simp [Value.ownBlock] at hk)
      refine ⟨hc, xq.box.fr _, hw, hTk, (Turn.drewN _ _ _ _ q).trans (Turn.row (i := i) (by omega) (Only.of_but (But.setCell b _ _ _) (Or.inl rfl)) (fun k hk => by simp [Value.ownBlock] at hk)), ?_, ?_, hyR, fun _ => rfl⟩
      · have hr := xq.rows i (by omega)
        rw [hV] at hr
        exact hr.keep fun k hk => Below.heap_setCell _ _ _ _ (by simp [Value.ownBlock] at hk; subst hk; exact hgb)
      · intro k hk
        simp [Value.ownBlock] at hk
        subst hk
        rintro (h1 | h1 | ⟨j, hj, h1⟩)
        · exact hgb h1
        · exact x.row_ne_m (i := i) (by omega) (by rw [hV]; rfl) h1
        · by_cases e : j = i
          · subst e; rw [updV_same] at h1; simp [Value.ownBlock] at h1
          · rw [updV_other _ e] at h1
            exact x.apart j i hj (by omega) e _ h1 (by rw [hV]; rfl)
    have hL4 : lev n y.t < 4 := by omega
    have hL1 : (lev n y.t : Int) < 4 := by omega
    have hL2 : ¬ (lev n y.t : Int) = 4 := by omega
    clear x I F hyt hyR hns hsy hle h0 hTk hrow hV hcm hlc h4
    generalize slt y.t (lev n y.t) = S at *
    generalize stt y.t (lev n y.t) = s at *
    generalize lev n y.t = L at *
    have hS1 : (S : Int) < 64 := by omega
    clear hi
    go_enter Try.func33, Try.ntmps33
    go_wp2_with fail
    go_quiet (first | (go_at_call 35; refine Calls.quiet_of_same (HS.out _)) | fail)
    rw [show 3 + L * 64 + S = 3 + i from by omega]
    obtain ⟨c1, f1, hE⟩ := HE.out nq
    have HE2 := hid hE
    clear hpn HE HS c0 hE
    generalize w.drewN nq = W at *
    generalize hN : (R i).length = N at *
    have HN := hid hN
    clear hN
    go_wp2
    go_ret
    exact ⟨some ⟨g, 0, none⟩, cap, R i, by rw [HN.out]; rfl, _, _, by rw [HN.out]; exact HE2⟩
set_option maxHeartbeats 1000000 in
theorem asTime_any (b m : Nat) (now last : Int) (T : List Tm) (V : Nat → Value) (R : Nat → List Int) (t : Int) (w : World) (x : WheelW w b m now last T V R) :
    Calls Try.prog 28 #[.pointer (some ⟨b, 0, none⟩), .int .i64 t] w fun e w' => e = .returned (.int .i64 (min (max t now) 1125899906842624)) ∧ w' = w := by
  have c0 := x.box.cNow
  clear x
  go_enter Try.func28, Try.ntmps28
  go_wp2
  go_ret
  exact ⟨rfl, rfl⟩
set_option maxHeartbeats 1000000 in
theorem now_any (b m : Nat) (now last : Int) (T : List Tm) (V : Nat → Value) (R : Nat → List Int) (w : World) (x : WheelW w b m now last T V R) :
    Calls Try.prog 17 #[.pointer (some ⟨b, 0, none⟩)] w fun e w' => e = .returned (.int .i64 now) ∧ w' = w := by
  have c0 := x.box.cNow
  clear x
  go_enter Try.func17, Try.ntmps17
  go_wp2
  go_ret
  exact ⟨rfl, rfl⟩
set_option maxHeartbeats 1000000 in
theorem len_any (b m : Nat) (now last : Int) (T : List Tm) (V : Nat → Value) (R : Nat → List Int) (w : World) (x : WheelW w b m now last T V R) :
    Calls Try.prog 16 #[.pointer (some ⟨b, 0, none⟩)] w fun e w' => e = .returned (.int .i64 T.length) ∧ w' = w := by
  have c2 := x.box.cMap
  have hl := fun ty => x.map.len ty
  clear x
  generalize T.length = N at *
  go_enter Try.func16, Try.ntmps16
  go_wp2
  go_ret
  exact ⟨rfl, rfl⟩
/-- what is left behind a goOff. -/
structure OffI (w : World) (b m : Nat) (now last : Int) (T : List Tm) (V : Nat → Value) (R : Nat → List Int) (w' : World) : Prop where
  wh : WheelW w' b m now last T V R
  turn : Turn b m w V w' V
set_option maxHeartbeats 1000000 in
theorem goOff_any (b m : Nat) (now last : Int) (T : List Tm) (V : Nat → Value) (R : Nat → List Int) (a : Int) (ha : fits a) (w : World) (x : WheelW w b m now last T V R) :
    Calls Try.prog 34 #[.pointer (some ⟨b, 0, none⟩), .int .i64 a] w fun e w' => e = .returned (.agg #[.int .i64 (keyT T a), .int .i64 a, .int .i64 (tagT T a)]) ∧ Hid (OffI w b m now last (del T a) V R w') := by
  have hb0 := balloc w (.cells #[.int .i64 0, .int .i64 0, .int .i64 0] 44)
  have x0 := x.below hb0
  have hb1 := balloc (w.alloc (.cells #[.int .i64 0, .int .i64 0, .int .i64 0] 44)) (.cells #[.int .i64 (keyT T a), .int .i64 (tagT T a)] 65)
  have x1 := x0.below hb1
  have c2 := x0.box.cMap
  have c3 := x1.box.cMap
  have hlk := x0.map.look ha
  obtain ⟨w2, hrun, hM, hB⟩ := x1.map.drop ha 0
  have HX := hid (x1.setMap hM hB)
  have HT : Hid (Turn b m w V w2 V) := ((Turn.below hb0).trans (Turn.below hb1)).trans (Turn.but hB (Or.inr (Or.inl rfl)))
  have hw1 : (w.alloc (.cells #[.int .i64 0, .int .i64 0, .int .i64 0] 44)).heap.size = w.heap.size + 1 := by simp
  have hmlt := x.map.lt
  have n4 : w2.heap[w.heap.size]? = some (.cells #[.int .i64 0, .int .i64 0, .int .i64 0] 44 (0, 0)) := (hB.block _ (by omega) (by simp; omega)).trans ((hb1.block _ (by simp)).trans (heap_new w _))
  have n5 : w2.heap[w.heap.size + 1]? = some (.cells #[.int .i64 (keyT T a), .int .i64 (tagT T a)] 65 (0, 0)) := (hB.block _ (by omega) (by simp)).trans (by rw [← hw1]; exact heap_new _ _)
  have d0 := cellHeap n5 0 rfl
  have d1 := cellHeap n5 1 rfl
  have e0 := cellHeap n4 0 rfl
  have e1 := cellHeap n4 1 rfl
  have e2 := cellHeap n4 2 rfl
  have f0 := frozen_of_heap n4
  have HN4 := hid n4
  have HB := hid hB
  have HLT : Hid (∀ k, WK b m V k → k < w.heap.size) := fun k hk => x.lt hk
  clear x x0 x1 hb0 hb1 hM hB ha hw1 hmlt n4 n5
  generalize keyT T a = t at *
  generalize tagT T a = g at *
  go_enter Try.func34, Try.ntmps34
  go_wp2
  have h1 := heap_setCell (j := 0) (v := .int .i64 t) HN4.out
  have h2 := heap_setCell (j := 1) (v := .int .i64 a) h1
  have h3 := heap_setCell (j := 2) (v := .int .i64 g) h2
  refine bodyPost_ret (results_cell_row (P := Try.prog) rfl _ _ w.heap.size 44 #[.int .i64 t, .int .i64 a, .int .i64 g] (0, 0) _ rfl (by simpa using h3) Try.underlying44 rfl (by kernel_rfl)) rfl ⟨rfl, ?_⟩
  have hk : ∀ k, k ≠ w.heap.size → (((w2.setCell ⟨w.heap.size, 0, none⟩ (.int .i64 t)).setCell ⟨w.heap.size, 1, none⟩ (.int .i64 a)).setCell ⟨w.heap.size, 2, none⟩ (.int .i64 g)).heap[k]? = w2.heap[k]? := fun k hk => by
    rw [Below.heap_setCell _ _ _ _ hk, Below.heap_setCell _ _ _ _ hk, Below.heap_setCell _ _ _ _ hk]
  refine ⟨HX.out.keep fun k hw => hk k (by have := HLT.out k hw; omega), ⟨HT.out.only.os, HT.out.only.tape, HT.out.only.output, by simp [World.setCell]; exact HT.out.only.size, fun k h1 h2 => ?_⟩, HT.out.new⟩
  rw [hk k (by omega)]
  exact HT.out.only.block k h1 h2
end Go.Proofs.Ythgcjocjkeieaaa
