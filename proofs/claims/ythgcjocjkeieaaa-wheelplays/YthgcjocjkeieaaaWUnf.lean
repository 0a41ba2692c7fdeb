/-
  unfile, and Cancel.
-/
import Derived.Test.YthgcjocjkeieaaaWFil2
namespace Go.Proofs.Ythgcjocjkeieaaa
open Go.RowKit
set_option linter.all false

theorem delete_any {w : World} {v : Value} {zs : List Int} (h : Row w 3 v (ints zs)) (hl : zs.length ≤ 1048576) {k : Nat} (hk : k < zs.length) :
    ∃ g cap, v = .slice (some ⟨g, 0, none⟩) zs.length cap ∧ Calls Try.prog 42 #[v, .int .i64 k, .int .i64 ((k : Int) + 1)] w fun e w' => e = .returned (.slice (some ⟨g, 0, none⟩) (zs.length - 1) cap) ∧ Row w' 3 (.slice (some ⟨g, 0, none⟩) (zs.length - 1) cap) (ints (zs.eraseIdx k)) ∧ But g w w' := by
  obtain ⟨g, cap, rfl, hlc, hcm⟩ := h.formI (by omega)
  refine ⟨g, cap, rfl, ?_⟩
  have hc := Try.slices_Delete_int_cells g 0 zs.length cap k (k + 1) zs w (Nat.le_refl _) hlc (by unfold maxLen at hcm; omega) (by omega) (by omega) (fun j hj => by rw [Nat.zero_add]; exact h.nthCell hj) (fun j hj => by rw [Nat.zero_add]; exact (h.setI hj 0).1)
  rw [Int.natCast_add, Int.natCast_one] at hc
  refine hc.mono ?_
  rintro e w' ⟨rfl, q, rfl⟩
  rw [List.take_length, show zs.length - (k + 1 - k) = zs.length - 1 from by omega, show k + 1 - k = 1 from by omega]
  have hb : But g w ((w.drewN q).setCells g 0 ((zs.take k ++ zs.drop (k + 1) ++ List.replicate 1 0).map (Value.int .i64))) := by
    have := grown_setCells ((zs.take k ++ zs.drop (k + 1) ++ List.replicate 1 0).map (Value.int .i64)) (w.drewN q) g 0
    exact (But.drewN g w q).trans ⟨this.os, this.tape, this.output, this.size, fun j hj hjl => this.block j hjl (by simpa using hj)⟩
  refine ⟨rfl, ?_, hb⟩
  rcases h with ⟨h1, _⟩ | ⟨g', cap', cur, lo, hi, hv, hg, hf, hl', hm, hs, ht⟩
  · simp at h1
  · simp only [Value.slice.injEq, Option.some.injEq, Addr.mk.injEq] at hv
    obtain ⟨⟨rfl, _⟩, hn, rfl⟩ := hv
    have hel : (ints (zs.eraseIdx k)).length = zs.length - 1 := by rw [ints_len, List.length_eraseIdx_of_lt hk]
    have hll : ((zs.take k ++ zs.drop (k + 1) ++ List.replicate 1 0).map (Value.int .i64)).length = zs.length := by simp; omega
    refine Or.inr ⟨g, cap, putCells cur 0 _, lo, hi, by rw [hel], heap_setCells _ (w.drewN q) g 0 cur _ _ hg, by rw [putCells_size]; exact hf, by omega, hcm, by rw [putCells_size]; exact hs, ?_⟩
    rw [hel]
    have hp := putCells_take ((zs.take k ++ zs.drop (k + 1) ++ List.replicate 1 0).map (Value.int .i64)) cur 0 (by rw [hll]; omega)
    rw [hll, Nat.zero_add, List.take_zero, List.nil_append] at hp
    have h2 := congrArg (List.take (zs.length - 1)) hp
    rw [List.take_take, Nat.min_eq_left (by omega)] at h2
    rw [h2, List.eraseIdx_eq_take_drop_succ]
    unfold ints
    rw [← List.map_take]
    congr 1
    rw [List.take_append_of_le_length (by simp; omega)]
    exact List.take_of_length_le (by simp; omega)
/-- what is left behind an unfile, and a delete behind it. -/
structure UnfI (w : World) (b m : Nat) (now last : Int) (T : List Tm) (V : Nat → Value) (a : Int) (w' : World) (V' : Nat → Value) (R' : Nat → List Int) : Prop where
  wh : WheelW w' b m now last T V' R'
  inv : Inv now last (del T a) R' []
  turn : Turn b m w V w' V'
theorem erase_mem {zs : List Int} (hn : zs.Nodup) {k : Nat} (hk : k < zs.length) {a : Int} (hka : nth zs k = a) (c : Int) : c ∈ zs.eraseIdx k ↔ c ∈ zs ∧ c ≠ a := by
  subst hka
  rw [nth_eq hk, List.mem_eraseIdx_iff_getElem?]
  constructor
  · rintro ⟨j, hj, he⟩
    refine ⟨List.mem_of_getElem? he, fun e => hj ?_⟩
    obtain ⟨hjl, he⟩ := List.getElem?_eq_some_iff.1 he
    have hpw := List.pairwise_iff_getElem.1 hn
    rcases Nat.lt_trichotomy j k with h1 | h1 | h1
    · exact absurd (he.trans e) (hpw j k hjl hk h1)
    · exact h1
    · exact absurd (he.trans e).symm (hpw k j hk hjl h1)
  · rintro ⟨hm, hne⟩
    obtain ⟨j, hj, he⟩ := List.getElem_of_mem hm
    refine ⟨j, fun e => hne ?_, by rw [List.getElem?_eq_getElem hj, he]⟩
    subst e; exact he.symm
set_option maxRecDepth 20000 in
set_option maxHeartbeats 1000000 in
theorem unfile_any (b m : Nat) (now last : Int) (T : List Tm) (V : Nat → Value) (R : Nat → List Int) (y : Tm) (hy : y ∈ T) (hl : last ≤ 9223372036854775807) (hT : T.length ≤ 1024) (w : World) (x : WheelW w b m now last T V R) (I : Inv now last T R []) :
    Calls Try.prog 30 #[.pointer (some ⟨b, 0, none⟩), .int .i64 y.id] w fun e w' => e = .returned (.tuple #[]) ∧ ∃ V' R', Hid (UnfI w b m now last T V y.id w' V' R') := by
  have hids := I.ids y hy
  have ha : fits y.id := by unfold fits; omega
  have hky : keyT T y.id = y.t := I.rise.key hy
  have hyt := I.time y hy
  have h0 := I.low
  have h1 := I.high
  have c0 := x.box.cNow
  have c2 := x.box.cMap
  have hlk := x.map.look ha
  rw [hky] at hlk
  have hF := timerAt
  have HLV := hid (levelOf_any now y.t h0 h1 (by omega) (by omega) w)
  have hle := lev_le now y.t
  have hin : y.id ∈ R (plc now y.t) := by
    rcases I.lies y hy with h | h
    · simp at h
    · exact h
  by_cases h4 : lev now y.t = 4
  · have hp := plc_far.2 h4
    rw [hp] at hin
    have HP := hid (remove_any b m now last T V R y.id hin I.heap (I.fit hl (by omega)) (by have := I.len (i := 256) (by omega); omega) w x)
    have HI : Hid (∀ w' V' H, DropI w b m now last T V R y.id w' V' H → UnfI w b m now last T V y.id w' V' (upd R 256 H)) := fun w' V' H h => by
      have hnd : (y.id :: H).Nodup := h.perm.nodup_iff.2 (I.once 256 (by omega))
      obtain ⟨hn1, hn2⟩ := List.nodup_cons.1 hnd
      have := I.gone hy rfl (L := H) (fun c => by
        rw [hp, ← h.perm.mem_iff, List.mem_cons]
        constructor
        · intro hc; exact ⟨Or.inr hc, fun e => hn1 (e ▸ hc)⟩
        · rintro ⟨h1 | h1, h2⟩
          · exact absurd h1 h2
          · exact h1) hn2 (fun hlt => by omega) (fun _ => h.heap)
      rw [hp] at this
      exact ⟨h.wh, this, h.turn⟩
    rw [h4] at HLV
    clear I x hyt hy hky h0 h1 hle h4 hin hids ha
    generalize tagT T y.id = g at *
    generalize y.t = t at *
    generalize y.id = a at *
    go_enter Try.func30, Try.ntmps30
    go_wp2_with (first
      | (go_at_call 38; refine HLV.out.mono ?_; rintro e w1 ⟨rfl, hw⟩; subst w1)
      | (go_at_call 40; refine HP.out.mono ?_; rintro e w1 ⟨rfl, V1, H1, HH1⟩)
      | fail)
    exact bodyPost_ret (v := .tuple #[]) (by simp [results, Try.results30, go_sem]) rfl ⟨rfl, V1, _, HI.out _ _ _ HH1.out⟩
  · have hp := plc_near h4
    have hs64 := slt_lt y.t (lev now y.t)
    have hp256 : plc now y.t < 256 := by omega
    have HS := hid (fun n => slotOf_any y.t (lev now y.t) (by omega) (by omega) (by omega) (w.drewN n))
    have hlen : (R (plc now y.t)).length ≤ 1048576 := by have := I.len (i := plc now y.t) (by omega); omega
    have HA : Hid (∀ n, ∃ k : Nat, k < 1048576 ∧ (w.drewN n).cell? ⟨b, 3 + plc now y.t, none⟩ = some (V (plc now y.t)) ∧ Calls Try.prog 41 #[V (plc now y.t), .int .i64 y.id] (w.drewN n) (fun e w' => e = .returned (.int .i64 (k : Nat)) ∧ w' = w.drewN n) ∧ ∃ g cap, V (plc now y.t) = .slice (some ⟨g, 0, none⟩) (R (plc now y.t)).length cap ∧ Calls Try.prog 42 #[V (plc now y.t), .int .i64 k, .int .i64 ((k : Int) + 1)] (w.drewN n) fun e w' => e = .returned (.slice (some ⟨g, 0, none⟩) ((R (plc now y.t)).length - 1) cap) ∧ w'.cell? ⟨b, 3 + plc now y.t, none⟩ = some (V (plc now y.t)) ∧ w'.frozen? ⟨b, 3 + plc now y.t, none⟩ = false ∧ ∃ V' R', Hid (UnfI w b m now last T V y.id (w'.setCell ⟨b, 3 + plc now y.t, none⟩ (.slice (some ⟨g, 0, none⟩) ((R (plc now y.t)).length - 1) cap)) V' R')) := fun n => by
      have xn := x.drewN n
      have hrow := xn.rows (plc now y.t) (by omega)
      obtain ⟨k, hk, hka, hI⟩ := index_any hrow hlen hin
      obtain ⟨g, cap, hv, hD⟩ := delete_any hrow hlen hk
      refine ⟨k, by omega, xn.box.cSlot hp256, hI, g, cap, hv, hD.mono ?_⟩
      rintro e w' ⟨rfl, hr, hb⟩
      have hgb : g ≠ b := xn.row_ne_b (i := plc now y.t) (by omega) (by rw [hv]; rfl)
      have hbox : Box w' b m now last V := xn.box.keep (hb.block b (Ne.symm hgb) xn.box.lt)
      have ho : Only (fun k => k = b ∨ (V (plc now y.t)).ownBlock = some k) (w.drewN n) (w'.setCell ⟨b, 3 + plc now y.t, none⟩ (.slice (some ⟨g, 0, none⟩) ((R (plc now y.t)).length - 1) cap)) :=
        (Only.of_but hb (Or.inr (by rw [hv]; rfl))).trans (Only.of_but (But.setCell b _ _ _) (Or.inl rfl))
      have hown : ∀ q, (Value.slice (some ⟨g, 0, none⟩) ((R (plc now y.t)).length - 1) cap).ownBlock = some q → (V (plc now y.t)).ownBlock = some q ∨ (w.drewN n).heap.size ≤ q := fun q hq => Or.inl (by rw [hv]; exact hq)
      have hr2 : Row (w'.setCell ⟨b, 3 + plc now y.t, none⟩ (.slice (some ⟨g, 0, none⟩) ((R (plc now y.t)).length - 1) cap)) 3 (.slice (some ⟨g, 0, none⟩) ((R (plc now y.t)).length - 1) cap) (ints ((R (plc now y.t)).eraseIdx k)) := hr.keep fun q hq => Below.heap_setCell _ _ _ _ (by simp [Value.ownBlock] at hq; subst hq; exact hgb)
      refine ⟨rfl, hbox.cSlot hp256, hbox.fr _, updV V (plc now y.t) (.slice (some ⟨g, 0, none⟩) ((R (plc now y.t)).length - 1) cap), upd R (plc now y.t) ((R (plc now y.t)).eraseIdx k), ?_, ?_, ?_⟩
      · exact xn.setRow (by omega) (hbox.setSlot hp256 _) hr2 (fun q h1 h2 hl => ho.block q (fun e => e.elim h1 h2) hl) hown
      · exact I.gone hy rfl (fun c => erase_mem (I.once _ (by omega)) hk hka c) ((I.once _ (by omega)).sublist (List.eraseIdx_sublist _ _)) (fun _ => List.eraseIdx_sublist _ _) (fun e => by omega)
      · exact (Turn.drewN _ _ _ _ n).trans (Turn.row (by omega) ho hown)
    have hL4 : lev now y.t < 4 := by omega
    clear I x hyt hy hky h0 h1 hle hin hids ha hlen
    generalize plc now y.t = p at *
    generalize slt y.t (lev now y.t) = S at *
    generalize lev now y.t = L at *
    generalize tagT T y.id = g at *
    generalize y.t = t at *
    generalize y.id = a at *
    have hL1 : (L : Int) < 4 := by omega
    have hS1 : (S : Int) < 64 := by omega
    have hL2 : ¬ (L : Int) = 4 := by omega
    clear hp256
    go_enter Try.func30, Try.ntmps30
    go_wp2_with (first
      | (go_at_call 38; refine HLV.out.mono ?_; rintro e w1 ⟨rfl, hw⟩; subst w1)
      | fail)
    go_quiet (first | (go_at_call 35; refine Calls.quiet_of_same (HS.out _)))
    rw [show 3 + L * 64 + S = 3 + p from by omega]
    clear hp
    obtain ⟨k, hkb, hC, hIx, gg, cap, hv, hDl⟩ := HA.out nq
    have HIx := hid hIx
    have HDl := hid hDl
    clear hIx hDl HA HS HLV hlk c0 c2 hF
    generalize w.drewN nq = W at *
    generalize (R p).length = N at *
    rw [hv] at hC HIx HDl
    clear hv
    have hkb2 : (k : Int) < 1048576 := by omega
    go_wp2_with (first
      | (go_at_call 41; refine HIx.out.mono ?_; rintro e w1 ⟨rfl, hw⟩; subst w1)
      | (go_at_call 42; refine HDl.out.mono ?_; rintro e w1 ⟨rfl, hc1, hf1, V1, R1, HU⟩)
      | fail)
    exact bodyPost_end (v := .tuple #[]) (by simp [results, Try.results30, go_sem]) rfl ⟨rfl, V1, R1, HU⟩
/-- what is left behind a Cancel. -/
structure CancI (w : World) (b m : Nat) (now last : Int) (T : List Tm) (V : Nat → Value) (w' : World) (V' : Nat → Value) (R' : Nat → List Int) : Prop where
  wh : WheelW w' b m now last T V' R'
  inv : Inv now last T R' []
  turn : Turn b m w V w' V'
theorem WheelW.setMap {w w' : World} {b m : Nat} {now last : Int} {T T' : List Tm} {V : Nat → Value} {R : Nat → List Int} (x : WheelW w b m now last T V R) (h : MapT w' m T') (hb : But m w w') : WheelW w' b m now last T' V R :=
  ⟨x.box.keep (hb.block b x.b_ne_m x.box.lt), h, fun i hi => (x.rows i hi).keep fun g hg => hb.block g (x.row_ne_m hi hg) ((x.rows i hi).lt hg), x.apart⟩
set_option maxHeartbeats 1000000 in
theorem cancel_any (b m : Nat) (now last : Int) (T : List Tm) (V : Nat → Value) (R : Nat → List Int) (a : Int) (ha : fits a) (hl : last ≤ 9223372036854775807) (hT : T.length ≤ 1024) (w : World) (x : WheelW w b m now last T V R) (I : Inv now last T R []) :
    Calls Try.prog 13 #[.pointer (some ⟨b, 0, none⟩), .int .i64 a] w fun e w' => e = .returned (.bool (hasT T a)) ∧ ∃ V' R', Hid (CancI w b m now last (del T a) V w' V' R') := by
  have c2 := x.box.cMap
  have hlk := x.map.lookOk ha
  by_cases hh : hasT T a = true
  · obtain ⟨y, hy, hya⟩ := hasT_iff.1 hh
    subst hya
    rw [hh] at hlk ⊢
    have hb0 := balloc w (.cells #[.int .i64 (keyT T y.id), .int .i64 (tagT T y.id)] 65)
    have HU := hid (unfile_any b m now last T V R y hy hl hT _ (x.below hb0) I)
    have HD : Hid (∀ w1 V1 R1, UnfI (w.alloc (.cells #[.int .i64 (keyT T y.id), .int .i64 (tagT T y.id)] 65)) b m now last T V y.id w1 V1 R1 → w1.cell? ⟨b, 2, none⟩ = some (.map (some m)) ∧ ∃ w2, (Builtin.delete_ #[50, 3] 0 #[.map (some m), .int .i64 y.id]).run Try.prog w1 = .ok (.tuple #[]) w2 ∧ Hid (CancI w b m now last (del T y.id) V w2 V1 R1)) := fun w1 V1 R1 h => by
      obtain ⟨w2, h1, h2, h3⟩ := h.wh.map.drop ha 0
      exact ⟨h.wh.box.cMap, w2, h1, h.wh.setMap h2 h3, h.inv, ((Turn.below hb0).trans h.turn).trans (Turn.but h3 (Or.inr (Or.inl rfl)))⟩
    clear x I hh hy hb0 ha hl hT
    generalize keyT T y.id = t at *
    generalize tagT T y.id = g at *
    generalize y.id = a at *
    go_enter Try.func13, Try.ntmps13
    go_wp2_with (first
      | (go_at_call 30; refine HU.out.mono ?_; go_loud (rintro e w1 ⟨rfl, V1, R1, HUI⟩; obtain ⟨cm1, w2, hrun, HC⟩ := HD.out _ _ _ HUI.out; clear HUI HU HD))
      | fail)
    go_ret
    exact ⟨rfl, V1, R1, HC⟩
  · have hh2 : hasT T a = false := by simpa using hh
    have hn : ∀ y ∈ T, y.id ≠ a := fun y hy e => hh (hasT_iff.2 ⟨y, hy, e⟩)
    rw [hh2] at hlk ⊢
    have HE : Hid (∀ w', Below w.heap.size w w' → CancI w b m now last (del T a) V w' V R) := fun w' hb => by rw [del_none hn]; exact ⟨x.below hb, I, Turn.below hb⟩
    clear x I hh hh2 hn
    generalize keyT T a = t at *
    generalize tagT T a = g at *
    go_enter Try.func13, Try.ntmps13
    go_wp2
    go_ret
    exact ⟨rfl, V, R, HE.out _ (balloc w _)⟩
end Go.Proofs.Ythgcjocjkeieaaa
