/-
  drop, pop, remove and push, of a wheel's heap.
-/
import Derived.Test.YthgcjocjkeieaaaWSink
import Derived.Test.YthgcjocjkeieaaaShelf
namespace Go.Proofs.Ythgcjocjkeieaaa
open Go.RowKit
set_option linter.all false

theorem Row.trunc {w : World} {e : TypeId} {g n cap : Nat} {vs : List Value} (h : Row w e (.slice (some ⟨g, 0, none⟩) n cap) vs) (k : Nat) (hk : k ≤ vs.length) : Row w e (.slice (some ⟨g, 0, none⟩) k cap) (vs.take k) := by
  rcases h with ⟨h1, _⟩ | ⟨g', cap', cur, lo, hi, hv, hg, hf, hl, hm, hs, ht⟩
  · simp at h1
  · simp only [Value.slice.injEq, Option.some.injEq, Addr.mk.injEq] at hv
    obtain ⟨⟨rfl, _⟩, hn, rfl⟩ := hv
    have hkl : (vs.take k).length = k := by rw [List.length_take]; omega
    refine Or.inr ⟨g, cap, cur, lo, hi, by rw [hkl], hg, hf, by omega, hm, hs, ?_⟩
    rw [hkl]
    have := congrArg (List.take k) ht
    rw [List.take_take, Nat.min_eq_left hk] at this
    exact this
/-- what is left behind a call that took one out of the heap. -/
structure DropI (w : World) (b m : Nat) (now last : Int) (T : List Tm) (V : Nat → Value) (R : Nat → List Int) (a : Int) (w' : World) (V' : Nat → Value) (H : List Int) : Prop where
  wh : WheelW w' b m now last T V' (upd R 256 H)
  turn : Turn b m w V w' V'
  perm : (a :: H).Perm (R 256)
  heap : Heap (keyT T) H
  off : ∀ i, i < 256 → V' i = V i
theorem DropI.of {w w1 w2 : World} {b m : Nat} {now last : Int} {T : List Tm} {V V1 : Nat → Value} {R : Nat → List Int} {a : Int} {H1 H2 : List Int} (ht : Turn b m w V w1 V1) (hp : (a :: H1).Perm (R 256)) (hv : ∀ i, i < 256 → V1 i = V i) (h : HpI w1 b m now last T V1 (upd R 256 H1) H2 w2) (hh : Heap (keyT T) H2) :
    DropI w b m now last T V R a w2 V1 H2 := by
  have h1 := h.wh
  rw [upd_upd] at h1
  have h2 := h.perm
  rw [upd_same] at h2
  exact ⟨h1, ht.trans h.turn, (h2.cons a).trans hp, hh, hv⟩
set_option maxHeartbeats 2000000 in
theorem drop_any (b m : Nat) (now last : Int) (T : List Tm) (V : Nat → Value) (R : Nat → List Int) (i : Nat) (hi : i < (R 256).length) (hh : Heap (keyT T) (R 256)) (hf : ∀ a ∈ R 256, fits a) (hlen : (R 256).length ≤ 1048576) (w : World) (x : WheelW w b m now last T V R) :
    Calls Try.prog 45 #[.pointer (some ⟨b, 259, none⟩), .int .i64 i] w fun e w' => e = .returned (.tuple #[]) ∧ ∃ V' H, Hid (DropI w b m now last T V R (nth (R 256) i) w' V' H) := by
  have hrow := x.rows 256 (by omega)
  obtain ⟨g, cap, hV, hlc, hcm⟩ := hrow.formI (by omega)
  have cI : w.cell? ⟨b, 260, none⟩ = some (.slice (some ⟨g, 0, none⟩) (R 256).length cap) := by have := x.box.cIds; rw [hV] at this; exact this
  rw [hV] at hrow
  obtain ⟨L, hL⟩ : ∃ L, L = (R 256).length - 1 := ⟨_, rfl⟩
  have c1 : w.cell? ⟨g, i, none⟩ = some (.int .i64 (nth (R 256) i)) := hrow.nthCell hi
  have c2 : w.cell? ⟨g, L, none⟩ = some (.int .i64 (nth (R 256) L)) := hrow.nthCell (by omega)
  have f1 : w.frozen? ⟨g, i, none⟩ = false := (hrow.setI hi 0).1
  -- the world behind the first store
  have x1 := (x.setIn (i := 256) (g := g) (by omega) (by rw [hV]; rfl) (But.setCell g w i (.int .i64 (nth (R 256) L))) (by rw [hV]; exact (hrow.setI hi _).2))
  have x2 := x1.1.drewN 1
  have t2 : Turn b m w V ((w.setCell ⟨g, i, none⟩ (.int .i64 (nth (R 256) L))).drewN 1) V := x1.2.trans (Turn.drewN _ _ _ _ _)
  have HD : Hid (∀ W, W = (w.setCell ⟨g, i, none⟩ (.int .i64 (nth (R 256) L))).drew → W.cell? ⟨b, 260, none⟩ = some (.slice (some ⟨g, 0, none⟩) (R 256).length cap) ∧ W.frozen? ⟨b, 260, none⟩ = false ∧ ∃ V1, (∀ i, i < 256 → V1 i = V i) ∧ Turn b m w V (W.setCell ⟨b, 260, none⟩ (.slice (some ⟨g, 0, none⟩) L cap)) V1 ∧ WheelW (W.setCell ⟨b, 260, none⟩ (.slice (some ⟨g, 0, none⟩) L cap)) b m now last T V1 (upd R 256 (cut (R 256) i))) := by
    rintro W rfl
    have hc := x2.box.cIds
    rw [hV] at hc
    refine ⟨hc, x2.box.fr 260, updV V 256 (.slice (some ⟨g, 0, none⟩) L cap), fun i hi => updV_other _ (by omega), ?_, ?_⟩
    · refine t2.trans (Turn.row (i := 256) (by omega) (Only.of_but (But.setCell b _ 260 _) (Or.inl rfl)) (fun k hk => Or.inl ?_))
      rw [hV]; exact hk
    · have hr2 := x2.rows 256 (by omega)
      rw [upd_same, hV] at hr2
      have hr3 : Row (((w.setCell ⟨g, i, none⟩ (.int .i64 (nth (R 256) L))).drewN 1).setCell ⟨b, 260, none⟩ (.slice (some ⟨g, 0, none⟩) L cap)) 3 (.slice (some ⟨g, 0, none⟩) L cap) (ints (cut (R 256) i)) := by
        have h4 := hr2.trunc L (by simp [ints]; omega)
        have e : (ints ((R 256).set i (nth (R 256) L))).take L = ints (cut (R 256) i) := by unfold ints cut; rw [← hL, List.map_take]
        rw [e] at h4
        exact h4.keep fun k hk => Below.heap_setCell _ _ _ _ (by simp [Value.ownBlock] at hk; subst hk; exact x2.row_ne_b (i := 256) (by omega) (by rw [hV]; rfl))
      have := x2.setRow (i := 256) (by omega) (x2.box.setIds _) hr3 (fun k h1 h2 hl => Below.heap_setCell _ _ _ _ h1) (fun k hk => Or.inl (by rw [hV]; exact hk))
      rw [upd_upd] at this
      exact this
  have HP := hid (cut_perm hi)
  have HK : Hid (∀ a ∈ cut (R 256) i, fits a) := fun a ha => hf a (HP.out.mem_iff.1 (by simp [ha]))
  have HL := hid hlen
  have HE : Hid (i < L → Loose (keyT T) (cut (R 256) i) i ∧ i < (cut (R 256) i).length ∧ (cut (R 256) i).length ≤ 1048576) := fun h => ⟨cut_loose hh hi, by rw [cut_len]; omega, by rw [cut_len]; omega⟩
  have HE2 : Hid (¬ i < L → Heap (keyT T) (cut (R 256) i)) := fun h => cut_last hh (by omega) hi
  have hLn : ((R 256).length : Int) - 1 = L := by omega
  have hN1 : (R 256).length ≤ 9223372036854775807 := by omega
  have hLc : L ≤ cap := by omega
  have hLi : (L : Int) < (R 256).length := by omega
  have hi2 : (i : Int) < (R 256).length := by omega
  have hLl : L < (R 256).length := by omega
  have hcm2 : cap ≤ 9223372036854775807 := by unfold maxLen at hcm; omega
  have hLc2 : (L : Int) ≤ cap := by omega
  clear x x1 x2 t2 hrow hV hlc hcm hh hf hL
  generalize nth (R 256) i = y at *
  generalize nth (R 256) L = z at *
  generalize cut (R 256) i = Hc at *
  generalize (R 256).length = N at *
  go_enter Try.func45, Try.ntmps45
  go_wp2
  go_region
  all_goals
    obtain ⟨cW, fW, V1, hV1, hT1, hW1⟩ := HD.out _ rfl
    have HV1 := hid hV1
    have HT1 := hid hT1
    have HW1 := hid hW1
    clear hV1 hT1 hW1 HD cI c1 c2 f1
    generalize (w.setCell ⟨g, i, none⟩ (.int .i64 z)).drew = W at *
    by_cases hlt : i < L
    · obtain ⟨e1, e2, e3⟩ := HE.out hlt
      have hlt2 : (i : Int) < L := by omega
      have HS : Hid (Calls Try.prog 48 #[.pointer (some ⟨b, 259, none⟩), .int .i64 i] (W.setCell ⟨b, 260, none⟩ (.slice (some ⟨g, 0, none⟩) L cap)) fun e w' => e = .returned (.tuple #[]) ∧ ∃ H, Hid (HpI (W.setCell ⟨b, 260, none⟩ (.slice (some ⟨g, 0, none⟩) L cap)) b m now last T V1 (upd R 256 Hc) H w') ∧ Hid (HeapUp (keyT T) H i ∧ i < H.length)) := by
        have h := HpI.start HW1.out
        rw [upd_same] at h
        exact sink_any b m now last T V1 (upd R 256 Hc) Hc i e2 e1 (by rw [upd_same]; exact HK.out) (by rw [upd_same]; exact e3) _ _ h
      have HRS : Hid (∀ H w1, HpI (W.setCell ⟨b, 260, none⟩ (.slice (some ⟨g, 0, none⟩) L cap)) b m now last T V1 (upd R 256 Hc) H w1 → HeapUp (keyT T) H i ∧ i < H.length → Calls Try.prog 44 #[.pointer (some ⟨b, 259, none⟩), .int .i64 i] w1 fun e w' => e = .returned (.tuple #[]) ∧ ∃ H, Hid (HpI (W.setCell ⟨b, 260, none⟩ (.slice (some ⟨g, 0, none⟩) L cap)) b m now last T V1 (upd R 256 Hc) H w') ∧ Hid (Heap (keyT T) H)) := fun H w1 h1 h2 => rise_any b m now last T V1 (upd R 256 Hc) H i h2.2 h2.1 (by rw [upd_same]; exact HK.out) _ _ h1
      clear e1 e2 e3 HE HE2 HK HL HW1
      go_wp2_with (first
        | (go_at_call 48; refine HS.out.mono ?_; rintro e w1 ⟨rfl, H1, HH1, HU1⟩; clear HS)
        | (go_at_call 44; refine (HRS.out _ _ HH1.out HU1.out).mono ?_; rintro e w2 ⟨rfl, H2, HH2, HU2⟩)
        | fail)
      exact bodyPost_end (v := .tuple #[]) (by simp [results, Try.results45, go_sem]) rfl ⟨rfl, V1, H2, DropI.of HT1.out HP.out HV1.out HH2.out HU2.out⟩
    · have hlt2 : ¬ (i : Int) < L := by omega
      have HF : Hid (DropI w b m now last T V R y (W.setCell ⟨b, 260, none⟩ (.slice (some ⟨g, 0, none⟩) L cap)) V1 Hc) := ⟨HW1.out, HT1.out, HP.out, HE2.out hlt, HV1.out⟩
      clear HE HE2 HK HL HW1
      go_wp2
      exact bodyPost_end (v := .tuple #[]) (by simp [results, Try.results45, go_sem]) rfl ⟨rfl, V1, Hc, HF⟩
set_option maxHeartbeats 1000000 in
theorem pop_any (b m : Nat) (now last : Int) (T : List Tm) (V : Nat → Value) (R : Nat → List Int) (h0 : 0 < (R 256).length) (hh : Heap (keyT T) (R 256)) (hf : ∀ a ∈ R 256, fits a) (hlen : (R 256).length ≤ 1048576) (w : World) (x : WheelW w b m now last T V R) :
    Calls Try.prog 46 #[.pointer (some ⟨b, 259, none⟩)] w fun e w' => e = .returned (.int .i64 (nth (R 256) 0)) ∧ ∃ V' H, Hid (DropI w b m now last T V R (nth (R 256) 0) w' V' H) := by
  have HD := hid (drop_any b m now last T V R 0 h0 hh hf hlen w x)
  have hrow := x.rows 256 (by omega)
  obtain ⟨g, cap, hV, hlc, hcm⟩ := hrow.formI h0
  have cI : w.cell? ⟨b, 260, none⟩ = some (.slice (some ⟨g, 0, none⟩) (R 256).length cap) := by have := x.box.cIds; rw [hV] at this; exact this
  rw [hV] at hrow
  have c1 : w.cell? ⟨g, 0, none⟩ = some (.int .i64 (nth (R 256) 0)) := hrow.nthCell h0
  have h02 : (0 : Int) < (R 256).length := by omega
  have hN : (R 256).length ≤ 9223372036854775807 := by omega
  clear x hrow hV hlc hcm hh hf hlen
  generalize nth (R 256) 0 = y at *
  generalize (R 256).length = N at *
  go_enter Try.func46, Try.ntmps46
  go_wp2_with (first | (go_at_call 45; refine HD.out.mono ?_; rintro e w1 ⟨rfl, V1, H1, HH1⟩) | fail)
  go_ret
  exact ⟨rfl, V1, H1, HH1⟩
theorem idx_of {zs : List Int} {x : Int} (h : x ∈ zs) : ∃ k : Nat, Lib.idxOf zs x = (k : Int) ∧ k < zs.length ∧ nth zs k = x ∧ ∀ j, j < k → nth zs j ≠ x := by
  have hex : ∃ k, k < zs.length ∧ nth zs k = x := by
    obtain ⟨k, hk, e⟩ := List.getElem_of_mem h
    exact ⟨k, hk, by rw [nth_eq hk]; exact e⟩
  have hmin : ∀ n, (∃ k, k < n ∧ k < zs.length ∧ nth zs k = x) → ∃ k, k < zs.length ∧ nth zs k = x ∧ ∀ j, j < k → nth zs j ≠ x := fun n => by
    induction n with
    | zero => rintro ⟨k, h1, _⟩; omega
    | succ n ih =>
      rintro ⟨k, h1, h2, h3⟩
      by_cases hs : ∃ j, j < n ∧ j < zs.length ∧ nth zs j = x
      · exact ih hs
      · exact ⟨k, h2, h3, fun j hj he => hs ⟨j, by omega, by omega, he⟩⟩
  obtain ⟨k0, hk0, he0⟩ := hex
  obtain ⟨k, hk, he, hb⟩ := hmin (k0 + 1) ⟨k0, by omega, hk0, he0⟩
  refine ⟨k, ?_, hk, he, hb⟩
  have := Lib.idxFrom_hit x zs k 0 hk he hb
  rw [Nat.zero_add] at this
  exact this
theorem index_any {w : World} {v : Value} {zs : List Int} (h : Row w 3 v (ints zs)) (hl : zs.length ≤ 1048576) {x : Int} (hx : x ∈ zs) :
    ∃ k : Nat, k < zs.length ∧ nth zs k = x ∧ Calls Try.prog 41 #[v, .int .i64 x] w fun e w' => e = .returned (.int .i64 (k : Nat)) ∧ w' = w := by
  obtain ⟨k, hk, hkl, hkx, _⟩ := idx_of hx
  obtain ⟨g, cap, rfl, hlc, hcm⟩ := h.formI (by omega)
  refine ⟨k, hkl, hkx, ?_⟩
  have := Try.slices_Index_int g 0 zs.length cap zs x w (Nat.le_refl _) (by omega) (fun j hj => by rw [Nat.zero_add]; exact h.nthCell hj)
  rw [List.take_length, hk] at this
  exact this
set_option maxHeartbeats 1000000 in
theorem remove_any (b m : Nat) (now last : Int) (T : List Tm) (V : Nat → Value) (R : Nat → List Int) (a : Int) (ha : a ∈ R 256) (hh : Heap (keyT T) (R 256)) (hf : ∀ a ∈ R 256, fits a) (hlen : (R 256).length ≤ 1048576) (w : World) (x : WheelW w b m now last T V R) :
    Calls Try.prog 40 #[.pointer (some ⟨b, 259, none⟩), .int .i64 a] w fun e w' => e = .returned (.tuple #[]) ∧ ∃ V' H, Hid (DropI w b m now last T V R a w' V' H) := by
  obtain ⟨k, hk, hka, hI⟩ := index_any (x.rows 256 (by omega)) hlen ha
  have HI := hid hI
  have HD := hid (drop_any b m now last T V R k hk hh hf hlen w x)
  rw [hka] at HD
  have cI := x.box.cIds
  clear x hI hh hf hlen ha hka hk
  generalize V 256 = v at *
  go_enter Try.func40, Try.ntmps40
  go_wp2_with (first
    | (go_at_call 41; refine HI.out.mono ?_; rintro e w1 ⟨rfl, hw⟩; subst w1)
    | (go_at_call 45; refine HD.out.mono ?_; rintro e w1 ⟨rfl, V1, H1, HH1⟩)
    | fail)
  exact bodyPost_end (v := .tuple #[]) (by simp [results, Try.results40, go_sem]) rfl ⟨rfl, V1, H1, HH1⟩
end Go.Proofs.Ythgcjocjkeieaaa
