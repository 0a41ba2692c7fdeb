/-
  Next.
-/
import Derived.Test.YthgcjocjkeieaaaWAdvI
namespace Go.Proofs.Ythgcjocjkeieaaa
open Go.RowKit
set_option linter.all false

/-- M is the first time at which one of T goes off. -/
structure IsMin (T : List Tm) (M : Int) : Prop where
  is : ∃ y ∈ T, y.t = M
  le : ∀ z ∈ T, M ≤ z.t
theorem IsMin.eq {T : List Tm} {M N : Int} (h : IsMin T M) (k : IsMin T N) : M = N := by
  obtain ⟨y, hy, h1⟩ := h.is
  obtain ⟨z, hz, h2⟩ := k.is
  have := h.le z hz
  have := k.le y hy
  omega
theorem lt_stt (t : Int) (l : Nat) : t < stt t l + unit l := by
  unfold stt
  match l with
  | 0 => simp only [unit]; omega
  | 1 => simp only [unit]; omega
  | 2 => simp only [unit]; omega
  | 3 => simp only [unit]; omega
  | _ + 4 => simp only [unit]; omega
/-- the least of the first j of a row, and of y. -/
structure MinJ (T : List Tm) (L : List Int) (y : Tm) (j : Nat) (M : Int) : Prop where
  is : ∃ z ∈ T, z.t = M
  le : M ≤ y.t
  all : ∀ k, k < j → k < L.length → M ≤ keyT T (nth L k)
theorem MinJ.start {T : List Tm} (L : List Int) {y : Tm} (hy : y ∈ T) : MinJ T L y 0 y.t := ⟨⟨y, hy, rfl⟩, Int.le_refl _, fun k hk => by omega⟩
theorem MinJ.next {T : List Tm} {L : List Int} {y : Tm} {j : Nat} {M : Int} (h : MinJ T L y j M) (hz : ∃ z ∈ T, z.t = keyT T (nth L j)) : MinJ T L y (j + 1) (min M (keyT T (nth L j))) := by
  refine ⟨?_, by have := h.le; omega, fun k hk hl => ?_⟩
  · by_cases e : M ≤ keyT T (nth L j)
    · rw [show min M (keyT T (nth L j)) = M from by omega]; exact h.is
    · rw [show min M (keyT T (nth L j)) = keyT T (nth L j) from by omega]; exact hz
  · by_cases e : k = j
    · subst e; omega
    · have := h.all k (by omega) hl
      omega
theorem MinJ.done {n last : Int} {T : List Tm} {R : Nat → List Int} {i : Nat} {y : Tm} (I : Inv n last T R []) (f : Front n T R i y) (hi : i < 256) {j : Nat} {M : Int} (h : MinJ T (R i) y j M) (hj : (R i).length ≤ j) : IsMin T M := by
  refine ⟨h.is, fun z hz => ?_⟩
  have hy := I.time y f.mem
  have hzt := I.time z hz
  rcases I.lies z hz with h1 | h1
  · simp at h1
  · by_cases e : plc n z.t = i
    · rw [e] at h1
      obtain ⟨k, hk, hkz⟩ := List.getElem_of_mem h1
      have := h.all k (by omega) hk
      rw [nth_eq hk, hkz, I.rise.key hz] at this
      exact this
    · have hle := f.le I hz
      have h4 : lev n y.t ≠ 4 := fun e4 => by have := plc_far.2 e4; have := f.at_; omega
      have := later hy.1 hzt.1 h4 (by rw [f.at_]; omega)
      have := lt_stt y.t (lev n y.t)
      have := stt_le z.t (lev n z.t)
      have := h.le
      omega
theorem min_far {n last : Int} {T : List Tm} {R : Nat → List Int} {i : Nat} {y : Tm} (I : Inv n last T R []) (f : Front n T R i y) (h4 : lev n y.t = 4) : IsMin T y.t := by
  have hi : i = 256 := by rw [← f.at_]; exact plc_far.2 h4
  subst hi
  refine ⟨⟨y, f.mem, rfl⟩, fun z hz => ?_⟩
  rcases I.lies z hz with h1 | h1
  · simp at h1
  · have hp : plc n z.t = 256 := by have := f.le I hz; have := plc_le n z.t; omega
    rw [hp] at h1
    have := I.heap.min h1
    rw [← f.top rfl] at this
    unfold upTo at this
    rw [I.rise.key f.mem, I.rise.key hz] at this
    omega
set_option maxRecDepth 20000 in
set_option maxHeartbeats 4000000 in
theorem next_some (b m : Nat) (now last : Int) (T : List Tm) (V : Nat → Value) (R : Nat → List Int) (hl : last ≤ 9223372036854775807) (hT : T.length ≤ 1024) (h0 : 0 < T.length) (w : World) (x : WheelW w b m now last T V R) (I : Inv now last T R []) :
    Calls Try.prog 15 #[.pointer (some ⟨b, 0, none⟩)] w fun e w' => ∃ M q, e = .returned (.tuple #[.int .i64 M, .bool true]) ∧ Hid (IsMin T M) ∧ w' = w.drewN q := by
  have c2 := x.box.cMap
  have hlen := fun ty => x.map.len ty
  have HU := hid (upcoming_any b m now last T V R h0 w x I)
  have hF := timerAt
  have HX := hid x
  have HI := hid I
  have HNX : Hid (∀ i y q, Front now T R i y → (w.drewN q).cell? ⟨b, 2, none⟩ = some (.map (some m)) ∧ (Instr.lookup 50 (.map (some m)) (.int .i64 y.id) false).run Try.prog (w.drewN q) = .ok (.agg #[.int .i64 y.t, .int .i64 (tagT T y.id)]) (w.drewN q)) := fun i y q f => by
    have xq := HX.out.drewN q
    have hid1 := HI.out.ids y f.mem
    have hlk := xq.map.look (a := y.id) (by unfold fits; omega)
    rw [HI.out.rise.key f.mem] at hlk
    exact ⟨xq.box.cMap, hlk⟩
  have hT1 : (T.length : Int) ≤ 1024 := by omega
  have h01 : ¬ (T.length : Int) = 0 := by omega
  have HT : Hid (∀ i, i ≤ 256 → (R i).length ≤ 1024) := fun i hi => by have := HI.out.len hi; omega
  have HL := hid hl
  clear x I h0 hT hl
  generalize T.length = N at *
  go_enter Try.func15, Try.ntmps15
  go_wp2_with (first
    | (go_at_call 31; refine HU.out.mono ?_; go_loud (rintro en w1 ⟨i, y, q, rfl, HFr, hw⟩; obtain ⟨d2, hlk⟩ := HNX.out i y q HFr.out; subst w1; clear HNX HU c2 hlen))
    | fail)
  · have h4 : lev now y.t ≠ 4 := by
      intro e4
      rename_i hb _
      simp [e4] at *
    have hle := lev_le now y.t
    have hpn := plc_near h4
    rw [HFr.out.at_] at hpn
    have hs64 := slt_lt y.t (lev now y.t)
    have hi256 : i < 256 := by omega
    have hyt := HI.out.time y HFr.out.mem
    have hlow := HI.out.low
    have HS := hid (fun n => slotOf_any y.t (lev now y.t) (by omega) (by omega) (by omega) ((w.drewN q).drewN n))
    have hyR : y.id ∈ R i := by
      rcases HI.out.lies y HFr.out.mem with h | h
      · simp at h
      · rw [HFr.out.at_] at h; exact h
    have hrow0 := HX.out.rows i (by omega)
    obtain ⟨g, cap, hV, hlc, hcm⟩ := hrow0.formI (List.length_pos_of_mem hyR)
    have hRl : (R i).length ≤ 1024 := HT.out i (by omega)
    have HC : Hid (∀ n, ((w.drewN q).drewN n).cell? ⟨b, 3 + i, none⟩ = some (.slice (some ⟨g, 0, none⟩) (R i).length cap)) := fun n => by
      have := ((HX.out.drewN q).drewN n).box.cSlot hi256
      rw [hV] at this; exact this
    have HCj : Hid (∀ n j, j < (R i).length → ((w.drewN q).drewN n).cell? ⟨g, j, none⟩ = some (.int .i64 (nth (R i) j)) ∧ ((w.drewN q).drewN n).cell? ⟨b, 2, none⟩ = some (.map (some m)) ∧ (Instr.lookup 50 (.map (some m)) (.int .i64 (nth (R i) j)) false).run Try.prog ((w.drewN q).drewN n) = .ok (.agg #[.int .i64 (keyT T (nth (R i) j)), .int .i64 (tagT T (nth (R i) j))]) ((w.drewN q).drewN n) ∧ ∃ z ∈ T, z.t = keyT T (nth (R i) j)) := fun n j hj => by
      have xq := (HX.out.drewN q).drewN n
      have hr := xq.rows i (by omega)
      rw [hV] at hr
      obtain ⟨z, hz, hza, _⟩ := HI.out.has i (by omega) _ (nth_mem hj)
      refine ⟨hr.nthCell hj, xq.box.cMap, xq.map.look (HI.out.fit HL.out (by omega) _ (nth_mem hj)), z, hz, ?_⟩
      rw [← hza, HI.out.rise.key hz]
    have HD : Hid (∀ j M, MinJ T (R i) y j M → (R i).length ≤ j → IsMin T M) := fun j M h hj => h.done HI.out HFr.out hi256 hj
    have HM0 : Hid (MinJ T (R i) y 0 y.t) := MinJ.start _ HFr.out.mem
    have HW : Hid (∀ n, (w.drewN q).drewN n = w.drewN (q + n)) := fun n => World.drewN_drewN _ _ _
    have hL1 : (lev now y.t : Int) < 4 := by omega
    have hL4 : lev now y.t < 4 := by omega
    clear hrow0 hV hlc hcm hyR HX HI HFr hlow hyt hi256 hle d2 hlk h4
    generalize slt y.t (lev now y.t) = S at *
    generalize lev now y.t = L at *
    generalize hyt : y.t = ty at *
    have HYT := hid hyt
    clear hyt
    generalize tagT T y.id = tg at *
    have hS1 : (S : Int) < 64 := by omega
    generalize w.drewN q = wq at *
    have hcA : wq.cell? ⟨b, 3 + L * 64 + S, none⟩ = some (.slice (some ⟨g, 0, none⟩) (R i).length cap) := by
      rw [show 3 + L * 64 + S = 3 + i from by omega]; exact HC.out 0
    obtain ⟨Z, hZ⟩ : ∃ Z, Z = (R i).length := ⟨_, rfl⟩
    have HZ := hid hZ
    rw [← hZ] at hcA hRl
    clear hZ
    have hZb : (Z : Int) ≤ 1024 := by omega
    go_quiet (first | (go_at_call 35; refine Calls.quiet_of_same (HS.out _)) | fail)
    clear hcA HC HS hpn
    go_wp2_with fail
    go_loopw [6, 8, 40] (fun av _ jv wz => ∃ (j : Nat) (M : Int), av = .int .i64 M ∧ jv = .int .i64 j ∧ Hid (j ≤ Z) ∧ Hid (MinJ T (R i) y j M) ∧ wz = wq.drewN nq) (fun _ _ jv _ => Z - (intOf jv).toNat)
    case atStart => exact ⟨0, ty, rfl, rfl, Nat.zero_le _, HM0, rfl⟩
    case round =>
      clear HM0
      obtain ⟨j, M, rfl, rfl, HJ, HM, hwz⟩ := hrel
      by_cases hj : j < Z
      · have hj2 : (j : Int) < Z := by omega
        obtain ⟨k1, k2, k3, k4⟩ := HCj.out nq j (by rw [← HZ.out]; exact hj)
        rw [← hwz] at k1 k2 k3
        have HM2 := hid (HM.out.next k4)
        have HWZ := hid hwz
        clear k4 hwz HM HCj
        generalize keyT T (nth (R i) j) = kt at *
        generalize tagT T (nth (R i) j) = kg at *
        generalize nth (R i) j = a at *
        go_wp2
        go_roundw
        case rel => exact ⟨j + 1, min M kt, rfl, by go_num, by unfold Hid; omega, HM2, by first | exact HWZ.out | trivial⟩
        case measure => simp [intOf]; omega
      · have hje : j = Z := by have := HJ.out; omega
        subst hje
        have HE := hid (HD.out _ _ HM.out (by rw [← HZ.out]; exact Nat.le_refl _))
        have HWZ : Hid (wr = w.drewN (q + nq)) := by unfold Hid; rw [hwz]; exact HW.out nq
        clear HM HD hwz HCj HW hj
        go_wp2
        exact bodyPost_ret (v := .tuple #[.int .i64 M, .bool true]) (by simp [results, Try.results15, go_sem]) rfl ⟨M, q + nq, rfl, HE, HWZ.out⟩
  · have h4 : lev now y.t = 4 := by
      rename_i hb _
      simp at *
      omega
    have HE := hid (min_far HI.out HFr.out h4)
    exact bodyPost_ret (v := .tuple #[.int .i64 y.t, .bool true]) (by simp [results, Try.results15, go_sem]) rfl ⟨y.t, q, rfl, HE, rfl⟩
set_option maxHeartbeats 1000000 in
theorem next_none (b m : Nat) (now last : Int) (T : List Tm) (V : Nat → Value) (R : Nat → List Int) (h0 : T.length = 0) (w : World) (x : WheelW w b m now last T V R) :
    Calls Try.prog 15 #[.pointer (some ⟨b, 0, none⟩)] w fun e w' => e = .returned (.tuple #[.int .i64 0, .bool false]) ∧ w' = w := by
  have c2 := x.box.cMap
  have hlen := fun ty => x.map.len ty
  rw [h0] at hlen
  clear x h0
  go_enter Try.func15, Try.ntmps15
  go_wp2
  exact bodyPost_ret (v := .tuple #[.int .i64 0, .bool false]) (by simp [results, Try.results15, go_sem]) rfl ⟨rfl, rfl⟩
end Go.Proofs.Ythgcjocjkeieaaa
