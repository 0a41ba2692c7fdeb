/-
  takeFar.
-/
import Derived.Test.YthgcjocjkeieaaaWFil2
namespace Go.Proofs.Ythgcjocjkeieaaa
open Go.RowKit
set_option linter.all false

def sliceLen : Value → Nat
  | .slice _ n _ => n
  | _ => 0
/-- how takeFar stands: P is taken, H is left. -/
structure FarI (w : World) (b m : Nat) (s last : Int) (T : List Tm) (V : Nat → Value) (R : Nat → List Int) (P H : List Int) (v : Value) (wr : World) (V' : Nat → Value) : Prop where
  wh : WheelW wr b m s last T V' (upd R 256 H)
  turn : Turn b m w V wr V'
  perm : (P ++ H).Perm (R 256)
  heap : Heap (keyT T) H
  sort : P.Pairwise (ahead (keyT T))
  before : ∀ p ∈ P, ∀ h ∈ H, ahead (keyT T) p h
  near : ∀ p ∈ P, lev s (keyT T p) ≠ 4
  row : Row wr 3 v (ints P)
  new : ∀ g, v.ownBlock = some g → w.heap.size ≤ g ∧ ¬ WK b m V' g
  off : ∀ i, i < 256 → V' i = V i
theorem FarI.start {w : World} {b m : Nat} {s last : Int} {T : List Tm} {V : Nat → Value} {R : Nat → List Int} (x : WheelW w b m s last T V R) (hh : Heap (keyT T) (R 256)) : FarI w b m s last T V R [] (R 256) (.slice none 0 0) w V :=
  ⟨by rw [upd_self]; exact x, Turn.refl _ _ _ _, by simp, hh, List.Pairwise.nil, by simp, by simp, Row.nil _ _, by simp [Value.ownBlock], fun _ _ => rfl⟩
theorem FarI.len {w : World} {b m : Nat} {s last : Int} {T : List Tm} {V : Nat → Value} {R : Nat → List Int} {P H : List Int} {v : Value} {wr : World} {V' : Nat → Value} (h : FarI w b m s last T V R P H v wr V') : P.length + H.length = (R 256).length := by
  have := h.perm.length_eq
  simpa using this
theorem FarI.drewN {w : World} {b m : Nat} {s last : Int} {T : List Tm} {V : Nat → Value} {R : Nat → List Int} {P H : List Int} {v : Value} {wr : World} {V' : Nat → Value} (h : FarI w b m s last T V R P H v wr V') (n : Nat) : FarI w b m s last T V R P H v (wr.drewN n) V' :=
  ⟨h.wh.drewN n, h.turn.trans (Turn.drewN _ _ _ _ _), h.perm, h.heap, h.sort, h.before, h.near, h.row.keep fun _ _ => rfl, h.new, h.off⟩
/-- one more is taken out, and appended. -/
theorem FarI.next {w : World} {b m : Nat} {s last : Int} {T : List Tm} {V : Nat → Value} {R : Nat → List Int} {P H : List Int} {v : Value} {wr : World} {V' : Nat → Value} (h : FarI w b m s last T V R P H v wr V') (h0 : 0 < H.length) (hn : (R 256).Nodup) (hl : (R 256).length ≤ 1024) (hv : lev s (keyT T (nth H 0)) ≠ 4)
    {w1 : World} {V1 : Nat → Value} {H1 : List Int} (hd : DropI wr b m s last T V' (upd R 256 H) (nth H 0) w1 V1 H1) :
    ∃ w2 ad cap, (Builtin.append_ #[36, 36] 36 #[v, .slice (some ⟨w1.heap.size, 0, none⟩) 1 1]).run Try.prog (w1.alloc (.cells #[.int .i64 (nth H 0)] 3)) = .ok (.slice ad (P.length + 1) cap) w2 ∧ FarI w b m s last T V R (P ++ [nth H 0]) H1 (.slice ad (P.length + 1) cap) w2 V1 := by
  have hpm := hd.perm
  rw [upd_same] at hpm
  have hwh := hd.wh
  rw [upd_upd] at hwh
  have hmem : ∀ c, c ∈ H ↔ c = nth H 0 ∨ c ∈ H1 := fun c => by rw [← hpm.mem_iff, List.mem_cons]
  have hnd : (P ++ H).Nodup := h.perm.nodup_iff.2 hn
  obtain ⟨_, hnH, _⟩ := List.nodup_append.1 hnd
  have hnd1 : (nth H 0 :: H1).Nodup := hpm.nodup_iff.2 hnH
  have hne := (List.nodup_cons.1 hnd1).1
  have hlen := h.len
  have hs1 := h.turn.only.size
  have hs2 := hd.turn.only.size
  -- the list's block is not the wheel's
  have hoff : ∀ g, v.ownBlock = some g → g < wr.heap.size ∧ ¬ WK b m V1 g := fun g hg => by
    have h1 := h.row.lt hg
    refine ⟨h1, fun e => ?_⟩
    rcases hd.turn.new g e with h2 | h2
    · exact (h.new g hg).2 h2
    · omega
  have hrow1 : Row w1 3 v (ints P) := h.row.keep fun g hg => hd.turn.only.block g (h.new g hg).2 (hoff g hg).1
  have hb0 := balloc w1 (.cells #[.int .i64 (nth H 0)] 3)
  have hml : 1048577 ≤ maxLen := by unfold maxLen; omega
  obtain ⟨v2, w2, hrun, hrow2, hgr, hcase⟩ := append_one 36 36 3 _ 8 Try.underlying36 infoI rfl (hrow1.below hb0) (.int .i64 (nth H 0)) rfl w1.heap.size (0, 0) (heap_new w1 _) (by rw [ints_len]; omega) (by rw [ints_len]; omega)
  rw [ints_len] at hcase
  have hkeep : ∀ k, k < w1.heap.size → v.ownBlock ≠ some k → w2.heap[k]? = w1.heap[k]? := fun k hk hn => (hgr.block k (by have := hb0.size; omega) (fun e => hn e.symm)).trans (hb0.block k hk)
  have hform : ∃ ad cap, v2 = .slice ad (P.length + 1) cap ∧ ∀ g, v2.ownBlock = some g → v.ownBlock = some g ∨ w1.heap.size ≤ g := by
    rcases hcase with ⟨g, cap, h1, h2⟩ | ⟨g, cap, h1, h2, _⟩
    · exact ⟨_, _, h2, fun k hk => Or.inl (by rw [h1]; rw [h2] at hk; exact hk)⟩
    · refine ⟨_, _, h1, fun k hk => Or.inr ?_⟩
      rw [h1] at hk
      simp [Value.ownBlock] at hk
      have := hb0.size
      omega
  obtain ⟨ad, cap, rfl, hown⟩ := hform
  have hw2 : WheelW w2 b m s last T V1 (upd R 256 H1) := hwh.keep fun k hk => hkeep k (hwh.lt hk) (fun e => (hoff k e).2 hk)
  have ht2 : Turn b m w V w2 V1 := by
    have ht1 := h.turn.trans hd.turn
    refine ⟨⟨hgr.os.trans (hb0.os.trans ht1.only.os), hgr.tape.trans (hb0.tape.trans ht1.only.tape), hgr.output.trans (hb0.output.trans ht1.only.output), Nat.le_trans ht1.only.size (Nat.le_trans hb0.size hgr.size), fun k hk hkl => ?_⟩, ht1.new⟩
    rw [hkeep k (by have := ht1.only.size; omega) (fun e => by have := (h.new k e).1; omega)]
    exact ht1.only.block k hk hkl
  refine ⟨w2, ad, cap, hrun, hw2, ht2, ?_, hd.heap, ?_, ?_, ?_, by rw [ints_app]; exact hrow2, ?_, fun i hi => (hd.off i hi).trans (h.off i hi)⟩
  · rw [List.append_assoc]
    exact (List.Perm.append_left P hpm).trans h.perm
  · rw [List.pairwise_append]
    exact ⟨h.sort, by simp, fun p hp c hc => by simp at hc; subst hc; exact h.before p hp _ (nth_mem h0)⟩
  · intro p hp c hc
    rcases List.mem_append.1 hp with hp | hp
    · exact h.before p hp c ((hmem c).2 (Or.inr hc))
    · simp at hp
      subst hp
      have h1 := h.heap.min ((hmem c).2 (Or.inr hc))
      have h2 : nth H 0 ≠ c := fun e => hne (e ▸ hc)
      unfold upTo at h1
      unfold ahead
      omega
  · intro p hp
    rcases List.mem_append.1 hp with hp | hp
    · exact h.near p hp
    · simp at hp; subst hp; exact hv
  · intro g hg
    rcases hown g hg with h1 | h1
    · exact ⟨(h.new g h1).1, (hoff g h1).2⟩
    · exact ⟨by omega, fun e => by have := hwh.lt e; omega⟩
/-- what takeFar needs, and leaves. -/
structure FarE (w : World) (b m : Nat) (s last : Int) (T : List Tm) (V : Nat → Value) (R : Nat → List Int) (P : List Int) (v : Value) (wr : World) : Prop where
  ex : ∃ H V', FarI w b m s last T V R P H v wr V' ∧ (0 < H.length → lev s (keyT T (nth H 0)) = 4)
set_option maxHeartbeats 2000000 in
theorem takeFar_any (b m : Nat) (s last : Int) (T : List Tm) (V : Nat → Value) (R : Nat → List Int) (hh : Heap (keyT T) (R 256)) (hn : (R 256).Nodup) (hl : (R 256).length ≤ 1024) (hf : ∀ a ∈ R 256, fits a ∧ 0 ≤ keyT T a ∧ keyT T a ≤ 1125899906842624) (hs0 : 0 ≤ s) (hs1 : s ≤ 1125899906842624) (w : World) (x : WheelW w b m s last T V R) :
    Calls Try.prog 43 #[.pointer (some ⟨b, 0, none⟩)] w fun e w' => ∃ ad cap P, e = .returned (.slice ad P.length cap) ∧ Hid (FarE w b m s last T V R P (.slice ad P.length cap) w') := by
  have HX := hid (FarI.start x hh)
  have HC := hid (show (R 256).Nodup ∧ (R 256).length ≤ 1024 ∧ (∀ a ∈ R 256, fits a ∧ 0 ≤ keyT T a ∧ keyT T a ≤ 1125899906842624) ∧ 0 ≤ s ∧ s ≤ 1125899906842624 from ⟨hn, hl, hf, hs0, hs1⟩)
  clear x hh hn hl hf hs0 hs1
  go_enter Try.func43, Try.ntmps43
  go_wp2
  go_loopw [3] (fun v wr => ∃ (P H : List Int) (ad : Option Addr) (cap : Nat) (V' : Nat → Value), v = .slice ad P.length cap ∧ Hid (FarI w b m s last T V R P H (.slice ad P.length cap) wr V')) (fun v _ => 1024 - sliceLen v)
  case atStart => exact ⟨[], R 256, none, 0, V, rfl, HX⟩
  case round =>
    clear HX
    obtain ⟨P, H, ad, cap, V', rfl, HX⟩ := hrel
    obtain ⟨hn, hl, hf, hs0, hs1⟩ := HC.out
    have hlen := HX.out.len
    have c0 := HX.out.wh.box.cNow
    have c2 := HX.out.wh.box.cMap
    have cI := HX.out.wh.box.cIds
    have hrow := HX.out.wh.rows 256 (by omega)
    rw [upd_same] at hrow
    have hF := timerAt
    by_cases h0 : 0 < H.length
    · obtain ⟨g, cp, hV, hlc, hcm⟩ := hrow.formI h0
      rw [hV] at cI hrow
      have hg0 := hrow.nthCell h0
      have hmR : nth H 0 ∈ R 256 := HX.out.perm.mem_iff.1 (List.mem_append.2 (Or.inr (nth_mem h0)))
      obtain ⟨hfit, hk0, hk1⟩ := hf _ hmR
      have HLK : Hid (∀ n, (Instr.lookup 50 (.map (some m)) (.int .i64 (nth H 0)) false).run Try.prog (wr.drewN n) = .ok (.agg #[.int .i64 (keyT T (nth H 0)), .int .i64 (tagT T (nth H 0))]) (wr.drewN n)) := fun n => (HX.out.drewN n).wh.map.look hfit
      have HLV := hid (fun n => levelOf_any s (keyT T (nth H 0)) hs0 hs1 hk0 hk1 (wr.drewN n))
      have h01 : (0 : Int) < H.length := by omega
      have hHb : (H.length : Int) ≤ 1024 := by omega
      have hle := lev_le s (keyT T (nth H 0))
      by_cases h4 : lev s (keyT T (nth H 0)) = 4
      · have HE : Hid (∀ n, FarE w b m s last T V R P (.slice ad P.length cap) (wr.drewN n)) := fun n => ⟨H, V', HX.out.drewN n, fun _ => h4⟩
        rw [h4] at HLV
        clear hrow hV hlc hcm HX HC hn hl hf hs0 hs1 hmR hfit hk0 hk1 h4 hle hlen
        generalize keyT T (nth H 0) = t at *
        generalize tagT T (nth H 0) = gt at *
        generalize nth H 0 = a at *
        have hlk := HLK.out
        go_wp2_with fail
        go_quiet (first | (go_at_call 38; refine Calls.quiet_of_same (HLV.out _)) | fail)
        go_wp2
        go_ret
        exact ⟨ad, cap, P, rfl, HE.out _⟩
      · have hL4 : (lev s (keyT T (nth H 0)) : Int) < 4 := by omega
        have hL5 : lev s (keyT T (nth H 0)) < 4 := by omega
        have HP : Hid (∀ n, Calls Try.prog 46 #[.pointer (some ⟨b, 259, none⟩)] (wr.drewN n) fun e w' => e = .returned (.int .i64 (nth H 0)) ∧ ∃ w2 ad2 cap2 H1 V1, (Builtin.append_ #[36, 36] 36 #[.slice ad P.length cap, .slice (some ⟨w'.heap.size, 0, none⟩) 1 1]).run Try.prog (w'.alloc (.cells #[.int .i64 (nth H 0)] 3)) = .ok (.slice ad2 (P.length + 1) cap2) w2 ∧ Hid (FarI w b m s last T V R (P ++ [nth H 0]) H1 (.slice ad2 (P.length + 1) cap2) w2 V1)) := fun n => by
          have hx := HX.out.drewN n
          have h1 := pop_any b m s last T V' (upd R 256 H) (by rw [upd_same]; exact h0) (by rw [upd_same]; exact hx.heap) (by rw [upd_same]; exact fun a ha => (hf a (hx.perm.mem_iff.1 (List.mem_append.2 (Or.inr ha)))).1) (by rw [upd_same]; omega) _ hx.wh
          rw [upd_same] at h1
          refine h1.mono ?_
          rintro e w' ⟨rfl, V1, H1, HD⟩
          obtain ⟨w2, ad2, cap2, h2, h3⟩ := hx.next h0 hn hl h4 HD.out
          exact ⟨rfl, w2, ad2, cap2, H1, V1, h2, h3⟩
        have hPl : P.length < 1024 := by omega
        clear hrow hV hlc hcm HX HC hn hl hf hs0 hs1 hmR hfit hk0 hk1 h4 hle hlen
        generalize lev s (keyT T (nth H 0)) = L at *
        generalize keyT T (nth H 0) = t at *
        generalize tagT T (nth H 0) = gt at *
        generalize nth H 0 = a at *
        have hlk := HLK.out
        go_wp2_with fail
        go_quiet (first | (go_at_call 38; refine Calls.quiet_of_same (HLV.out _)) | fail)
        go_wp2_with (first
          | (go_at_call 46; refine (HP.out _).mono ?_; go_loud (rintro e w1 ⟨rfl, w2, ad2, cap2, H1, V1, hrun, HN⟩; have HRUN := hid hrun; clear hrun))
          | (at_builtin; refine wpList_append_run _ rfl _ _ _ _ rfl _ _ rfl rfl HRUN.out ?_)
          | fail)
        go_roundw
        case rel => exact ⟨P ++ [a], H1, ad2, cap2, V1, by simp, by rw [List.length_append]; exact HN⟩
        case measure => simp [sliceLen]; omega
    · have hH0 : H.length = 0 := by omega
      obtain ⟨ad0, cp, hV, _⟩ := hrow.form
      rw [ints_len, hH0] at hV
      rw [hV] at cI
      have HE : Hid (∀ n, FarE w b m s last T V R P (.slice ad P.length cap) (wr.drewN n)) := fun n => ⟨H, V', HX.out.drewN n, fun h => absurd h h0⟩
      clear hrow hV HX HC hn hl hf hs0 hs1 hlen h0 hH0
      go_wp2_with fail
      go_quiet (fail)
      go_wp2
      go_ret
      exact ⟨ad, cap, P, rfl, HE.out _⟩
end Go.Proofs.Ythgcjocjkeieaaa
