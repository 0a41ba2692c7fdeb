/-
  before, and swap, of a wheel's heap.
-/
import Derived.Test.YthgcjocjkeieaaaWMem
import Derived.Deep.RegionHeld3
import Derived.BigQuiet
import Derived.BigRegion
namespace Go.Proofs.Ythgcjocjkeieaaa
open Go.RowKit
set_option linter.all false

theorem timerAt (p q : Int) (w : World) : (Instr.field 65 (.agg #[.int .i64 p, .int .i64 q]) 0).run Try.prog w = .ok (.int .i64 p) w := by kernel_rfl
set_option maxHeartbeats 1000000 in
theorem before_any (b m : Nat) (now last : Int) (T : List Tm) (V : Nat → Value) (R : Nat → List Int) (a c : Int) (ha : fits a) (hc : fits c) (w : World) (x : WheelW w b m now last T V R) :
    Calls Try.prog 20 #[.pointer (some ⟨b, 0, none⟩), .int .i64 a, .int .i64 c] w fun e w' => e = .returned (.bool (decide (ahead (keyT T) a c))) ∧ ∃ q, w' = w.drewN q := by
  have hm := x.box.cMap
  have h1 := (x.map.keep (w' := w.drew) rfl).look ha
  have h2 := (x.map.keep (w' := w.drew) rfl).look hc
  have HK : decide (ahead (keyT T) a c) = if keyT T a = keyT T c then decide (a < c) else decide (keyT T a < keyT T c) := by
    by_cases e : keyT T a = keyT T c
    · rw [if_pos e]
      exact decide_eq_decide.2 ⟨fun h => by unfold ahead at h; omega, fun h => by unfold ahead; omega⟩
    · rw [if_neg e]
      exact decide_eq_decide.2 ⟨fun h => by unfold ahead at h; omega, fun h => by unfold ahead; omega⟩
  rw [HK]
  clear HK x
  have hF := timerAt
  generalize keyT T a = p at *
  generalize keyT T c = q at *
  generalize tagT T a = p2 at *
  generalize tagT T c = q2 at *
  by_cases e : p = q
  · subst e
    rw [if_pos rfl]
    go_enter Try.func20, Try.ntmps20
    go_wp2
    go_region
    all_goals
      go_wp2
      go_ret
      exact ⟨rfl, 1, rfl⟩
  · rw [if_neg e]
    go_enter Try.func20, Try.ntmps20
    go_wp2
    go_region
    all_goals
      go_wp2
      go_ret
      exact ⟨rfl, 1, rfl⟩
theorem Row.nthCell {w : World} {g n cap : Nat} {zs : List Int} (h : Row w 3 (.slice (some ⟨g, 0, none⟩) n cap) (ints zs)) {j : Nat} (hj : j < zs.length) : w.cell? ⟨g, j, none⟩ = some (.int .i64 (nth zs j)) := by
  obtain ⟨g', cap', hv, hc⟩ := h.cell j (by rw [ints_len]; exact hj)
  simp only [Value.slice.injEq, Option.some.injEq, Addr.mk.injEq] at hv
  obtain ⟨⟨rfl, _⟩, _⟩ := hv
  rw [hc, ints_get hj]
theorem Row.formI {w : World} {v : Value} {zs : List Int} (h : Row w 3 v (ints zs)) (h0 : 0 < zs.length) : ∃ g cap, v = .slice (some ⟨g, 0, none⟩) zs.length cap ∧ zs.length ≤ cap ∧ cap ≤ maxLen := by
  rcases h with ⟨rfl, hn⟩ | ⟨g, cap, cur, lo, hi, rfl, hg, hf, hl, hm, hs, ht⟩
  · simp [ints] at hn; subst hn; simp at h0
  · rw [ints_len] at hl ⊢; exact ⟨g, cap, rfl, hl, hm⟩
theorem Row.setI {w : World} {g n cap : Nat} {zs : List Int} (h : Row w 3 (.slice (some ⟨g, 0, none⟩) n cap) (ints zs)) {j : Nat} (hj : j < zs.length) (z : Int) : w.frozen? ⟨g, j, none⟩ = false ∧ Row (w.setCell ⟨g, j, none⟩ (.int .i64 z)) 3 (.slice (some ⟨g, 0, none⟩) n cap) (ints (zs.set j z)) := by
  obtain ⟨g', hg, _, hf, hr⟩ := h.set j (by rw [ints_len]; exact hj) (.int .i64 z)
  simp only [Option.some.injEq, Addr.mk.injEq] at hg
  obtain ⟨rfl, _⟩ := hg
  refine ⟨hf, ?_⟩
  have : (ints zs).set j (.int .i64 z) = ints (zs.set j z) := by simp [ints]
  rw [← this]
  exact hr
theorem updV_self (V : Nat → Value) (i : Nat) : updV V i (V i) = V := by funext j; unfold updV; split <;> simp_all
theorem upd_self (R : Nat → List Int) (i : Nat) : upd R i (R i) = R := by funext j; unfold upd; split <;> simp_all
/-- the heap's row is turned in its place. -/
theorem WheelW.setIn {w w1 : World} {b m : Nat} {now last : Int} {T : List Tm} {V : Nat → Value} {R : Nat → List Int} (x : WheelW w b m now last T V R) {i g : Nat} (hi : i ≤ 256) (hg : (V i).ownBlock = some g) {L : List Int} (hb : But g w w1) (hr : Row w1 3 (V i) (ints L)) :
    WheelW w1 b m now last T V (upd R i L) ∧ Turn b m w V w1 V := by
  have h := x.setRow (w1 := w1) (v := V i) (L := L) hi (by rw [updV_self]; exact x.box.keep (hb.block b (Ne.symm (x.row_ne_b hi hg)) x.box.lt)) hr (fun k h1 h2 hl => hb.block k (fun e => h2 (e ▸ hg)) hl) (fun g hg => Or.inl hg)
  rw [updV_self] at h
  exact ⟨h, Turn.but hb (Or.inr (Or.inr ⟨i, hi, hg⟩))⟩
set_option maxHeartbeats 2000000 in
theorem swap_any (b m : Nat) (now last : Int) (T : List Tm) (V : Nat → Value) (R : Nat → List Int) (i j : Nat) (hi : i < (R 256).length) (hj : j < (R 256).length) (hne : i ≠ j) (w : World) (x : WheelW w b m now last T V R) :
    Calls Try.prog 47 #[.pointer (some ⟨b, 259, none⟩), .int .i64 i, .int .i64 j] w fun e w' => e = .returned (.tuple #[]) ∧ Hid (WheelW w' b m now last T V (upd R 256 (swp (R 256) i j)) ∧ Turn b m w V w' V) := by
  have x1 := x.drewN 1
  have hrow := x1.rows 256 (by omega)
  obtain ⟨g, cap, hV, hlc, hcm⟩ := hrow.formI (by omega)
  have HV := hid hV
  have HX := hid x1
  have cI : w.cell? ⟨b, 260, none⟩ = some (.slice (some ⟨g, 0, none⟩) (R 256).length cap) := by have := x1.box.cIds; rw [hV] at this; exact this
  rw [hV] at hrow
  have c1 : w.cell? ⟨g, i, none⟩ = some (.int .i64 (nth (R 256) i)) := hrow.nthCell hi
  have c2 : w.cell? ⟨g, j, none⟩ = some (.int .i64 (nth (R 256) j)) := hrow.nthCell hj
  have f1 : w.frozen? ⟨g, i, none⟩ = false := (hrow.setI hi 0).1
  have f2 : w.frozen? ⟨g, j, none⟩ = false := (hrow.setI hj 0).1
  have HR := hid hrow
  have HI := hid hi
  have HJ := hid hj
  have hml : (R 256).length ≤ 9223372036854775807 := by unfold maxLen at hcm; omega
  clear hrow x x1 hV hcm hlc
  have HG : Hid (∀ L, Row ((w.drew.setCell ⟨g, i, none⟩ (.int .i64 (nth (R 256) j))).setCell ⟨g, j, none⟩ (.int .i64 (nth (R 256) i))) 3 (.slice (some ⟨g, 0, none⟩) (R 256).length cap) (ints L) → WheelW ((w.drew.setCell ⟨g, i, none⟩ (.int .i64 (nth (R 256) j))).setCell ⟨g, j, none⟩ (.int .i64 (nth (R 256) i))) b m now last T V (upd R 256 L) ∧ Turn b m w V ((w.drew.setCell ⟨g, i, none⟩ (.int .i64 (nth (R 256) j))).setCell ⟨g, j, none⟩ (.int .i64 (nth (R 256) i))) V) := fun L hL => by
    rw [← HV.out] at hL
    have h := HX.out.setIn (i := 256) (g := g) (by omega) (by rw [HV.out]; rfl) ((But.setCell g _ i _).trans (But.setCell g _ j _)) hL
    exact ⟨h.1, (Turn.drewN b m w V 1).trans h.2⟩
  have HL : Hid (Row ((w.drew.setCell ⟨g, i, none⟩ (.int .i64 (nth (R 256) j))).setCell ⟨g, j, none⟩ (.int .i64 (nth (R 256) i))) 3 (.slice (some ⟨g, 0, none⟩) (R 256).length cap) (ints (swp (R 256) i j))) := by
    have h1 := (HR.out.setI HI.out (nth (R 256) j)).2
    exact (h1.setI (by rw [List.length_set]; exact HJ.out) (nth (R 256) i)).2
  have HE : Hid (WheelW ((w.drew.setCell ⟨g, i, none⟩ (.int .i64 (nth (R 256) j))).setCell ⟨g, j, none⟩ (.int .i64 (nth (R 256) i))) b m now last T V (upd R 256 (swp (R 256) i j)) ∧ Turn b m w V ((w.drew.setCell ⟨g, i, none⟩ (.int .i64 (nth (R 256) j))).setCell ⟨g, j, none⟩ (.int .i64 (nth (R 256) i))) V) := HG.out _ HL.out
  clear HG HL HR HI HJ HX HV
  generalize upd R 256 (swp (R 256) i j) = R' at *
  generalize nth (R 256) i = p at *
  generalize nth (R 256) j = q at *
  generalize (R 256).length = N at *
  have hi2 : (i : Int) < N := by omega
  have hj2 : (j : Int) < N := by omega
  go_enter Try.func47, Try.ntmps47
  go_wp2
  go_region
  all_goals
    exact bodyPost_end (v := .tuple #[]) (by simp [results, Try.results47, go_sem]) rfl ⟨rfl, HE⟩
end Go.Proofs.Ythgcjocjkeieaaa
