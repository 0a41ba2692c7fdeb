/-
  What Parse has in memory; the contract of gathered.meet.
-/
import Derived.Test.YtmdkanbfpmdimaaOMem
import Derived.Test.YtmdkanbfpmdimaaBBig
import Derived.Test.YtmdkanbfpmdimaaBStep
namespace Go.Proofs.Ytmdkanbfpmdimaa
open Go.RowKit
set_option linter.all false

/-- what stands for a code among the places. -/
def plV (g : List Opt) (c : Int) : Int := if plc g c < g.length then (plc g c : Int) + 1 else 0
abbrev codes (E : List (Opt × Value)) : List Opt := E.map Prod.fst
/-- what was gathered, in memory. -/
structure GI (B : Nat) (w : World) (gb : Nat) (v : Value) (E : List (Opt × Value)) (C : Array Value) : Prop where
  box : w.heap[gb]? = some (.cells C 61 (0, 0))
  size : C.size = 256
  at0 : C[0]? = some v
  at_ : ∀ j : Nat, j < 255 → C[1 + j]? = some (.int .i64 (plV (codes E) j))
  own : OwnO B w v E
  low : B ≤ gb
  base : B ≤ w.heap.size
theorem GI.keep {B : Nat} {w w' : World} {gb : Nat} {v : Value} {E : List (Opt × Value)} {C : Array Value} (h : GI B w gb v E C) (hb : Below w.heap.size w w') : GI B w' gb v E C :=
  ⟨kept h.box hb, h.size, h.at0, h.at_, h.own.below hb, h.low, Nat.le_trans h.base hb.size⟩
theorem plV_new (g : List Opt) (c : Int) (hn : ¬ plc g c < g.length) (zs : List Int) (d : Int) : plV (g ++ [(c, zs)]) d = if d = c then (g.length : Int) + 1 else plV g d := by
  unfold plV
  by_cases hd : d = c
  · subst hd
    rw [plc_self zs hn, if_pos rfl, if_pos (by simp)]
  · rw [if_neg hd, plc_new zs hd]
    by_cases h : plc g d < g.length
    · rw [if_pos h, if_pos h, if_pos (by simp; omega)]
    · rw [if_neg h, if_neg h, if_neg (by simp)]
/-- the box is none of the others' blocks. -/
theorem GI.off {B : Nat} {w : World} {gb : Nat} {v : Value} {E : List (Opt × Value)} {C : Array Value} (h : GI B w gb v E C) {b : Nat} (hi : InO v E b) : b ≠ gb := fun e => by
  subst e
  rcases hi with hi | ⟨p, hp, hi⟩
  · obtain ⟨c1, h1⟩ := h.own.row.obj hi
    rw [h.box] at h1
    simp at h1
  · obtain ⟨c1, f1, h1⟩ := (h.own.data p hp).obj hi
    rw [h.box] at h1
    simp at h1
/-- a code that comes for the first time. -/
theorem GI.push {B : Nat} {w : World} {gb : Nat} {v : Value} {E : List (Opt × Value)} {C : Array Value} (h : GI B w gb v E C) (q : Nat) (hq : q < 255) (hn : ¬ plc (codes E) q < (codes E).length) (hf : E.length ≤ 64) :
    ∃ a n c w1, (Builtin.append_ #[25, 25] 25 #[v, .slice (some ⟨w.heap.size, 0, none⟩) 1 1]).run Try.prog (w.alloc (.cells #[.int .i64 q, .slice none 0 0] 45)) = .ok (.slice a n c) w1 ∧ n = E.length + 1 ∧
      w1.cell? ⟨gb, 0, none⟩ = some v ∧ w1.frozen? ⟨gb, 0, none⟩ = false ∧ (w1.setCell ⟨gb, 0, none⟩ (.slice a n c)).cell? ⟨gb, 0, none⟩ = some (.slice a n c) ∧ (∃ u, (w1.setCell ⟨gb, 0, none⟩ (.slice a n c)).cell? ⟨gb, 1 + q, none⟩ = some u) ∧ (w1.setCell ⟨gb, 0, none⟩ (.slice a n c)).frozen? ⟨gb, 1 + q, none⟩ = false ∧
      ((w1.setCell ⟨gb, 0, none⟩ (.slice a n c)).setCell ⟨gb, 1 + q, none⟩ (.int .i64 ((E.length : Int) + 1))).cell? ⟨gb, 1 + q, none⟩ = some (.int .i64 ((E.length : Int) + 1)) ∧
      Hid (GI B ((w1.setCell ⟨gb, 0, none⟩ (.slice a n c)).setCell ⟨gb, 1 + q, none⟩ (.int .i64 ((E.length : Int) + 1))) gb (.slice a n c) (E ++ [(((q : Int), []), .slice none 0 0)]) ((C.setIfInBounds 0 (.slice a n c)).setIfInBounds (1 + q) (.int .i64 ((E.length : Int) + 1))) ∧ Below B w ((w1.setCell ⟨gb, 0, none⟩ (.slice a n c)).setCell ⟨gb, 1 + q, none⟩ (.int .i64 ((E.length : Int) + 1)))) := by
  have ha := h.own.below (bpush (Below.refl _ w) (.cells #[.int .i64 q, .slice none 0 0] 45))
  obtain ⟨v', w1, h1, h2, h3, h4⟩ := append_s 25 25 45 _ 2 32 Try.underlying25 infoOpt rfl (by decide) ha.row ⟨w.heap.size, 0, none⟩ 1 1 [.int .i64 q, .slice none 0 0] rfl (fun j u hj => by
    have e : (⟨w.heap.size, 0, none⟩ : Addr).add j = ⟨w.heap.size, j, none⟩ := by unfold Addr.add; split <;> simp_all
    rw [e, cell_of_heap (heap_new w _)]
    simpa using hj) (by simp [Value.oneCell']) (by unfold maxLen; omega) (by omega)
  obtain ⟨o1, o2⟩ := ha.push (c := q) (zs := []) (d := .slice none 0 0) (by simp; have := h.base; omega) (Row.nil _ _) (by simp) (by simp [Value.ownBlock]) h2 h3 h4
  obtain ⟨a, c, e, _⟩ := o1.form
  simp only [List.length_append, List.length_cons, List.length_nil, Nat.zero_add] at e
  subst e
  have hgl := heap_lt h.box
  have hb1 : w1.heap[gb]? = some (.cells C 61 (0, 0)) := by
    rw [h3.block gb (by simp; omega) (fun e => h.off (Or.inl e.symm) rfl)]
    exact (heap_old _ _ hgl).trans h.box
  have hs := h.size
  have hb2 := heap_setCell (j := 0) (v := .slice a (E.length + 1) c) hb1
  have hb3 := heap_setCell (j := 1 + q) (v := .int .i64 ((E.length : Int) + 1)) hb2
  have hoff : ∀ b, InO (.slice a (E.length + 1) c) (E ++ [(((q : Int), []), .slice none 0 0)]) b → b ≠ gb := fun b hi e => by
    subst e
    rcases hi with hi | ⟨p, hp, hi⟩
    · obtain ⟨c1, h1⟩ := o1.row.obj hi
      rw [hb1] at h1
      simp at h1
    · obtain ⟨c1, f1, h1⟩ := (o1.data p hp).obj hi
      rw [hb1] at h1
      simp at h1
  refine ⟨a, E.length + 1, c, w1, h1, rfl, by rw [cell_of_heap hb1]; exact h.at0, frozen_of_heap hb1 0, ?_, ?_, frozen_of_heap hb2 _, ?_, ⟨hb3, by simpa using hs, ?_, fun j hj => ?_, ?_, h.low, ?_⟩, ?_⟩
  · rw [cell_of_heap hb2, Array.getElem?_setIfInBounds]
    rw [if_pos rfl, if_pos (by omega)]
  · exact ⟨C[1 + q]'(by omega), by rw [cell_of_heap hb2, Array.getElem?_setIfInBounds_ne (by omega)]; rw [Array.getElem?_eq_getElem (by omega)]⟩
  · rw [cell_of_heap hb3, Array.getElem?_setIfInBounds, if_pos rfl, if_pos (by simp; omega)]
  · rw [Array.getElem?_setIfInBounds_ne (by omega), Array.getElem?_setIfInBounds, if_pos rfl, if_pos (by omega)]
  · rw [codes, List.map_append]
    show _ = some (Value.int .i64 (plV (codes E ++ [((q : Int), [])]) j))
    rw [plV_new (codes E) q hn]
    by_cases hjq : j = q
    · subst hjq
      rw [Array.getElem?_setIfInBounds, if_pos rfl, if_pos (by simp; omega), if_pos rfl, codes, List.length_map]
    · rw [Array.getElem?_setIfInBounds_ne (by omega), Array.getElem?_setIfInBounds_ne (by omega), h.at_ j hj, if_neg (by omega)]
  · refine o1.keep fun b hi => ?_
    have := hoff b hi
    rw [Below.heap_setCell _ _ _ _ (by simpa using this), Below.heap_setCell _ _ _ _ (by simpa using this)]
  · have := o2.size
    have := h.base
    simp [World.setCell] at *
    omega
  · refine (((bpush (Below.refl _ w) _).mono h.base).trans o2).trans ?_
    have hbb : B ≤ w1.heap.size := by have := o2.size; have := h.base; simp at *; omega
    exact ((But.setCell gb w1 0 _).below h.low hbb).trans ((But.setCell gb _ (1 + q) _).below h.low (by simpa [World.setCell] using hbb))

/-- behind meet: where the code stands now. -/
def metE (E : List (Opt × Value)) (q : Nat) : List (Opt × Value) := if plc (codes E) q < (codes E).length then E else E ++ [(((q : Int), []), .slice none 0 0)]
set_option maxRecDepth 20000 in
set_option maxHeartbeats 1000000 in
theorem meet_is (B gb : Nat) (v : Value) (E : List (Opt × Value)) (C : Array Value) (q : Nat) (w : World) (h : GI B w gb v E C) (hq : q < 255) (hl : plc (codes E) q < (codes E).length) (hf : E.length ≤ 64) :
    Calls Try.prog 34 #[.pointer (some ⟨gb, 0, none⟩), .int .i64 q] w fun e w' => e = .returned (.tuple #[.int .i64 (plc (codes E) q), .bool true]) ∧ w' = w := by
  have hc : w.cell? ⟨gb, 1 + q, none⟩ = some (.int .i64 ((plc (codes E) q : Int) + 1)) := by
    rw [cell_of_heap h.box, h.at_ q hq, plV, if_pos hl]
  have hpl : plc (codes E) q ≤ 9223372036854775000 := by
    simp only [codes, List.length_map] at hl
    simp only [codes]
    omega
  generalize plc (codes E) q = P at *
  clear h hl
  have hq' : (q : Int) < 255 := by omega
  go_enter Try.func34, Try.ntmps34
  go_wp2
  all_goals first
    | (exfalso; omega)
    | (go_ret2; exact ⟨by first | rfl | simp, rfl⟩)
set_option maxRecDepth 20000 in
set_option maxHeartbeats 1000000 in
theorem meet_full (B gb : Nat) (v : Value) (E : List (Opt × Value)) (C : Array Value) (q : Nat) (w : World) (h : GI B w gb v E C) (hq : q < 255) (hl : ¬ plc (codes E) q < (codes E).length) (h64 : E.length = 64) :
    Calls Try.prog 34 #[.pointer (some ⟨gb, 0, none⟩), .int .i64 q] w fun e w' => e = .returned (.tuple #[.int .i64 0, .bool false]) ∧ w' = w := by
  have hc : w.cell? ⟨gb, 1 + q, none⟩ = some (.int .i64 0) := by
    rw [cell_of_heap h.box, h.at_ q hq, plV, if_neg hl]
  obtain ⟨a, c, e, hm⟩ := h.own.form
  have hc0 : w.cell? ⟨gb, 0, none⟩ = some (.slice a 64 c) := by rw [cell_of_heap h.box, h.at0, e, h64]
  clear h hl e
  have hq' : (q : Int) < 255 := by omega
  go_enter Try.func34, Try.ntmps34
  go_wp2
  go_ret2
  exact ⟨rfl, rfl⟩
set_option maxRecDepth 20000 in
set_option maxHeartbeats 1000000 in
theorem meet_new (B gb : Nat) (v : Value) (E : List (Opt × Value)) (C : Array Value) (q : Nat) (w : World) (h : GI B w gb v E C) (hq : q < 255) (hl : ¬ plc (codes E) q < (codes E).length) (h64 : E.length < 64) :
    Calls Try.prog 34 #[.pointer (some ⟨gb, 0, none⟩), .int .i64 q] w fun e w' => e = .returned (.tuple #[.int .i64 E.length, .bool true]) ∧ Hid (∃ v' C', GI B w' gb v' (E ++ [(((q : Int), []), .slice none 0 0)]) C' ∧ Below B w w') := by
  have hc : w.cell? ⟨gb, 1 + q, none⟩ = some (.int .i64 0) := by
    rw [cell_of_heap h.box, h.at_ q hq, plV, if_neg hl]
  obtain ⟨a, c, e, hm⟩ := h.own.form
  subst e
  have hc0 : w.cell? ⟨gb, 0, none⟩ = some (.slice a E.length c) := by rw [cell_of_heap h.box, h.at0]
  obtain ⟨a1, n1, c1, w1, r1, en, k0, f0, k1, ⟨u, k2⟩, f2, k3, HG⟩ := h.push q hq hl (by omega)
  have HR := hid r1
  have HF : Hid (∃ v' C', GI B ((w1.setCell ⟨gb, 0, none⟩ (.slice a1 n1 c1)).setCell ⟨gb, 1 + q, none⟩ (.int .i64 ((E.length : Int) + 1))).drew gb v' (E ++ [(((q : Int), []), .slice none 0 0)]) C' ∧ Below B w ((w1.setCell ⟨gb, 0, none⟩ (.slice a1 n1 c1)).setCell ⟨gb, 1 + q, none⟩ (.int .i64 ((E.length : Int) + 1))).drew) := ⟨_, _, HG.out.1.keep (Below.refl _ _).drew, HG.out.2.drew⟩
  have hn1 : (n1 : Int) = (E.length : Int) + 1 := by omega
  have hne : ((E.length : Int) == 64) = false := by simp; omega
  clear h hl r1 HG hm en
  have hq' : (q : Int) < 255 := by omega
  generalize E.length = n at *
  go_enter Try.func34, Try.ntmps34
  go_wp2_with (first
    | (at_builtin; refine wpList_append_run _ rfl _ _ _ _ rfl _ _ rfl rfl HR.out ?_; clear HR))
  generalize hW : w1.setCell ⟨gb, 0, none⟩ (.slice a1 n1 c1) = W2 at *
  clear hW
  go_region
  all_goals (try go_wp2)
  go_ret2
  exact ⟨rfl, HF.out⟩
end Go.Proofs.Ytmdkanbfpmdimaa
