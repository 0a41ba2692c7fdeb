/-
  slices.Sort at uint32: a row of numbers in memory while it is sorted; Less; insertion. For every seat that sorts []uint32.
-/
import Derived.Test.YtaaoelhmanahpaaBMem
import Derived.Sort.LotA
import Derived.Sort.LotB
import Derived.Sort.LotC
import Derived.Sort.LotD3
import Derived.Sort.Row
import Derived.CellFam
import Derived.BigGuard
import Derived.BigCall
import Derived.Deep.Draws
namespace Go.Proofs.Ytaaoelhmanahpaa
open Go.RowKit
open Go.Sort (swp insInner insOuter ltInt PermIn SortedIn SWO)
set_option linter.all false

/-- the row of numbers d from place off of block g on; all else is as in w0. -/
structure SW (w0 w : World) (g off : Nat) (d : Array Int) : Prop where
  cell : ∀ t, t < d.size → w.cell? ⟨g, off + t, none⟩ = some (.int .u32 d[t]!)
  free : ∀ t, t < d.size → w.frozen? ⟨g, off + t, none⟩ = false
  but : But g w0 w
section
variable {w0 w w' : World} {g off : Nat} {d : Array Int}
theorem SW.drewN (x : SW w0 w g off d) (n : Nat) : SW w0 (w.drewN n) g off d := ⟨x.cell, x.free, x.but.trans (But.drewN _ _ _)⟩
theorem SW.drew (x : SW w0 w g off d) : SW w0 w.drew g off d := ⟨x.cell, x.free, x.but.trans (But.drew _ _)⟩
theorem SW.lt (x : SW w0 w g off d) (h : 0 < d.size) : g < w.heap.size := by
  have := x.cell 0 h
  unfold World.cell? at this
  split at this
  · rename_i hb; exact heap_lt hb
  · simp at this
theorem SW.below (x : SW w0 w g off d) (h : 0 < d.size) (hb : Below w.heap.size w w') : SW w0 w' g off d := by
  have hl := x.lt h
  have he := hb.block g hl
  refine ⟨fun t ht => ?_, fun t ht => ?_, x.but.trans (But.of_below hb)⟩
  · rw [World.cell?_of_block (w := w) he]; exact x.cell t ht
  · have := x.free t ht
    unfold World.frozen? at *
    simp only [he]; exact this
theorem SW.set (x : SW w0 w g off d) {i : Nat} (hi : i < d.size) (v : Int) : SW w0 (w.setCell ⟨g, off + i, none⟩ (.int .u32 v)) g off (d.setIfInBounds i v) := by
  refine ⟨fun t ht => ?_, fun t ht => ?_, x.but.trans (But.setCell _ _ _ _)⟩
  · have ht' : t < d.size := by simpa using ht
    by_cases e : t = i
    · subst e
      rw [World.cell?_setCell_same (h := x.cell t ht'), Sort.getElem!_set_same _ _ _ ht']
    · rw [World.cell?_setCell_other (h := by intro h; injection h with _ h; omega), x.cell t ht', Sort.getElem!_set_other _ _ _ _ e]
  · rw [World.frozen?_setCell]
    exact x.free t (by simpa using ht)
theorem SW.swap (x : SW w0 w g off d) {i j : Nat} (hi : i < d.size) (hj : j < d.size) : SW w0 ((w.setCell ⟨g, off + i, none⟩ (.int .u32 d[j]!)).setCell ⟨g, off + j, none⟩ (.int .u32 d[i]!)) g off (swp d i j) :=
  (x.set hi d[j]!).set (by simpa using hj) d[i]!
theorem SW.start (w : World) (g off : Nat) (d : Array Int) (hc : ∀ t, t < d.size → w.cell? ⟨g, off + t, none⟩ = some (.int .u32 d[t]!)) (hf : ∀ t, t < d.size → w.frozen? ⟨g, off + t, none⟩ = false) : SW w w g off d := ⟨hc, hf, But.refl _ _⟩
theorem SW.from (x : SW w w' g off d) (h : But g w0 w) : SW w0 w' g off d := ⟨x.cell, x.free, h.trans x.but⟩
theorem SW.self (x : SW w0 w g off d) : SW w w g off d := ⟨x.cell, x.free, But.refl _ _⟩
/-- the row's numbers as a letter: what loads and stores read. -/
theorem SW.fam (x : SW w0 w g off d) {n : Nat} (hn : d.size = n) : ∃ G : Nat → Int, Hid (∀ t, G t = d[t]!) ∧ (∀ t, t < n → w.cell? ⟨g, off + t, none⟩ = some (.int .u32 (G t))) ∧ ∀ t, t < n → w.frozen? ⟨g, off + t, none⟩ = false :=
  ⟨fun t => d[t]!, fun _ => rfl, fun t ht => x.cell t (by omega), fun t ht => x.free t (by omega)⟩
end
def intOf : Value → Int | .int _ q => q | _ => 0

theorem isNaN_any (x : Int) (w : World) : Calls Try.prog 97 #[.int .u32 x] w fun e w' => e = .returned (.bool false) ∧ w' = w := by
  go_enter Try.func97, Try.ntmps97
  go_wp2
  go_ret
  exact ⟨by simp, rfl⟩
theorem less_any (x y : Int) (w : World) : Calls Try.prog 87 #[.int .u32 x, .int .u32 y] w fun e w' => e = .returned (.bool (ltInt x y)) ∧ w' = w := by
  go_enter Try.func87, Try.ntmps87
  go_wp2_with (go_at_call 97; refine (isNaN_any _ _).mono ?_; rintro e w' ⟨rfl, rfl⟩)
  go_ret
  exact ⟨rfl, rfl⟩

/-! ### insertion -/
section
variable {lt : Int → Int → Bool}
theorem ins_go {a j : Nat} {d : Array Int} (hj : a < j) (hl : lt d[j]! d[j - 1]! = true) : insInner lt a j d = insInner lt a (j - 1) (swp d j (j - 1)) := by
  cases j with
  | zero => omega
  | succ k => rw [Nat.add_sub_cancel] at hl ⊢; rw [insInner]; simp [hj, hl]
theorem ins_stop {a j : Nat} {d : Array Int} (h : j ≤ a ∨ lt d[j]! d[j - 1]! = false) : insInner lt a j d = d := by
  cases j with
  | zero => rw [insInner]
  | succ k =>
    rw [Nat.add_sub_cancel] at h
    rw [insInner]
    rcases h with h | h
    · rw [if_neg (by simp; omega)]
    · simp [h]
theorem outer_go {a b i : Nat} {d : Array Int} (h : i < b) : insOuter lt a b i d = insOuter lt a b (i + 1) (insInner lt a i d) := by rw [insOuter, if_pos h]
theorem outer_stop {a b i : Nat} {d : Array Int} (h : ¬ i < b) : insOuter lt a b i d = d := by rw [insOuter, if_neg h]
end
theorem swp_len (d : Array Int) (i j : Nat) : (swp d i j).size = d.size := by simp [swp]
set_option maxHeartbeats 2000000 in
theorem insertion_any (w0 : World) (g off cap a b : Nat) (d : Array Int) (w : World) (x : SW w0 w g off d) (hab : a ≤ b) (hb : b ≤ d.size) (hsz : d.size < 4611686018427387904) :
    Calls Try.prog 81 #[.slice (some ⟨g, off, none⟩) d.size cap, .int .i64 a, .int .i64 b] w fun e w' => e = .returned (.tuple #[]) ∧ Hid (SW w0 w' g off (Sort.insertionSort ltInt d a b)) := by
  have HX := hid x
  clear x
  go_enter Try.func81, Try.ntmps81
  go_wp2
  go_loopw [6, 7] (fun vi _ wr => ∃ (i : Nat) (dk : Array Int), vi = .int .i64 i ∧ a < i ∧ i ≤ b + 1 ∧ dk.size = d.size ∧ Hid (SW w0 wr g off dk) ∧ Hid (insOuter ltInt a b i dk = insOuter ltInt a b (a + 1) d)) (fun vi _ _ => b + 1 - (intOf vi).toNat)
  case atStart => exact ⟨a + 1, d, by go_num, by omega, by omega, rfl, HX, rfl⟩
  case round =>
    clear HX
    obtain ⟨i, dk, rfl, hai, hib, hsk, HX, HO⟩ := hrel
    go_wp2
    · have hlt : i < b := by assumption
      go_loopw [7] (fun vj wr2 => ∃ (j : Nat) (dj : Array Int), vj = .int .i64 j ∧ a ≤ j ∧ j ≤ i ∧ dj.size = d.size ∧ Hid (SW w0 wr2 g off dj) ∧ Hid (insInner ltInt a j dj = insInner ltInt a i dk)) (fun vj _ => (intOf vj).toNat)
      case atStart => exact ⟨i, dk, rfl, by omega, Nat.le_refl _, hsk, HX, rfl⟩
      case round =>
        clear HX
        obtain ⟨j, dj, rfl, haj, hji, hsj, HX, HI⟩ := hrel
        obtain ⟨G, HG, hcw, hfw⟩ := HX.out.fam hsj
        have HLT := hid hlt
        have HOUT : Hid ((j ≤ a ∨ ltInt dj[j]! dj[j - 1]! = false) → ∀ q, ∃ (i' : Nat) (dk' : Array Int), Value.int .i64 ((i : Int) + 1) = .int .i64 (i' : Nat) ∧ a < i' ∧ i' ≤ b + 1 ∧ dk'.size = d.size ∧ Hid (SW w0 (wr.drewN q) g off dk') ∧ Hid (insOuter ltInt a b i' dk' = insOuter ltInt a b (a + 1) d)) := fun hs q =>
          ⟨i + 1, dj, by go_num, by omega, by omega, hsj, HX.out.drewN q, by unfold Hid; rw [← HO.out, outer_go HLT.out, ← HI.out, ins_stop hs]⟩
        go_wp2
        by_cases hja : a < j
        · go_quiet (first | (go_at_call 87; refine Calls.quiet_of_same (less_any _ _ _)))
          go_wp2
          · have hl : ltInt (G j) (G (j - 1)) = true := by assumption
            go_region
            all_goals go_wp2
            go_roundw
            case rel =>
              refine ⟨j - 1, swp dj j (j - 1), by congr 1; omega, by omega, by omega, by rw [swp_len]; exact hsj, ?_, ?_⟩
              · have := (HX.out.drewN (nq + 1)).swap (i := j) (j := j - 1) (by omega) (by omega)
                rw [HG.out, HG.out]; exact this
              · unfold Hid; rw [← HI.out, ins_go hja (by rw [← HG.out, ← HG.out]; exact hl)]
            case measure => simp [intOf]; omega
          · have hl : ltInt (G j) (G (j - 1)) = false := by assumption
            go_roundw
            case rel => exact HOUT.out (Or.inr (by rw [← HG.out, ← HG.out]; exact hl)) nq
            case measure => simp [intOf]; omega
        · go_quiet (first | (go_at_call 87; refine Calls.quiet_of_same (less_any _ _ _)))
          go_wp2
          go_roundw
          case rel => exact HOUT.out (Or.inl (by omega)) nq
          case measure => simp [intOf]; omega
    · have hge : ¬ i < b := by assumption
      go_end0
      refine ⟨rfl, ?_⟩
      unfold Hid Sort.insertionSort
      rw [← HO.out, outer_stop hge]
      exact HX.out
end Go.Proofs.Ytaaoelhmanahpaa
