import Derived.Test.YtaaoelhmanahpaaBMem
import Derived.Sort.LotA
import Derived.Sort.LotB
import Derived.Sort.LotC
import Derived.Sort.LotD3
import Derived.Sort.Row
import Derived.CellFam
import Derived.BigGuard
import Derived.BigCall
import Derived.Deep.Draws
import Derived.BigRegion
/-
  slices.Sort at uint32: a row of numbers in memory while it is sorted; Less; insertion. For every seat that sorts []uint32.
-/
namespace Go.Proofs.Ytaaoelhmanahpaa
open Go.RowKit
open Go.Sort (swp insInner insOuter ltInt PermIn SortedIn SWO)
set_option linter.all false

/-- the row of numbers d from place off of block g on; all else is as in w0. -/
structure SW (w0 w : World) (g off : Nat) (d : Array Int) : Prop where
  cell : ∀ t, t < d.size → w.cell? ⟨g, off + t, none⟩ = some (.int .u32 d[t]!)
  free : ∀ t, t < d.size → w.frozen? ⟨g, off + t, none⟩ = false
  but : But g w0 w
section
variable {w0 w w' : World} {g off : Nat} {d : Array Int}
theorem SW.drewN (x : SW w0 w g off d) (n : Nat) : SW w0 (w.drewN n) g off d := ⟨x.cell, x.free, x.but.trans (But.drewN _ _ _)⟩
theorem SW.drew (x : SW w0 w g off d) : SW w0 w.drew g off d := ⟨x.cell, x.free, x.but.trans (But.drew _ _)⟩
theorem SW.lt (x : SW w0 w g off d) (h : 0 < d.size) : g < w.heap.size := by
  have := x.cell 0 h
  unfold World.cell? at this
  split at this
  · rename_i hb; exact heap_lt hb
  · simp at this
theorem SW.below (x : SW w0 w g off d) (h : 0 < d.size) (hb : Below w.heap.size w w') : SW w0 w' g off d := by
  have hl := x.lt h
  have he := hb.block g hl
  refine ⟨fun t ht => ?_, fun t ht => ?_, x.but.trans (But.of_below hb)⟩
  · rw [World.cell?_of_block (w := w) he]; exact x.cell t ht
  · have := x.free t ht
    unfold World.frozen? at *
    simp only [he]; exact this
theorem SW.set (x : SW w0 w g off d) {i : Nat} (hi : i < d.size) (v : Int) : SW w0 (w.setCell ⟨g, off + i, none⟩ (.int .u32 v)) g off (d.setIfInBounds i v) := by
  refine ⟨fun t ht => ?_, fun t ht => ?_, x.but.trans (But.setCell _ _ _ _)⟩
  · have ht' : t < d.size := by simpa using ht
    by_cases e : t = i
    · subst e
      rw [World.cell?_setCell_same (h := x.cell t ht'), Sort.getElem!_set_same _ _ _ ht']
    · rw [World.cell?_setCell_other (h := by intro h; injection h with _ h; omega), x.cell t ht', Sort.getElem!_set_other _ _ _ _ e]
  · rw [World.frozen?_setCell]
    exact x.free t (by simpa using ht)
theorem SW.swap (x : SW w0 w g off d) {i j : Nat} (hi : i < d.size) (hj : j < d.size) : SW w0 ((w.setCell ⟨g, off + i, none⟩ (.int .u32 d[j]!)).setCell ⟨g, off + j, none⟩ (.int .u32 d[i]!)) g off (swp d i j) :=
  (x.set hi d[j]!).set (by simpa using hj) d[i]!
theorem SW.start (w : World) (g off : Nat) (d : Array Int) (hc : ∀ t, t < d.size → w.cell? ⟨g, off + t, none⟩ = some (.int .u32 d[t]!)) (hf : ∀ t, t < d.size → w.frozen? ⟨g, off + t, none⟩ = false) : SW w w g off d := ⟨hc, hf, But.refl _ _⟩
theorem SW.from (x : SW w w' g off d) (h : But g w0 w) : SW w0 w' g off d := ⟨x.cell, x.free, h.trans x.but⟩
theorem SW.self (x : SW w0 w g off d) : SW w w g off d := ⟨x.cell, x.free, But.refl _ _⟩
/-- the row's numbers as a letter: what loads and stores read. -/
theorem SW.fam (x : SW w0 w g off d) {n : Nat} (hn : d.size = n) : ∃ G : Nat → Int, Hid (∀ t, G t = d[t]!) ∧ (∀ t, t < n → w.cell? ⟨g, off + t, none⟩ = some (.int .u32 (G t))) ∧ ∀ t, t < n → w.frozen? ⟨g, off + t, none⟩ = false :=
  ⟨fun t => d[t]!, fun _ => rfl, fun t ht => x.cell t (by omega), fun t ht => x.free t (by omega)⟩
end
def intOf : Value → Int | .int _ q => q | _ => 0

theorem isNaN_any (x : Int) (w : World) : Calls Try.prog 97 #[.int .u32 x] w fun e w' => e = .returned (.bool false) ∧ w' = w := by
  go_enter Try.func97, Try.ntmps97
  go_wp2
  go_ret
  exact ⟨by simp, rfl⟩
theorem less_any (x y : Int) (w : World) : Calls Try.prog 87 #[.int .u32 x, .int .u32 y] w fun e w' => e = .returned (.bool (ltInt x y)) ∧ w' = w := by
  go_enter Try.func87, Try.ntmps87
  go_wp2_with (go_at_call 97; refine (isNaN_any _ _).mono ?_; rintro e w' ⟨rfl, rfl⟩)
  go_ret
  exact ⟨rfl, rfl⟩

/-! ### insertion -/
section
variable {lt : Int → Int → Bool}
theorem ins_go {a j : Nat} {d : Array Int} (hj : a < j) (hl : lt d[j]! d[j - 1]! = true) : insInner lt a j d = insInner lt a (j - 1) (swp d j (j - 1)) := by
  cases j with
  | zero => omega
  | succ k => rw [Nat.add_sub_cancel] at hl ⊢; rw [insInner]; simp [hj, hl]
theorem ins_stop {a j : Nat} {d : Array Int} (h : j ≤ a ∨ lt d[j]! d[j - 1]! = false) : insInner lt a j d = d := by
  cases j with
  | zero => rw [insInner]
  | succ k =>
    rw [Nat.add_sub_cancel] at h
    rw [insInner]
    rcases h with h | h
    · rw [if_neg (by simp; omega)]
    · simp [h]
theorem outer_go {a b i : Nat} {d : Array Int} (h : i < b) : insOuter lt a b i d = insOuter lt a b (i + 1) (insInner lt a i d) := by rw [insOuter, if_pos h]
theorem outer_stop {a b i : Nat} {d : Array Int} (h : ¬ i < b) : insOuter lt a b i d = d := by rw [insOuter, if_neg h]
end
theorem swp_len (d : Array Int) (i j : Nat) : (swp d i j).size = d.size := by simp [swp]
set_option maxHeartbeats 2000000 in
theorem insertion_any (w0 : World) (g off cap a b : Nat) (d : Array Int) (w : World) (x : SW w0 w g off d) (hab : a ≤ b) (hb : b ≤ d.size) (hsz : d.size < 4611686018427387904) :
    Calls Try.prog 81 #[.slice (some ⟨g, off, none⟩) d.size cap, .int .i64 a, .int .i64 b] w fun e w' => e = .returned (.tuple #[]) ∧ Hid (SW w0 w' g off (Sort.insertionSort ltInt d a b)) := by
  have HX := hid x
  clear x
  go_enter Try.func81, Try.ntmps81
  go_wp2
  go_loopw [6, 7] (fun vi _ wr => ∃ (i : Nat) (dk : Array Int), vi = .int .i64 i ∧ a < i ∧ i ≤ b + 1 ∧ dk.size = d.size ∧ Hid (SW w0 wr g off dk) ∧ Hid (insOuter ltInt a b i dk = insOuter ltInt a b (a + 1) d)) (fun vi _ _ => b + 1 - (intOf vi).toNat)
  case atStart => exact ⟨a + 1, d, by go_num, by omega, by omega, rfl, HX, rfl⟩
  case round =>
    clear HX
    obtain ⟨i, dk, rfl, hai, hib, hsk, HX, HO⟩ := hrel
    go_wp2
    · have hlt : i < b := by assumption
      go_loopw [7] (fun vj wr2 => ∃ (j : Nat) (dj : Array Int), vj = .int .i64 j ∧ a ≤ j ∧ j ≤ i ∧ dj.size = d.size ∧ Hid (SW w0 wr2 g off dj) ∧ Hid (insInner ltInt a j dj = insInner ltInt a i dk)) (fun vj _ => (intOf vj).toNat)
      case atStart => exact ⟨i, dk, rfl, by omega, Nat.le_refl _, hsk, HX, rfl⟩
      case round =>
        clear HX
        obtain ⟨j, dj, rfl, haj, hji, hsj, HX, HI⟩ := hrel
        obtain ⟨G, HG, hcw, hfw⟩ := HX.out.fam hsj
        have HLT := hid hlt
        have HOUT : Hid ((j ≤ a ∨ ltInt dj[j]! dj[j - 1]! = false) → ∀ q, ∃ (i' : Nat) (dk' : Array Int), Value.int .i64 ((i : Int) + 1) = .int .i64 (i' : Nat) ∧ a < i' ∧ i' ≤ b + 1 ∧ dk'.size = d.size ∧ Hid (SW w0 (wr.drewN q) g off dk') ∧ Hid (insOuter ltInt a b i' dk' = insOuter ltInt a b (a + 1) d)) := fun hs q =>
          ⟨i + 1, dj, by go_num, by omega, by omega, hsj, HX.out.drewN q, by unfold Hid; rw [← HO.out, outer_go HLT.out, ← HI.out, ins_stop hs]⟩
        go_wp2
        by_cases hja : a < j
        · go_quiet (first | (go_at_call 87; refine Calls.quiet_of_same (less_any _ _ _)))
          go_wp2
          · have hl : ltInt (G j) (G (j - 1)) = true := by assumption
            go_region
            all_goals go_wp2
            go_roundw
            case rel =>
              refine ⟨j - 1, swp dj j (j - 1), by congr 1; omega, by omega, by omega, by rw [swp_len]; exact hsj, ?_, ?_⟩
              · have := (HX.out.drewN (nq + 1)).swap (i := j) (j := j - 1) (by omega) (by omega)
                rw [HG.out, HG.out]; exact this
              · unfold Hid; rw [← HI.out, ins_go hja (by rw [← HG.out, ← HG.out]; exact hl)]
            case measure => simp [intOf]; omega
          · have hl : ltInt (G j) (G (j - 1)) = false := by assumption
            go_roundw
            case rel => exact HOUT.out (Or.inr (by rw [← HG.out, ← HG.out]; exact hl)) nq
            case measure => simp [intOf]; omega
        · go_quiet (first | (go_at_call 87; refine Calls.quiet_of_same (less_any _ _ _)))
          go_wp2
          go_roundw
          case rel => exact HOUT.out (Or.inl (by omega)) nq
          case measure => simp [intOf]; omega
    · have hge : ¬ i < b := by assumption
      go_end0
      refine ⟨rfl, ?_⟩
      unfold Hid Sort.insertionSort
      rw [← HO.out, outer_stop hge]
      exact HX.out
end Go.Proofs.Ytaaoelhmanahpaa

/-
  slices.Sort at uint32: the heap, and the turning round.
-/
namespace Go.Proofs.Ytaaoelhmanahpaa
open Go.RowKit
open Go.Sort (swp siftDown heapBuild heapPop ltInt PermIn SortedIn SWO)
set_option linter.all false

theorem SW.fam2 {w0 w : World} {g off n : Nat} {d : Array Int} (x : SW w0 w g off d) (hn : d.size = n) {G : Nat → Int} (hG : ∀ t, G t = d[t]!) : (∀ t, t < n → w.cell? ⟨g, off + t, none⟩ = some (.int .u32 (G t))) ∧ ∀ t, t < n → w.frozen? ⟨g, off + t, none⟩ = false :=
  ⟨fun t ht => by rw [hG]; exact x.cell t (by omega), fun t ht => x.free t (by omega)⟩
section
variable {lt : Int → Int → Bool} {hi f r : Nat} {d : Array Int}
theorem sift_end (h : ¬ 2 * r + 1 < hi) : siftDown lt hi f r d = d := by rw [siftDown, dif_pos (by omega)]
/-- c is the child that is looked at. -/
def Child (lt : Int → Int → Bool) (hi f r c : Nat) (d : Array Int) : Prop :=
  (c = 2 * r + 2 ∧ c < hi ∧ lt d[f + (2 * r + 1)]! d[f + (2 * r + 1) + 1]! = true) ∨ (c = 2 * r + 1 ∧ c < hi ∧ (2 * r + 2 < hi → lt d[f + (2 * r + 1)]! d[f + (2 * r + 1) + 1]! = false))
theorem Child.stop {c : Nat} (h : Child lt hi f r c d) (hl : lt d[f + r]! d[f + c]! = false) : siftDown lt hi f r d = d := by
  rcases h with ⟨rfl, h1, h2⟩ | ⟨rfl, h1, h2⟩
  · rw [siftDown, dif_neg (by omega), if_pos (by simp [h2]; omega), if_pos (by simp [hl])]
  · rw [siftDown, dif_neg (by omega)]
    by_cases h3 : 2 * r + 2 < hi
    · rw [if_neg (by simp [h2 h3]), if_pos (by simp [hl])]
    · rw [if_neg (by simp; omega), if_pos (by simp [hl])]
theorem Child.go {c : Nat} (h : Child lt hi f r c d) (hl : lt d[f + r]! d[f + c]! = true) : siftDown lt hi f r d = siftDown lt hi f c (swp d (f + r) (f + c)) := by
  rcases h with ⟨rfl, h1, h2⟩ | ⟨rfl, h1, h2⟩
  · rw [siftDown, dif_neg (by omega), if_pos (by simp [h2]; omega), if_neg (by simp [hl]), dif_pos h1]
  · rw [siftDown, dif_neg (by omega)]
    by_cases h3 : 2 * r + 2 < hi
    · rw [if_neg (by simp [h2 h3]), if_neg (by simp [hl])]
    · rw [if_neg (by simp; omega), if_neg (by simp [hl])]
theorem Child.at1 {B : Nat} (hB : B = 2 * r + 1) {G : Nat → Int} (hG : ∀ t, G t = d[t]!) (hl : lt (G (f + B)) (G (f + B + 1)) = true) (h2 : B + 1 < hi) : Child lt hi f r (B + 1) d := by
  subst hB; simp only [hG] at hl
  exact Or.inl ⟨by omega, by omega, hl⟩
theorem Child.at0 {B : Nat} (hB : B = 2 * r + 1) {G : Nat → Int} (hG : ∀ t, G t = d[t]!) (hl : B + 1 < hi → lt (G (f + B)) (G (f + B + 1)) = false) (h2 : B < hi) : Child lt hi f r B d := by
  subst hB; simp only [hG] at hl
  exact Or.inr ⟨rfl, h2, fun h => hl (by omega)⟩
end
set_option maxHeartbeats 4000000 in
theorem sift_any (w0 : World) (g off cap lo hi f : Nat) (d : Array Int) (w : World) (x : SW w0 w g off d) (hb : f + hi ≤ d.size) (hlo : lo ≤ hi) (hsz : d.size < 1152921504606846976) :
    Calls Try.prog 92 #[.slice (some ⟨g, off, none⟩) d.size cap, .int .i64 lo, .int .i64 hi, .int .i64 f] w fun e w' => e = .returned (.tuple #[]) ∧ Hid (SW w0 w' g off (siftDown ltInt hi f lo d)) := by
  have HX := hid x
  clear x
  go_enter Try.func92, Try.ntmps92
  go_wp2
  go_loopw [8, 9] (fun vi _ wr => ∃ (r : Nat) (dk : Array Int), vi = .int .i64 r ∧ r ≤ hi ∧ dk.size = d.size ∧ Hid (SW w0 wr g off dk) ∧ Hid (siftDown ltInt hi f r dk = siftDown ltInt hi f lo d)) (fun vi _ _ => hi - (intOf vi).toNat)
  case atStart => exact ⟨lo, d, rfl, hlo, rfl, HX, rfl⟩
  case round =>
    clear HX
    obtain ⟨r, dk, rfl, hr, hsk, HX, HO⟩ := hrel
    obtain ⟨G, HG, hcw, hfw⟩ := HX.out.fam hsk
    obtain ⟨B, hB⟩ : ∃ B, B = 2 * r + 1 := ⟨_, rfl⟩
    have HB := hid hB
    clear hB
    by_cases hlt : 2 * r + 1 < hi
    · go_wp2
      rw [show (2 * (r : Int) + 1) = (B : Int) from by have := HB.out; omega]
      have hbr : r < B := by have := HB.out; omega
      have hbh : B < hi := by have := HB.out; omega
      have hbs : B + 1 < 1152921504606846976 := by omega
      have hfs : f + B + 1 < 1152921504606846976 := by omega
      clear hlt
      have hw1 : IntKind.i64.wrap ((B : Int) + 1) = (B : Int) + 1 := IntWalk.i64_in _ (by omega)
      by_cases h2 : B + 1 < hi
      · have hd : decide ((B : Int) + 1 < (hi : Int)) = true := by simp; omega
        go_quiet (first | (go_at_call 87; refine Calls.quiet_of_same (less_any _ _ _)))
        go_wp2
        · have hl0 : ltInt (G (f + B)) (G (f + B + 1)) = true := by assumption
          have HCH := hid (Child.at1 HB.out HG.out hl0 h2)
          rw [show ((B : Int) + 1) = ((B + 1 : Nat) : Int) from by omega]
          obtain ⟨c, hc⟩ : ∃ c, c = B + 1 := ⟨_, rfl⟩
          rw [← hc] at HCH ⊢
          have hch : c < hi := by omega
          have hrc : r < c := by omega
          clear hw1 hd h2 hbr hbh hbs hfs HB hl0 hc
          have HXq := hid (HX.out.drewN nq)
          generalize wr.drewN nq = wq at HXq ⊢
          clear HX hcw hfw
          obtain ⟨hcw, hfw⟩ := HXq.out.fam2 hsk HG.out
          go_quiet (first | (go_at_call 87; refine Calls.quiet_of_same (less_any _ _ _)))
          go_wp2
          · have hl : ltInt (G (f + r)) (G (f + c)) = false := by
              have h : (!ltInt (G (f + r)) (G (f + c))) = true := by assumption
              simpa using h
            (try simp only [Exit.inBlock, Exit.then])
            refine bodyPost_ret (results_none rfl _ _ _) rfl ?_
            refine ⟨rfl, ?_⟩
            unfold Hid
            rw [← HO.out, HCH.out.stop (by rw [← HG.out, ← HG.out]; exact hl)]
            exact HXq.out.drewN _
          · have hl : ltInt (G (f + r)) (G (f + c)) = true := by
              have h : (!ltInt (G (f + r)) (G (f + c))) = false := by assumption
              simpa using h
            have HXr := hid (HXq.out.drewN nq)
            generalize wq.drewN nq = wz at HXr ⊢
            clear HXq hcw hfw
            obtain ⟨hcw, hfw⟩ := HXr.out.fam2 hsk HG.out
            go_region
            all_goals go_wp2
            go_roundw
            case rel =>
              refine ⟨c, swp dk (f + r) (f + c), rfl, by omega, by rw [swp_len]; exact hsk, ?_, ?_⟩
              · have := (HXr.out.drewN 1).swap (i := f + r) (j := f + c) (by omega) (by omega)
                rw [HG.out, HG.out]; exact this
              · unfold Hid; rw [← HO.out, HCH.out.go (by rw [← HG.out, ← HG.out]; exact hl)]
            case measure => simp [intOf]; omega

        · have hl0 : ltInt (G (f + B)) (G (f + B + 1)) = false := by assumption
          have HCH := hid (Child.at0 HB.out HG.out (fun _ => hl0) hbh)
          obtain ⟨c, hc⟩ : ∃ c, c = B := ⟨_, rfl⟩
          rw [← hc] at HCH ⊢
          have hch : c < hi := by omega
          have hrc : r < c := by omega
          clear hw1 hd h2 hbr hbh hbs hfs HB hl0 hc
          have HXq := hid (HX.out.drewN nq)
          generalize wr.drewN nq = wq at HXq ⊢
          clear HX hcw hfw
          obtain ⟨hcw, hfw⟩ := HXq.out.fam2 hsk HG.out
          go_quiet (first | (go_at_call 87; refine Calls.quiet_of_same (less_any _ _ _)))
          go_wp2
          · have hl : ltInt (G (f + r)) (G (f + c)) = false := by
              have h : (!ltInt (G (f + r)) (G (f + c))) = true := by assumption
              simpa using h
            (try simp only [Exit.inBlock, Exit.then])
            refine bodyPost_ret (results_none rfl _ _ _) rfl ?_
            refine ⟨rfl, ?_⟩
            unfold Hid
            rw [← HO.out, HCH.out.stop (by rw [← HG.out, ← HG.out]; exact hl)]
            exact HXq.out.drewN _
          · have hl : ltInt (G (f + r)) (G (f + c)) = true := by
              have h : (!ltInt (G (f + r)) (G (f + c))) = false := by assumption
              simpa using h
            have HXr := hid (HXq.out.drewN nq)
            generalize wq.drewN nq = wz at HXr ⊢
            clear HXq hcw hfw
            obtain ⟨hcw, hfw⟩ := HXr.out.fam2 hsk HG.out
            go_region
            all_goals go_wp2
            go_roundw
            case rel =>
              refine ⟨c, swp dk (f + r) (f + c), rfl, by omega, by rw [swp_len]; exact hsk, ?_, ?_⟩
              · have := (HXr.out.drewN 1).swap (i := f + r) (j := f + c) (by omega) (by omega)
                rw [HG.out, HG.out]; exact this
              · unfold Hid; rw [← HO.out, HCH.out.go (by rw [← HG.out, ← HG.out]; exact hl)]
            case measure => simp [intOf]; omega

      · have hd : decide ((B : Int) + 1 < (hi : Int)) = false := by simp; omega
        go_quiet (first | (go_at_call 87; refine Calls.quiet_of_same (less_any _ _ _)))
        go_wp2
        have HCH := hid (Child.at0 (lt := ltInt) (f := f) HB.out HG.out (fun h => absurd h h2) hbh)
        obtain ⟨c, hc⟩ : ∃ c, c = B := ⟨_, rfl⟩
        rw [← hc] at HCH ⊢
        have hch : c < hi := by omega
        have hrc : r < c := by omega
        clear hw1 hd h2 hbr hbh hbs hfs HB hc
        have HXq := hid (HX.out.drewN nq)
        generalize wr.drewN nq = wq at HXq ⊢
        clear HX hcw hfw
        obtain ⟨hcw, hfw⟩ := HXq.out.fam2 hsk HG.out
        go_quiet (first | (go_at_call 87; refine Calls.quiet_of_same (less_any _ _ _)))
        go_wp2
        · have hl : ltInt (G (f + r)) (G (f + c)) = false := by
            have h : (!ltInt (G (f + r)) (G (f + c))) = true := by assumption
            simpa using h
          (try simp only [Exit.inBlock, Exit.then])
          refine bodyPost_ret (results_none rfl _ _ _) rfl ?_
          refine ⟨rfl, ?_⟩
          unfold Hid
          rw [← HO.out, HCH.out.stop (by rw [← HG.out, ← HG.out]; exact hl)]
          exact HXq.out.drewN _
        · have hl : ltInt (G (f + r)) (G (f + c)) = true := by
            have h : (!ltInt (G (f + r)) (G (f + c))) = false := by assumption
            simpa using h
          have HXr := hid (HXq.out.drewN nq)
          generalize wq.drewN nq = wz at HXr ⊢
          clear HXq hcw hfw
          obtain ⟨hcw, hfw⟩ := HXr.out.fam2 hsk HG.out
          go_region
          all_goals go_wp2
          go_roundw
          case rel =>
            refine ⟨c, swp dk (f + r) (f + c), rfl, by omega, by rw [swp_len]; exact hsk, ?_, ?_⟩
            · have := (HXr.out.drewN 1).swap (i := f + r) (j := f + c) (by omega) (by omega)
              rw [HG.out, HG.out]; exact this
            · unfold Hid; rw [← HO.out, HCH.out.go (by rw [← HG.out, ← HG.out]; exact hl)]
          case measure => simp [intOf]; omega

    · have HF : Hid (siftDown ltInt hi f lo d = dk) := by unfold Hid; rw [← HO.out]; exact sift_end hlt
      go_wp2
      go_end0
      exact ⟨rfl, by rw [HF.out]; exact HX⟩
end Go.Proofs.Ytaaoelhmanahpaa

/-
  slices.Sort at uint32: by the heap; turning round.
-/
namespace Go.Proofs.Ytaaoelhmanahpaa
open Go.RowKit
open Go.Sort (swp siftDown heapBuild heapPop ltInt PermIn SortedIn SWO)
set_option linter.all false

theorem sift_len {lt : Int → Int → Bool} {hi f : Nat} : ∀ (n r : Nat) (d : Array Int), hi - r ≤ n → (siftDown lt hi f r d).size = d.size
  | 0, r, d, h => by rw [siftDown, dif_pos (by omega)]
  | n + 1, r, d, h => by
    rw [siftDown]
    split
    · rfl
    · split
      · split
        · rfl
        · split
          · rw [sift_len n _ _ (by omega), swp_len]
          · rfl
      · split
        · rfl
        · rw [sift_len n _ _ (by omega), swp_len]
theorem sift_size (lt : Int → Int → Bool) (hi f r : Nat) (d : Array Int) : (siftDown lt hi f r d).size = d.size := sift_len _ r d (Nat.le_refl _)
set_option maxHeartbeats 4000000 in
theorem heap_any (w0 : World) (g off cap a b : Nat) (d : Array Int) (w : World) (x : SW w0 w g off d) (hab : a < b) (hb : b ≤ d.size) (hsz : d.size < 1152921504606846976) :
    Calls Try.prog 82 #[.slice (some ⟨g, off, none⟩) d.size cap, .int .i64 a, .int .i64 b] w fun e w' => e = .returned (.tuple #[]) ∧ Hid (SW w0 w' g off (Sort.heapSort ltInt d a b)) := by
  have HX := hid x
  clear x
  obtain ⟨hi, hhi⟩ : ∃ hi, hi = b - a := ⟨_, rfl⟩
  have HHI := hid hhi
  have hhp : 0 < hi := by omega
  have hhd : a + hi ≤ d.size := by omega
  have hbi : (b : Int) - a = hi := by omega
  clear hhi
  obtain ⟨k0, hk0⟩ : ∃ k0, k0 = (hi - 1) / 2 := ⟨_, rfl⟩
  have hq : ((hi : Int) - 1) / 2 = k0 := by omega
  have HE : Hid (Sort.heapSort ltInt d a b = heapPop ltInt a hi (heapBuild ltInt hi a (k0 + 1) d)) := by unfold Hid Sort.heapSort; rw [hk0, HHI.out]
  have hkh : k0 + 1 ≤ hi := by omega
  have HQ := hid hq
  clear hk0 hq
  go_enter Try.func82, Try.ntmps82
  go_wp2
  simp only [hbi, HQ.out]
  go_loopw [9] (fun vi wr => ∃ (k : Nat) (dk : Array Int), vi = .int .i64 ((k : Int) - 1) ∧ k ≤ hi ∧ dk.size = d.size ∧ Hid (SW w0 wr g off dk) ∧ Hid (heapBuild ltInt hi a k dk = heapBuild ltInt hi a (k0 + 1) d)) (fun vi _ => (intOf vi + 1).toNat)
  case atStart => exact ⟨k0 + 1, d, by congr 1; omega, hkh, rfl, HX, rfl⟩
  case round =>
    clear HX
    obtain ⟨k, dk, rfl, hk, hsk, HX, HO⟩ := hrel
    cases k with
    | succ i =>
      rw [show (((i + 1 : Nat) : Int) - 1) = (i : Int) from by omega]
      have hkd : a + hi ≤ dk.size := by omega
      have HS := hid (fun w1 (y : SW w0 w1 g off dk) => sift_any w0 g off cap i hi a dk w1 y hkd (by omega) (by omega))
      rw [hsk] at HS
      go_wp2_with (first | (go_at_call 92; refine (HS.out _ HX.out).mono ?_; rintro e w1 ⟨rfl, HX1⟩))
      go_roundw
      case rel => exact ⟨i, _, rfl, by omega, by rw [sift_size]; exact hsk, HX1, HO⟩
      case measure => simp [intOf]
    | zero =>
      rw [show (((0 : Nat) : Int) - 1) = (-1 : Int) from by omega]
      have HE2 : Hid (Sort.heapSort ltInt d a b = heapPop ltInt a hi dk) := by unfold Hid; rw [HE.out, ← HO.out]; rfl
      clear HE HO
      go_wp2
      go_loopw [10] (fun vi wr => ∃ (k : Nat) (dk : Array Int), vi = .int .i64 ((k : Int) - 1) ∧ k ≤ hi ∧ dk.size = d.size ∧ Hid (SW w0 wr g off dk) ∧ Hid (heapPop ltInt a k dk = Sort.heapSort ltInt d a b)) (fun vi _ => (intOf vi + 1).toNat)
      case atStart => exact ⟨hi, dk, rfl, Nat.le_refl _, hsk, HX, HE2.out.symm⟩
      case round =>
        clear HX HE2 hsk
        obtain ⟨k, dk, rfl, hk, hsk, HX, HO⟩ := hrel
        cases k with
        | succ i =>
          rw [show (((i + 1 : Nat) : Int) - 1) = (i : Int) from by omega]
          obtain ⟨G, HG, hcw, hfw⟩ := HX.out.fam hsk
          obtain ⟨u, hu⟩ : ∃ u, (wr.setCell ⟨g, off + a, none⟩ (.int .u32 (G (a + i)))).cell? ⟨g, off + (a + i), none⟩ = some u := by
            cases i with
            | zero => exact ⟨_, World.cell?_setCell_same _ _ _ (hcw a (by omega))⟩
            | succ i => exact ⟨_, by rw [World.cell?_setCell_other (h := by intro h; injection h with _ h; omega)]; exact hcw (a + (i + 1)) (by omega)⟩
          have HX2 : Hid (SW w0 ((wr.setCell ⟨g, off + a, none⟩ (.int .u32 (G (a + i)))).setCell ⟨g, off + (a + i), none⟩ (.int .u32 (G a))).drew g off (swp dk a (a + i))) := by
            unfold Hid; rw [HG.out, HG.out]; exact (HX.out.swap (by omega) (by omega)).drew
          have HS : Hid (∀ w1, SW w0 w1 g off (swp dk a (a + i)) → Calls Try.prog 92 #[.slice (some ⟨g, off, none⟩) (swp dk a (a + i)).size cap, .int .i64 0, .int .i64 i, .int .i64 a] w1 fun e w' => e = .returned (.tuple #[]) ∧ Hid (SW w0 w' g off (siftDown ltInt i a 0 (swp dk a (a + i))))) := fun w1 y => sift_any w0 g off cap 0 i a _ w1 y (by rw [swp_len]; omega) (Nat.zero_le _) (by rw [swp_len]; omega)
          rw [swp_len, hsk] at HS
          clear HX HG
          go_wp2
          go_region
          all_goals go_wp2_with (first | (go_at_call 92; refine (HS.out _ HX2.out).mono ?_; rintro e w1 ⟨rfl, HX1⟩))
          go_roundw
          case rel => exact ⟨i, _, rfl, by omega, by rw [sift_size, swp_len]; exact hsk, HX1, HO⟩
          case measure => simp [intOf]
        | zero =>
          rw [show (((0 : Nat) : Int) - 1) = (-1 : Int) from by omega]
          go_wp2
          go_end0
          exact ⟨rfl, by rw [← HO.out]; exact HX⟩
set_option maxHeartbeats 4000000 in
theorem reverse_any (w0 : World) (g off cap a b : Nat) (d : Array Int) (w : World) (x : SW w0 w g off d) (hab : a < b) (hb : b ≤ d.size) (hsz : d.size < 1152921504606846976) :
    Calls Try.prog 85 #[.slice (some ⟨g, off, none⟩) d.size cap, .int .i64 a, .int .i64 b] w fun e w' => e = .returned (.tuple #[]) ∧ ∃ d', Hid (SW w0 w' g off d') ∧ PermIn a b d d' := by
  have HX := hid x
  clear x
  go_enter Try.func85, Try.ntmps85
  go_wp2
  go_loopw [6, 7] (fun vi vj wr => ∃ (i j : Nat) (dk : Array Int), vi = .int .i64 i ∧ vj = .int .i64 j ∧ a ≤ i ∧ j < b ∧ dk.size = d.size ∧ Hid (SW w0 wr g off dk) ∧ Hid (PermIn a b d dk)) (fun _ vj _ => (intOf vj).toNat)
  case atStart => exact ⟨a, b - 1, d, rfl, by congr 1; omega, Nat.le_refl _, by omega, rfl, HX, Sort.permIn_refl _ _ _⟩
  case round =>
    clear HX
    obtain ⟨i, j, dk, rfl, rfl, hai, hjb, hsk, HX, HP⟩ := hrel
    by_cases hij : i < j
    · obtain ⟨G, HG, hcw, hfw⟩ := HX.out.fam hsk
      go_wp2
      go_region
      all_goals go_wp2
      go_roundw
      case rel =>
        refine ⟨i + 1, j - 1, swp dk i j, by go_num, by congr 1; omega, by omega, by omega, by rw [swp_len]; exact hsk, ?_, ?_⟩
        · have := (HX.out.drewN 1).swap (i := i) (j := j) (by omega) (by omega)
          rw [HG.out, HG.out]; exact this
        · exact Sort.permIn_trans _ _ _ _ _ HP.out (Sort.swp_permIn _ _ _ _ _ hai (by omega) (by omega) hjb (by omega))
      case measure => simp [intOf]; omega
    · go_wp2
      go_end0
      exact ⟨rfl, dk, HX, HP.out⟩
end Go.Proofs.Ytaaoelhmanahpaa

/-
  slices.Sort at uint32: the two partings.
-/
namespace Go.Proofs.Ytaaoelhmanahpaa
open Go.RowKit
open Go.Sort (swp scanUp scanDown partLoop partEqLoop partition partitionEqual ltInt PermIn SortedIn SWO)
set_option linter.all false

theorem cell_set {w : World} {g off n : Nat} {G : Nat → Int} (hc : ∀ t, t < n → w.cell? ⟨g, off + t, none⟩ = some (.int .u32 (G t))) {i j : Nat} (hi : i < n) (hj : j < n) (v : Value) : ∃ u, (w.setCell ⟨g, off + i, none⟩ v).cell? ⟨g, off + j, none⟩ = some u := by
  by_cases e : i = j
  · subst e; exact ⟨_, World.cell?_setCell_same _ _ _ (hc i hi)⟩
  · exact ⟨_, by rw [World.cell?_setCell_other (h := by intro h; injection h with _ h; omega)]; exact hc j hj⟩
section
variable {p : Int → Bool} {d : Array Int} {i j : Nat}
theorem scan_up (h : i ≤ j) (hl : p d[i]! = true) : scanUp p d j i = scanUp p d j (i + 1) := by rw [scanUp, if_pos (by simp [h, hl])]
theorem scan_up0 (h : ¬ i ≤ j ∨ p d[i]! = false) : scanUp p d j i = i := by
  rw [scanUp, if_neg]
  rcases h with h | h <;> simp [h]
theorem scan_dn (h : i ≤ j) (hj : 0 < j) (hl : p d[j]! = true) : scanDown p d i j = scanDown p d i (j - 1) := by
  cases j with
  | zero => omega
  | succ k => rw [scanDown, if_pos (by simp [h, hl])]; rfl
theorem scan_dn0 (h : ¬ i ≤ j ∨ p d[j]! = false) : scanDown p d i j = j := by
  cases j with
  | zero => rw [scanDown]
  | succ k =>
    rw [scanDown, if_neg]
    rcases h with h | h <;> simp [h]
end
section
variable {lt : Int → Int → Bool} {d dk d1 : Array Int} {a b pv i j i0 j0 : Nat}
theorem part_stop (hi : scanUp (fun x => lt x dk[a]!) dk j0 i0 = i) (hj : scanDown (fun x => !lt x dk[a]!) dk i j0 = j) (h : j < i) : partLoop lt a i0 j0 dk = (j, dk) := by
  rw [Sort.partLoop_eq, hi, hj, if_pos h]
theorem part_go (hi : scanUp (fun x => lt x dk[a]!) dk j0 i0 = i) (hj : scanDown (fun x => !lt x dk[a]!) dk i j0 = j) (h : ¬ j < i) : partLoop lt a i0 j0 dk = partLoop lt a (i + 1) (j - 1) (swp dk i j) := by
  rw [Sort.partLoop_eq, hi, hj, if_neg h]
theorem parteq_stop (hi : scanUp (fun x => !lt dk[a]! x) dk j0 i0 = i) (hj : scanDown (fun x => lt dk[a]! x) dk i j0 = j) (h : j < i) : partEqLoop lt a i0 j0 dk = (i, dk) := by
  rw [Sort.partEqLoop_eq, hi, hj, if_pos h]
theorem parteq_go (hi : scanUp (fun x => !lt dk[a]! x) dk j0 i0 = i) (hj : scanDown (fun x => lt dk[a]! x) dk i j0 = j) (h : ¬ j < i) : partEqLoop lt a i0 j0 dk = partEqLoop lt a (i + 1) (j - 1) (swp dk i j) := by
  rw [Sort.partEqLoop_eq, hi, hj, if_neg h]
theorem part_arr (h : partLoop lt a (a + 1) (b - 1) (swp d a pv) = (j, dk)) : ∃ q, partition lt d a b pv = (j, q, swp dk j a) := by
  have h1 := Sort.partition_fst lt d a b pv
  have h2 := Sort.partition_arr lt d a b pv
  rw [h] at h1 h2
  simp only at h1 h2
  exact ⟨(partition lt d a b pv).2.1, by rw [← h2, ← h1]⟩
end

set_option maxRecDepth 100000 in
set_option maxHeartbeats 16000000 in
theorem part_any (w0 : World) (g off cap a b pv : Nat) (d : Array Int) (w : World) (x : SW w0 w g off d) (hap : a ≤ pv) (hpb : pv < b) (hb : b ≤ d.size) (hsz : d.size < 1152921504606846976) :
    Calls Try.prog 89 #[.slice (some ⟨g, off, none⟩) d.size cap, .int .i64 a, .int .i64 b, .int .i64 pv] w fun e w' => ∃ (mid : Nat) (q : Bool) (d' : Array Int), e = .returned (.tuple #[.int .i64 mid, .bool q]) ∧ Hid (SW w0 w' g off d') ∧ ∃ q', partition ltInt d a b pv = (mid, q', d') := by
  have HX := hid x
  clear x
  obtain ⟨d1, hd1⟩ : ∃ d1, d1 = swp d a pv := ⟨_, rfl⟩
  have HD := hid hd1
  have hsk : d1.size = d.size := by rw [hd1, swp_len]
  obtain ⟨G, HG, hcw, hfw⟩ := HX.out.fam (n := d.size) rfl
  obtain ⟨u, hu⟩ := cell_set hcw (i := a) (j := pv) (by omega) (by omega) (.int .u32 (G pv))
  have HX2 : Hid (SW w0 ((w.setCell ⟨g, off + a, none⟩ (.int .u32 (G pv))).setCell ⟨g, off + pv, none⟩ (.int .u32 (G a))).drew g off d1) := by
    unfold Hid; rw [HG.out, HG.out, hd1]; exact (HX.out.swap (by omega) (by omega)).drew
  clear HX hd1
  go_enter Try.func89, Try.ntmps89
  go_wp2
  go_region
  all_goals go_wp2
  have HX := HX2
  clear HX2 hu hcw hfw
  generalize ((w.setCell ⟨g, off + a, none⟩ (.int .u32 (G pv))).setCell ⟨g, off + pv, none⟩ (.int .u32 (G a))).drew = w1 at HX ⊢
  clear HG
  have HPO : Hid (∀ (j : Nat) (dk : Array Int), partLoop ltInt a (a + 1) (b - 1) d1 = (j, dk) → ∃ q, partition ltInt d a b pv = (j, q, swp dk j a)) := fun j dk h => part_arr (by rw [← HD.out]; exact h)
  clear HD
  obtain ⟨dk, hdk⟩ : ∃ dk, dk = d1 := ⟨_, rfl⟩
  obtain ⟨i0, hi00⟩ : ∃ i0, i0 = a + 1 := ⟨_, rfl⟩
  obtain ⟨j0, hj00⟩ : ∃ j0, j0 = b - 1 := ⟨_, rfl⟩
  have HO : Hid (partLoop ltInt a i0 j0 dk = partLoop ltInt a (a + 1) (b - 1) d1) := by unfold Hid; rw [hdk, hi00, hj00]
  rw [← hdk] at HX hsk
  rw [show ((a : Int) + 1) = (i0 : Int) from by omega, show ((b : Int) - 1) = (j0 : Int) from by omega]
  have ha0 : a < i0 := by omega
  have hi0 : i0 ≤ b := by omega
  have hja0 : a ≤ j0 := by omega
  have hjb0 : j0 < b := by omega
  clear hdk hi00 hj00 hap hpb
  go_loopw [10] (fun vi wr2 => ∃ (i : Nat), vi = .int .i64 i ∧ i0 ≤ i ∧ a < i ∧ i ≤ b ∧ Hid (SW w0 wr2 g off dk) ∧ Hid (scanUp (fun x => ltInt x dk[a]!) dk j0 i = scanUp (fun x => ltInt x dk[a]!) dk j0 i0)) (fun vi _ => b + 1 - (intOf vi).toNat)
  case atStart => exact ⟨i0, rfl, Nat.le_refl _, ha0, hi0, HX, rfl⟩
  case round =>
    clear HX
    obtain ⟨i, rfl, hii, hai, hib, HX, HS⟩ := hrel
    obtain ⟨G, HG, hcw, hfw⟩ := HX.out.fam hsk
    go_wp2
    by_cases hij : i ≤ j0
    · go_quiet (first | (go_at_call 87; refine Calls.quiet_of_same (less_any _ _ _)))
      go_wp2
      · have hl : ltInt (G i) (G a) = true := by assumption
        go_roundw
        case rel => exact ⟨i + 1, by go_num, by omega, by omega, by omega, HX.out.drewN nq, by unfold Hid; rw [← HS.out, scan_up hij (by simp only [← HG.out]; exact hl)]⟩
        case measure => simp [intOf]; omega
      · have hl : ltInt (G i) (G a) = false := by assumption
        have HI : Hid (scanUp (fun x => ltInt x dk[a]!) dk j0 i0 = i) := by unfold Hid; rw [← HS.out, scan_up0 (Or.inr (by simp only [← HG.out]; exact hl))]
        have HXq := hid (HX.out.drewN nq)
        generalize wr.drewN nq = wq at HXq ⊢
        clear HX HS hcw hfw hl HG
        have HX := HXq
        clear HXq
        go_loopw [11] (fun vj wr2 => ∃ (j : Nat), vj = .int .i64 j ∧ a ≤ j ∧ j ≤ j0 ∧ Hid (SW w0 wr2 g off dk) ∧ Hid (scanDown (fun x => !ltInt x dk[a]!) dk i j = scanDown (fun x => !ltInt x dk[a]!) dk i j0)) (fun vj _ => (intOf vj).toNat)
        case atStart => exact ⟨j0, rfl, hja0, Nat.le_refl _, HX, rfl⟩
        case round =>
          clear HX
          obtain ⟨j, rfl, haj, hjj, HX, HT⟩ := hrel
          obtain ⟨G, HG, hcw, hfw⟩ := HX.out.fam hsk
          go_wp2
          by_cases hij2 : i ≤ j
          · go_quiet (first | (go_at_call 87; refine Calls.quiet_of_same (less_any _ _ _)))
            go_wp2
            · have hl : (!ltInt (G j) (G a)) = true := by assumption
              go_roundw
              case rel => exact ⟨j - 1, by congr 1; omega, by omega, by omega, HX.out.drewN nq, by unfold Hid; rw [← HT.out, scan_dn hij2 (by omega) (by simp only [← HG.out]; exact hl)]⟩
              case measure => simp [intOf]; omega
            · have hl : (!ltInt (G j) (G a)) = false := by assumption
              have HJ : Hid (scanDown (fun x => !ltInt x dk[a]!) dk i j0 = j) := by unfold Hid; rw [← HT.out, scan_dn0 (Or.inr (by simp only [← HG.out]; exact hl))]
              have HXq := hid (HX.out.drewN nq)
              generalize wr.drewN nq = wq at HXq ⊢
              clear HX HT hcw hfw hl
              obtain ⟨hcw, hfw⟩ := HXq.out.fam2 hsk HG.out
              have HL : Hid (partLoop ltInt a (i + 1) (j - 1) (swp dk i j) = partLoop ltInt a (a + 1) (b - 1) d1) := by unfold Hid; rw [← HO.out]; exact (part_go HI.out HJ.out (by omega)).symm

              obtain ⟨u, hu⟩ := cell_set hcw (i := i) (j := j) (by omega) (by omega) (.int .u32 (G (j)))
              have HX2 : Hid (SW w0 ((wq.setCell ⟨g, off + i, none⟩ (.int .u32 (G (j)))).setCell ⟨g, off + j, none⟩ (.int .u32 (G (i)))).drew g off (swp dk (i) (j))) := by
                unfold Hid; rw [HG.out, HG.out]; exact (HXq.out.swap (by omega) (by omega)).drew
              go_region
              all_goals go_wp2
              clear hu hcw hfw HXq

              have hsz2 : (swp dk i j).size = d.size := by rw [swp_len]; exact hsk
              clear HI HJ HO
              go_loopw [10, 11] (fun vi vj wr => ∃ (i0 j0 : Nat) (dk : Array Int), vi = .int .i64 i0 ∧ vj = .int .i64 j0 ∧ a < i0 ∧ i0 ≤ b ∧ a ≤ j0 ∧ j0 < b ∧ dk.size = d.size ∧ Hid (SW w0 wr g off dk) ∧ Hid (partLoop ltInt a i0 j0 dk = partLoop ltInt a (a + 1) (b - 1) d1)) (fun vi vj _ => (intOf vj + 1 - intOf vi).toNat)
              case atStart => exact ⟨i + 1, j - 1, _, by go_num, by congr 1; omega, by omega, by omega, by omega, by omega, hsz2, HX2, HL⟩
              case round =>
                clear HX2 HL hsz2 HG hsk
                clear hij hij2 haj hjj hii hai hib ha0 hi0 hja0 hjb0
                obtain ⟨i0, j0, dk, rfl, rfl, ha0, hi0, hja0, hjb0, hsk, HX, HO⟩ := hrel
                go_wp2
                go_loopw [10] (fun vi wr2 => ∃ (i : Nat), vi = .int .i64 i ∧ i0 ≤ i ∧ a < i ∧ i ≤ b ∧ Hid (SW w0 wr2 g off dk) ∧ Hid (scanUp (fun x => ltInt x dk[a]!) dk j0 i = scanUp (fun x => ltInt x dk[a]!) dk j0 i0)) (fun vi _ => b + 1 - (intOf vi).toNat)
                case atStart => exact ⟨i0, rfl, Nat.le_refl _, ha0, hi0, HX, rfl⟩
                case round =>
                  clear HX
                  obtain ⟨i, rfl, hii, hai, hib, HX, HS⟩ := hrel
                  obtain ⟨G, HG, hcw, hfw⟩ := HX.out.fam hsk
                  go_wp2
                  by_cases hij : i ≤ j0
                  · go_quiet (first | (go_at_call 87; refine Calls.quiet_of_same (less_any _ _ _)))
                    go_wp2
                    · have hl : ltInt (G i) (G a) = true := by assumption
                      go_roundw
                      case rel => exact ⟨i + 1, by go_num, by omega, by omega, by omega, HX.out.drewN nq, by unfold Hid; rw [← HS.out, scan_up hij (by simp only [← HG.out]; exact hl)]⟩
                      case measure => simp [intOf]; omega
                    · have hl : ltInt (G i) (G a) = false := by assumption
                      have HI : Hid (scanUp (fun x => ltInt x dk[a]!) dk j0 i0 = i) := by unfold Hid; rw [← HS.out, scan_up0 (Or.inr (by simp only [← HG.out]; exact hl))]
                      have HXq := hid (HX.out.drewN nq)
                      generalize wr.drewN nq = wq at HXq ⊢
                      clear HX HS hcw hfw hl HG
                      have HX := HXq
                      clear HXq
                      go_loopw [11] (fun vj wr2 => ∃ (j : Nat), vj = .int .i64 j ∧ a ≤ j ∧ j ≤ j0 ∧ Hid (SW w0 wr2 g off dk) ∧ Hid (scanDown (fun x => !ltInt x dk[a]!) dk i j = scanDown (fun x => !ltInt x dk[a]!) dk i j0)) (fun vj _ => (intOf vj).toNat)
                      case atStart => exact ⟨j0, rfl, hja0, Nat.le_refl _, HX, rfl⟩
                      case round =>
                        clear HX
                        obtain ⟨j, rfl, haj, hjj, HX, HT⟩ := hrel
                        obtain ⟨G, HG, hcw, hfw⟩ := HX.out.fam hsk
                        go_wp2
                        by_cases hij2 : i ≤ j
                        · go_quiet (first | (go_at_call 87; refine Calls.quiet_of_same (less_any _ _ _)))
                          go_wp2
                          · have hl : (!ltInt (G j) (G a)) = true := by assumption
                            go_roundw
                            case rel => exact ⟨j - 1, by congr 1; omega, by omega, by omega, HX.out.drewN nq, by unfold Hid; rw [← HT.out, scan_dn hij2 (by omega) (by simp only [← HG.out]; exact hl)]⟩
                            case measure => simp [intOf]; omega
                          · have hl : (!ltInt (G j) (G a)) = false := by assumption
                            have HJ : Hid (scanDown (fun x => !ltInt x dk[a]!) dk i j0 = j) := by unfold Hid; rw [← HT.out, scan_dn0 (Or.inr (by simp only [← HG.out]; exact hl))]
                            have HXq := hid (HX.out.drewN nq)
                            generalize wr.drewN nq = wq at HXq ⊢
                            clear HX HT hcw hfw hl
                            obtain ⟨hcw, hfw⟩ := HXq.out.fam2 hsk HG.out
                            have HL : Hid (partLoop ltInt a (i + 1) (j - 1) (swp dk i j) = partLoop ltInt a (a + 1) (b - 1) d1) := by unfold Hid; rw [← HO.out]; exact (part_go HI.out HJ.out (by omega)).symm

                            obtain ⟨u, hu⟩ := cell_set hcw (i := i) (j := j) (by omega) (by omega) (.int .u32 (G (j)))
                            have HX2 : Hid (SW w0 ((wq.setCell ⟨g, off + i, none⟩ (.int .u32 (G (j)))).setCell ⟨g, off + j, none⟩ (.int .u32 (G (i)))).drew g off (swp dk (i) (j))) := by
                              unfold Hid; rw [HG.out, HG.out]; exact (HXq.out.swap (by omega) (by omega)).drew
                            go_region
                            all_goals go_wp2
                            clear hu hcw hfw HXq

                            go_roundw
                            case rel => exact ⟨i + 1, j - 1, _, by go_num, by congr 1; omega, by omega, by omega, by omega, by omega, by rw [swp_len]; exact hsk, HX2, HL⟩
                            case measure => simp [intOf]; omega
                        · go_quiet (first | (go_at_call 87; refine Calls.quiet_of_same (less_any _ _ _)))
                          go_wp2
                          have HJ : Hid (scanDown (fun x => !ltInt x dk[a]!) dk i j0 = j) := by unfold Hid; rw [← HT.out, scan_dn0 (Or.inl hij2)]
                          have HXq := hid (HX.out.drewN nq)
                          generalize wr.drewN nq = wq at HXq ⊢
                          clear HX HT hcw hfw
                          obtain ⟨hcw, hfw⟩ := HXq.out.fam2 hsk HG.out
                          have HL : Hid (partLoop ltInt a (a + 1) (b - 1) d1 = (j, dk)) := by unfold Hid; rw [← HO.out]; exact part_stop HI.out HJ.out (by omega)

                          obtain ⟨u, hu⟩ := cell_set hcw (i := j) (j := a) (by omega) (by omega) (.int .u32 (G (a)))
                          have HX2 : Hid (SW w0 ((wq.setCell ⟨g, off + j, none⟩ (.int .u32 (G (a)))).setCell ⟨g, off + a, none⟩ (.int .u32 (G (j)))).drew g off (swp dk (j) (a))) := by
                            unfold Hid; rw [HG.out, HG.out]; exact (HXq.out.swap (by omega) (by omega)).drew
                          go_region
                          all_goals go_wp2
                          clear hu hcw hfw HXq

                          go_ret2
                          exact ⟨j, false, _, rfl, HX2, HPO.out _ _ HL.out⟩
                  · go_quiet (first | (go_at_call 87; refine Calls.quiet_of_same (less_any _ _ _)))
                    go_wp2
                    have HI : Hid (scanUp (fun x => ltInt x dk[a]!) dk j0 i0 = i) := by unfold Hid; rw [← HS.out, scan_up0 (Or.inl hij)]
                    have HXq := hid (HX.out.drewN nq)
                    generalize wr.drewN nq = wq at HXq ⊢
                    clear HX HS hcw hfw HG
                    have HX := HXq
                    clear HXq
                    go_loopw [11] (fun vj wr2 => vj = .int .i64 j0 ∧ Hid (SW w0 wr2 g off dk)) (fun _ _ => 0)
                    case atStart => exact ⟨rfl, HX⟩
                    case round =>
                      clear HX
                      obtain ⟨rfl, HX⟩ := hrel
                      obtain ⟨G, HG, hcw, hfw⟩ := HX.out.fam hsk
                      go_wp2
                      go_quiet (first | (go_at_call 87; refine Calls.quiet_of_same (less_any _ _ _)))
                      go_wp2
                      have HJ : Hid (scanDown (fun x => !ltInt x dk[a]!) dk i j0 = j0) := scan_dn0 (Or.inl hij)
                      have HXq := hid (HX.out.drewN nq)
                      generalize wr.drewN nq = wq at HXq ⊢
                      clear HX hcw hfw
                      obtain ⟨hcw, hfw⟩ := HXq.out.fam2 hsk HG.out
                      obtain ⟨j, hjz⟩ : ∃ j, j = j0 := ⟨_, rfl⟩
                      have hij2 : ¬ i ≤ j := by omega
                      have haj : a ≤ j := by omega
                      have hjj : j ≤ j0 := by omega
                      rw [← hjz] at hjb0 ⊢
                      have HJ : Hid (scanDown (fun x => !ltInt x dk[a]!) dk i j0 = j) := by unfold Hid; rw [HJ.out, hjz]
                      clear hjz
                      have HL : Hid (partLoop ltInt a (a + 1) (b - 1) d1 = (j, dk)) := by unfold Hid; rw [← HO.out]; exact part_stop HI.out HJ.out (by omega)

                      obtain ⟨u, hu⟩ := cell_set hcw (i := j) (j := a) (by omega) (by omega) (.int .u32 (G (a)))
                      have HX2 : Hid (SW w0 ((wq.setCell ⟨g, off + j, none⟩ (.int .u32 (G (a)))).setCell ⟨g, off + a, none⟩ (.int .u32 (G (j)))).drew g off (swp dk (j) (a))) := by
                        unfold Hid; rw [HG.out, HG.out]; exact (HXq.out.swap (by omega) (by omega)).drew
                      go_region
                      all_goals go_wp2
                      clear hu hcw hfw HXq

                      go_ret2
                      exact ⟨j, false, _, rfl, HX2, HPO.out _ _ HL.out⟩
          · go_quiet (first | (go_at_call 87; refine Calls.quiet_of_same (less_any _ _ _)))
            go_wp2
            have HJ : Hid (scanDown (fun x => !ltInt x dk[a]!) dk i j0 = j) := by unfold Hid; rw [← HT.out, scan_dn0 (Or.inl hij2)]
            have HXq := hid (HX.out.drewN nq)
            generalize wr.drewN nq = wq at HXq ⊢
            clear HX HT hcw hfw
            obtain ⟨hcw, hfw⟩ := HXq.out.fam2 hsk HG.out
            have HL : Hid (partLoop ltInt a (a + 1) (b - 1) d1 = (j, dk)) := by unfold Hid; rw [← HO.out]; exact part_stop HI.out HJ.out (by omega)

            obtain ⟨u, hu⟩ := cell_set hcw (i := j) (j := a) (by omega) (by omega) (.int .u32 (G (a)))
            have HX2 : Hid (SW w0 ((wq.setCell ⟨g, off + j, none⟩ (.int .u32 (G (a)))).setCell ⟨g, off + a, none⟩ (.int .u32 (G (j)))).drew g off (swp dk (j) (a))) := by
              unfold Hid; rw [HG.out, HG.out]; exact (HXq.out.swap (by omega) (by omega)).drew
            go_region
            all_goals go_wp2
            clear hu hcw hfw HXq

            go_ret2
            exact ⟨j, true, _, rfl, HX2, HPO.out _ _ HL.out⟩
    · go_quiet (first | (go_at_call 87; refine Calls.quiet_of_same (less_any _ _ _)))
      go_wp2
      have HI : Hid (scanUp (fun x => ltInt x dk[a]!) dk j0 i0 = i) := by unfold Hid; rw [← HS.out, scan_up0 (Or.inl hij)]
      have HXq := hid (HX.out.drewN nq)
      generalize wr.drewN nq = wq at HXq ⊢
      clear HX HS hcw hfw HG
      have HX := HXq
      clear HXq
      go_loopw [11] (fun vj wr2 => vj = .int .i64 j0 ∧ Hid (SW w0 wr2 g off dk)) (fun _ _ => 0)
      case atStart => exact ⟨rfl, HX⟩
      case round =>
        clear HX
        obtain ⟨rfl, HX⟩ := hrel
        obtain ⟨G, HG, hcw, hfw⟩ := HX.out.fam hsk
        go_wp2
        go_quiet (first | (go_at_call 87; refine Calls.quiet_of_same (less_any _ _ _)))
        go_wp2
        have HJ : Hid (scanDown (fun x => !ltInt x dk[a]!) dk i j0 = j0) := scan_dn0 (Or.inl hij)
        have HXq := hid (HX.out.drewN nq)
        generalize wr.drewN nq = wq at HXq ⊢
        clear HX hcw hfw
        obtain ⟨hcw, hfw⟩ := HXq.out.fam2 hsk HG.out
        obtain ⟨j, hjz⟩ : ∃ j, j = j0 := ⟨_, rfl⟩
        have hij2 : ¬ i ≤ j := by omega
        have haj : a ≤ j := by omega
        have hjj : j ≤ j0 := by omega
        rw [← hjz] at hjb0 ⊢
        have HJ : Hid (scanDown (fun x => !ltInt x dk[a]!) dk i j0 = j) := by unfold Hid; rw [HJ.out, hjz]
        clear hjz
        have HL : Hid (partLoop ltInt a (a + 1) (b - 1) d1 = (j, dk)) := by unfold Hid; rw [← HO.out]; exact part_stop HI.out HJ.out (by omega)

        obtain ⟨u, hu⟩ := cell_set hcw (i := j) (j := a) (by omega) (by omega) (.int .u32 (G (a)))
        have HX2 : Hid (SW w0 ((wq.setCell ⟨g, off + j, none⟩ (.int .u32 (G (a)))).setCell ⟨g, off + a, none⟩ (.int .u32 (G (j)))).drew g off (swp dk (j) (a))) := by
          unfold Hid; rw [HG.out, HG.out]; exact (HXq.out.swap (by omega) (by omega)).drew
        go_region
        all_goals go_wp2
        clear hu hcw hfw HXq

        go_ret2
        exact ⟨j, true, _, rfl, HX2, HPO.out _ _ HL.out⟩


set_option maxRecDepth 100000 in
set_option maxHeartbeats 16000000 in
theorem parteq_any (w0 : World) (g off cap a b pv : Nat) (d : Array Int) (w : World) (x : SW w0 w g off d) (hap : a ≤ pv) (hpb : pv < b) (hb : b ≤ d.size) (hsz : d.size < 1152921504606846976) :
    Calls Try.prog 88 #[.slice (some ⟨g, off, none⟩) d.size cap, .int .i64 a, .int .i64 b, .int .i64 pv] w fun e w' => ∃ (mid : Nat) (d' : Array Int), e = .returned (.int .i64 mid) ∧ Hid (SW w0 w' g off d') ∧ partitionEqual ltInt d a b pv = (mid, d') := by
  have HX := hid x
  clear x
  obtain ⟨d1, hd1⟩ : ∃ d1, d1 = swp d a pv := ⟨_, rfl⟩
  have HD := hid hd1
  have hsk : d1.size = d.size := by rw [hd1, swp_len]
  obtain ⟨G, HG, hcw, hfw⟩ := HX.out.fam (n := d.size) rfl
  obtain ⟨u, hu⟩ := cell_set hcw (i := a) (j := pv) (by omega) (by omega) (.int .u32 (G pv))
  have HX2 : Hid (SW w0 ((w.setCell ⟨g, off + a, none⟩ (.int .u32 (G pv))).setCell ⟨g, off + pv, none⟩ (.int .u32 (G a))).drew g off d1) := by
    unfold Hid; rw [HG.out, HG.out, hd1]; exact (HX.out.swap (by omega) (by omega)).drew
  clear HX hd1
  go_enter Try.func88, Try.ntmps88
  go_wp2
  go_region
  all_goals go_wp2
  have HX := HX2
  clear HX2 hu hcw hfw
  generalize ((w.setCell ⟨g, off + a, none⟩ (.int .u32 (G pv))).setCell ⟨g, off + pv, none⟩ (.int .u32 (G a))).drew = w1 at HX ⊢
  clear HG
  go_loopw [9, 10] (fun vi vj wr => ∃ (i0 j0 : Nat) (dk : Array Int), vi = .int .i64 i0 ∧ vj = .int .i64 j0 ∧ a < i0 ∧ i0 ≤ b ∧ a ≤ j0 ∧ j0 < b ∧ dk.size = d.size ∧ Hid (SW w0 wr g off dk) ∧ Hid (partEqLoop ltInt a i0 j0 dk = partEqLoop ltInt a (a + 1) (b - 1) d1)) (fun vi vj _ => (intOf vj + 1 - intOf vi).toNat)
  case atStart => exact ⟨a + 1, b - 1, d1, by go_num, by congr 1; omega, by omega, by omega, by omega, by omega, hsk, HX, rfl⟩
  case round =>
    clear HX hsk
    obtain ⟨i0, j0, dk, rfl, rfl, ha0, hi0, hja0, hjb0, hsk, HX, HO⟩ := hrel
    go_wp2
    go_loopw [9] (fun vi wr2 => ∃ (i : Nat), vi = .int .i64 i ∧ i0 ≤ i ∧ a < i ∧ i ≤ b ∧ Hid (SW w0 wr2 g off dk) ∧ Hid (scanUp (fun x => !ltInt dk[a]! x) dk j0 i = scanUp (fun x => !ltInt dk[a]! x) dk j0 i0)) (fun vi _ => b + 1 - (intOf vi).toNat)
    case atStart => exact ⟨i0, rfl, Nat.le_refl _, ha0, hi0, HX, rfl⟩
    case round =>
      clear HX
      obtain ⟨i, rfl, hii, hai, hib, HX, HS⟩ := hrel
      obtain ⟨G, HG, hcw, hfw⟩ := HX.out.fam hsk
      go_wp2
      by_cases hij : i ≤ j0
      · go_quiet (first | (go_at_call 87; refine Calls.quiet_of_same (less_any _ _ _)))
        go_wp2
        · have hl : (!ltInt (G a) (G i)) = true := by assumption
          go_roundw
          case rel => exact ⟨i + 1, by go_num, by omega, by omega, by omega, HX.out.drewN nq, by unfold Hid; rw [← HS.out, scan_up hij (by simp only [← HG.out]; exact hl)]⟩
          case measure => simp [intOf]; omega
        · have hl : (!ltInt (G a) (G i)) = false := by assumption
          have HI : Hid (scanUp (fun x => !ltInt dk[a]! x) dk j0 i0 = i) := by unfold Hid; rw [← HS.out, scan_up0 (Or.inr (by simp only [← HG.out]; exact hl))]
          have HXq := hid (HX.out.drewN nq)
          generalize wr.drewN nq = wq at HXq ⊢
          clear HX HS hcw hfw hl HG
          have HX := HXq
          clear HXq
          go_loopw [10] (fun vj wr2 => ∃ (j : Nat), vj = .int .i64 j ∧ a ≤ j ∧ j ≤ j0 ∧ Hid (SW w0 wr2 g off dk) ∧ Hid (scanDown (fun x => ltInt dk[a]! x) dk i j = scanDown (fun x => ltInt dk[a]! x) dk i j0)) (fun vj _ => (intOf vj).toNat)
          case atStart => exact ⟨j0, rfl, hja0, Nat.le_refl _, HX, rfl⟩
          case round =>
            clear HX
            obtain ⟨j, rfl, haj, hjj, HX, HT⟩ := hrel
            obtain ⟨G, HG, hcw, hfw⟩ := HX.out.fam hsk
            go_wp2
            by_cases hij2 : i ≤ j
            · go_quiet (first | (go_at_call 87; refine Calls.quiet_of_same (less_any _ _ _)))
              go_wp2
              · have hl : ltInt (G a) (G j) = true := by assumption
                go_roundw
                case rel => exact ⟨j - 1, by congr 1; omega, by omega, by omega, HX.out.drewN nq, by unfold Hid; rw [← HT.out, scan_dn hij2 (by omega) (by simp only [← HG.out]; exact hl)]⟩
                case measure => simp [intOf]; omega
              · have hl : ltInt (G a) (G j) = false := by assumption
                have HJ : Hid (scanDown (fun x => ltInt dk[a]! x) dk i j0 = j) := by unfold Hid; rw [← HT.out, scan_dn0 (Or.inr (by simp only [← HG.out]; exact hl))]
                have HXq := hid (HX.out.drewN nq)
                generalize wr.drewN nq = wq at HXq ⊢
                clear HX HT hcw hfw hl
                obtain ⟨hcw, hfw⟩ := HXq.out.fam2 hsk HG.out
                have HL : Hid (partEqLoop ltInt a (i + 1) (j - 1) (swp dk i j) = partEqLoop ltInt a (a + 1) (b - 1) d1) := by unfold Hid; rw [← HO.out]; exact (parteq_go HI.out HJ.out (by omega)).symm

                obtain ⟨u, hu⟩ := cell_set hcw (i := i) (j := j) (by omega) (by omega) (.int .u32 (G (j)))
                have HX2 : Hid (SW w0 ((wq.setCell ⟨g, off + i, none⟩ (.int .u32 (G (j)))).setCell ⟨g, off + j, none⟩ (.int .u32 (G (i)))).drew g off (swp dk (i) (j))) := by
                  unfold Hid; rw [HG.out, HG.out]; exact (HXq.out.swap (by omega) (by omega)).drew
                go_region
                all_goals go_wp2
                clear hu hcw hfw HXq

                go_roundw
                case rel => exact ⟨i + 1, j - 1, _, by go_num, by congr 1; omega, by omega, by omega, by omega, by omega, by rw [swp_len]; exact hsk, HX2, HL⟩
                case measure => simp [intOf]; omega
            · go_quiet (first | (go_at_call 87; refine Calls.quiet_of_same (less_any _ _ _)))
              go_wp2
              have HJ : Hid (scanDown (fun x => ltInt dk[a]! x) dk i j0 = j) := by unfold Hid; rw [← HT.out, scan_dn0 (Or.inl hij2)]
              have HXq := hid (HX.out.drewN nq)
              generalize wr.drewN nq = wq at HXq ⊢
              clear HX HT hcw hfw
              obtain ⟨hcw, hfw⟩ := HXq.out.fam2 hsk HG.out
              have HL : Hid (partEqLoop ltInt a (a + 1) (b - 1) d1 = (i, dk)) := by unfold Hid; rw [← HO.out]; exact parteq_stop HI.out HJ.out (by omega)
              go_ret
              exact ⟨i, dk, rfl, HXq, by rw [← HL.out, HD.out]; rfl⟩
      · go_quiet (first | (go_at_call 87; refine Calls.quiet_of_same (less_any _ _ _)))
        go_wp2
        have HI : Hid (scanUp (fun x => !ltInt dk[a]! x) dk j0 i0 = i) := by unfold Hid; rw [← HS.out, scan_up0 (Or.inl hij)]
        have HXq := hid (HX.out.drewN nq)
        generalize wr.drewN nq = wq at HXq ⊢
        clear HX HS hcw hfw HG
        have HX := HXq
        clear HXq
        go_loopw [10] (fun vj wr2 => vj = .int .i64 j0 ∧ Hid (SW w0 wr2 g off dk)) (fun _ _ => 0)
        case atStart => exact ⟨rfl, HX⟩
        case round =>
          clear HX
          obtain ⟨rfl, HX⟩ := hrel
          obtain ⟨G, HG, hcw, hfw⟩ := HX.out.fam hsk
          go_wp2
          go_quiet (first | (go_at_call 87; refine Calls.quiet_of_same (less_any _ _ _)))
          go_wp2
          have HJ : Hid (scanDown (fun x => ltInt dk[a]! x) dk i j0 = j0) := scan_dn0 (Or.inl hij)
          have HXq := hid (HX.out.drewN nq)
          generalize wr.drewN nq = wq at HXq ⊢
          clear HX hcw hfw
          obtain ⟨hcw, hfw⟩ := HXq.out.fam2 hsk HG.out
          obtain ⟨j, hjz⟩ : ∃ j, j = j0 := ⟨_, rfl⟩
          have hij2 : ¬ i ≤ j := by omega
          have haj : a ≤ j := by omega
          have hjj : j ≤ j0 := by omega
          rw [← hjz] at hjb0 ⊢
          have HJ : Hid (scanDown (fun x => ltInt dk[a]! x) dk i j0 = j) := by unfold Hid; rw [HJ.out, hjz]
          clear hjz
          have HL : Hid (partEqLoop ltInt a (a + 1) (b - 1) d1 = (i, dk)) := by unfold Hid; rw [← HO.out]; exact parteq_stop HI.out HJ.out (by omega)
          go_ret
          exact ⟨i, dk, rfl, HXq, by rw [← HL.out, HD.out]; rfl⟩

end Go.Proofs.Ytaaoelhmanahpaa
