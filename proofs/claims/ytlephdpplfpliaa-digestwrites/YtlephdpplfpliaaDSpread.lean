/-
  The 64 words of a block: digest.spread.
-/
import Derived.Test.YtlephdpplfpliaaDTab
namespace Go.Proofs.Ytlephdpplfpliaa
open Go.RowKit
set_option linter.unusedVariables false

def sg0 (x : Int) : Int := bits .xor .u32 (bits .xor .u32 (rr x 7) (rr x 18)) (x / 8)
def sg1 (y : Int) : Int := bits .xor .u32 (bits .xor .u32 (rr y 17) (rr y 19)) (y / 1024)
def nextW (l : List Int) (k : Nat) : Int :=
  (sg1 (l.getD (k - 2) 0) + l.getD (k - 7) 0 + sg0 (l.getD (k - 15) 0) + l.getD (k - 16) 0) % 4294967296
def firstW (B : List Int) (k : Nat) : Int := word4 (B.getD (4 * k) 0) (B.getD (4 * k + 1) 0) (B.getD (4 * k + 2) 0) (B.getD (4 * k + 3) 0)
/-- the first k words that a block makes. -/
def schedL (B : List Int) : Nat → List Int
  | 0 => []
  | k + 1 => schedL B k ++ [if k < 16 then firstW B k else nextW (schedL B k) k]
theorem schedL_len (B : List Int) : ∀ k, (schedL B k).length = k
  | 0 => rfl
  | k + 1 => by simp [schedL, schedL_len B k]
theorem schedL_bd (B : List Int) : ∀ k z, z ∈ schedL B k → 0 ≤ z ∧ z ≤ 4294967295
  | 0, z, h => by simp [schedL] at h
  | k + 1, z, h => by
    simp only [schedL, List.mem_append, List.mem_singleton] at h
    rcases h with h | h
    · exact schedL_bd B k z h
    · subst h
      split
      · exact word4_bd _ _ _ _
      · unfold nextW; omega
theorem getD_bd {l : List Int} {m : Int} (hm : 0 ≤ m) (h : ∀ z, z ∈ l → 0 ≤ z ∧ z ≤ m) (j : Nat) : 0 ≤ l.getD j 0 ∧ l.getD j 0 ≤ m := by
  rw [List.getD_eq_getElem?_getD]
  by_cases hj : j < l.length
  · rw [List.getElem?_eq_getElem hj]; exact h _ (List.getElem_mem hj)
  · rw [List.getElem?_eq_none (by omega)]; simp [hm]
/-- the cells of the array under way. -/
def cellsW (B : List Int) (k : Nat) : Array Value := (u32s (schedL B k ++ List.replicate (64 - k) 0)).toArray
theorem cellsW_size (B : List Int) (k : Nat) (h : k ≤ 64) : (cellsW B k).size = 64 := by
  simp [cellsW, u32s_len, schedL_len]; omega
theorem cellsW_at (B : List Int) (k j : Nat) (h : k ≤ 64) (hj : j < k) : (cellsW B k)[j]? = some (.int .u32 ((schedL B k).getD j 0)) := by
  have hl := schedL_len B k
  simp [cellsW, u32s, List.getElem?_append, hl, hj, List.getD_eq_getElem?_getD]
theorem cellsW_lt (B : List Int) (k j : Nat) (h : k ≤ 64) (hj : j < 64) : ∃ v, (cellsW B k)[j]? = some v :=
  ⟨_, Array.getElem?_eq_getElem (by rw [cellsW_size B k h]; exact hj)⟩
theorem cellsW_set (B : List Int) (k : Nat) (h : k < 64) : (cellsW B k).setIfInBounds k (.int .u32 (if k < 16 then firstW B k else nextW (schedL B k) k)) = cellsW B (k + 1) := by
  have hl := schedL_len B k
  have e : 64 - k = (64 - (k + 1)) + 1 := by omega
  unfold cellsW
  rw [schedL, e, List.replicate_succ]
  simp [u32s, hl]
theorem cell_of_heap {w : World} {g : Nat} {cs : Array Value} {t : TypeId} (h : w.heap[g]? = some (.cells cs t (0, 0))) (j : Nat) : w.cell? ⟨g, j, none⟩ = cs[j]? := by
  simp [World.cell?, h]
theorem frozen_of_heap {w : World} {g : Nat} {cs : Array Value} {t : TypeId} (h : w.heap[g]? = some (.cells cs t (0, 0))) (j : Nat) : w.frozen? ⟨g, j, none⟩ = false := by
  simp [World.frozen?, h]
theorem heap_setCell_at {w : World} {g j : Nat} {cs : Array Value} {t : TypeId} {v : Value} (h : w.heap[g]? = some (.cells cs t (0, 0))) : (w.setCell ⟨g, j, none⟩ v).heap[g]? = some (.cells (cs.setIfInBounds j v) t (0, 0)) := by
  simp [World.setCell, Array.getElem?_modify, h]
theorem u8s_at (zs : List Int) (j : Nat) (h : j < zs.length) : (u8s zs).toArray[j]? = some (.int .u8 (zs.getD j 0)) := by
  simp [u8s, List.getD_eq_getElem?_getD, h]

/-- what the loops of spread keep: the block's bytes, the words so far, the answer's place. -/
structure Spr (B : List Int) (w : World) (k : Nat) (wr : World) : Prop where
  bytes : wr.heap[w.heap.size]? = some (.cells (u8s B).toArray 49 (0, 0))
  res : ∃ zz, wr.heap[w.heap.size + 1]? = some (.cells zz 61 (0, 0)) ∧ zz.size = 64
  words : wr.heap[w.heap.size + 2]? = some (.cells (cellsW B k) 61 (0, 0))
  size : wr.heap.size = w.heap.size + 3
  below : Below w.heap.size w wr
theorem Spr.drew {B : List Int} {w : World} {k : Nat} {wr : World} (h : Spr B w k wr) : Spr B w k wr.drew := ⟨h.bytes, h.res, h.words, h.size, h.below.drew⟩
theorem Spr.next {B : List Int} {w : World} {k : Nat} {wr : World} (h : Spr B w k wr) (hk : k < 64) : Spr B w (k + 1) (wr.setCell ⟨w.heap.size + 2, k, none⟩ (.int .u32 (if k < 16 then firstW B k else nextW (schedL B k) k))) := by
  obtain ⟨zz, hr, hz⟩ := h.res
  refine ⟨?_, ⟨zz, ?_, hz⟩, ?_, ?_, ?_⟩
  · rw [Below.heap_setCell _ _ _ _ (by simp)]; exact h.bytes
  · rw [Below.heap_setCell _ _ _ _ (by simp)]; exact hr
  · rw [heap_setCell_at h.words, cellsW_set B k hk]
  · simp [World.setCell, h.size]
  · exact h.below.trans ⟨rfl, rfl, rfl, by simp [World.setCell], fun j hj => Below.heap_setCell _ _ _ _ (by simp; omega)⟩

theorem Spr.start (B : List Int) (w : World) : Spr B w 0 (((w.alloc (.cells (u8s B).toArray 49)).alloc (.cells (u32s z64).toArray 61)).alloc (.cells (u32s z64).toArray 61)) := by
  refine ⟨?_, ⟨(u32s z64).toArray, ?_, by simp [z64_len]⟩, ?_, by simp, ?_⟩
  · rw [heap_alloc_old (h := by simp; omega), heap_alloc_old (h := by simp), heap_alloc_new]
  · rw [heap_alloc_old (h := by simp)]
    have := heap_alloc_new (w.alloc (.cells (u8s B).toArray 49)) (.cells (u32s z64).toArray 61)
    simpa using this
  · have := heap_alloc_new ((w.alloc (.cells (u8s B).toArray 49)).alloc (.cells (u32s z64).toArray 61)) (.cells (u32s z64).toArray 61)
    rw [World.size_alloc, World.size_alloc] at this
    exact this
  · exact (((Below.refl _ _).alloc (Nat.le_refl _) _).alloc (by simp) _).alloc (by simp; omega) _
set_option maxHeartbeats 2000000 in
set_option maxRecDepth 20000 in
theorem spread_any (B : List Int) (w : World) (hB : B.length = 64) (hb : ∀ z, z ∈ B → 0 ≤ z ∧ z ≤ 255) :
    Calls Try.prog 27 #[.agg (u8s B).toArray] w fun e w' => e = .returned (.agg (u32s (schedL B 64)).toArray) ∧ Below w.heap.size w w' := by
  have HBD : Hid (∀ j, 0 ≤ B.getD j 0 ∧ B.getD j 0 ≤ 255) := getD_bd (by omega) hb
  have hst := store_new 61 (u32s z64) 64 size64 z64_len (u32s_one z64)
  have hl := z64_len
  have HS : Hid _ := Spr.start B w
  have HB : Hid (B.length = 64) := hB
  clear hb hB
  go_enter Try.func27, Try.ntmps27
  go_wp2_with (first
    | (refine wpList_alloc_to rfl 61 rfl (u32s z64).toArray (by kernel_rfl) ?_)
    | (refine wpList_build_to rfl 61 _ rfl (u32s z64).toArray (by kernel_rfl) ?_))
  go_loopw [11] (fun i wr => ∃ k : Nat, k ≤ 16 ∧ i = .int .i64 k ∧ Spr B w k wr) (fun i _ => 16 - (intOf i).toNat)
  case atStart => exact ⟨0, by omega, rfl, HS.out⟩
  case round =>
    obtain ⟨k, hk, rfl, hs⟩ := hrel
    have HSP : Hid (Spr B w k wr) := hs
    by_cases hlt : k < 16
    · have hlt2 : (k : Int) < 16 := by omega
      have cb : ∀ j, j < 4 → wr.cell? ⟨w.heap.size, 4 * k + j, none⟩ = some (.int .u8 (B.getD (4 * k + j) 0)) := fun j hj => by
        rw [cell_of_heap hs.bytes, u8s_at _ _ (by rw [HB.out]; omega)]
      obtain ⟨v, hv⟩ := cellsW_lt B k k (by omega) (by omega)
      have cw : wr.cell? ⟨w.heap.size + 2, k, none⟩ = some v := by rw [cell_of_heap hs.words, hv]
      have fw : wr.frozen? ⟨w.heap.size + 2, k, none⟩ = false := frozen_of_heap hs.words k
      have HGW : Hid (∀ len cap, 4 ≤ len → Calls Try.prog 34 #[.slice (some ⟨w.heap.size, 4 * k, none⟩) len cap] wr fun e w' => e = .returned (.int .u32 (firstW B k)) ∧ w' = wr.drew) := fun len cap hlen =>
        getWord_any w.heap.size (4 * k) len cap _ _ _ _ wr hlen (cb 0 (by omega)) (cb 1 (by omega)) (cb 2 (by omega)) (cb 3 (by omega)) (HBD.out _) (HBD.out _) (HBD.out _) (HBD.out _)
      clear hs cb hv hst hl
      have hsl := slice_arr Try.underlying49 sizeU8 w.heap.size 0 (4 * k) (by omega) ((k : Int) * 4) (by omega)
      rw [Nat.zero_add] at hsl
      have HNX : Hid (Spr B w (k + 1) (wr.drew.setCell ⟨w.heap.size + 2, k, none⟩ (.int .u32 (firstW B k)))) := by
        have := HSP.out.drew.next (by omega)
        rw [if_pos hlt] at this
        exact this
      have e2 : w.heap.size + 1 + 1 = w.heap.size + 2 := rfl
      go_wp2_with (go_at_call 34; refine (HGW.out _ _ (by omega)).mono ?_; rintro e w' ⟨rfl, rfl⟩)
      go_roundw
      case rel => exact ⟨k + 1, by omega, by go_num, HNX.out⟩
      case measure => simp [intOf]; omega
    · have HSP2 : Hid (Spr B w 16 wr) := by
        have hk16 : k = 16 := by omega
        subst hk16; exact hs
      have hge : ¬ (k : Int) < 16 := by omega
      clear hs hst hl HSP
      go_wp2_with fail
      go_loopw [5] (fun i wr => ∃ k : Nat, 16 ≤ k ∧ k ≤ 64 ∧ i = .int .i64 k ∧ Spr B w k wr) (fun i _ => 64 - (intOf i).toNat)
      case atStart => exact ⟨16, by omega, by omega, rfl, HSP2.out⟩
      case round =>
        clear hge hlt hk HSP2
        obtain ⟨k, hk1, hk2, rfl, hs⟩ := hrel
        have HSQ : Hid (Spr B w k wr) := hs
        by_cases hlt : k < 64
        · have hlt2 : (k : Int) < 64 := by omega
          have cl : ∀ j, j < k → wr.cell? ⟨w.heap.size + 2, j, none⟩ = some (.int .u32 ((schedL B k).getD j 0)) := fun j hj => by
            rw [cell_of_heap hs.words, cellsW_at B k j hk2 hj]
          have c15 := cl (k - 15) (by omega)
          have c2 := cl (k - 2) (by omega)
          have c7 := cl (k - 7) (by omega)
          have c16 := cl (k - 16) (by omega)
          have b15 := getD_bd (by omega) (schedL_bd B k) (k - 15)
          have b2 := getD_bd (by omega) (schedL_bd B k) (k - 2)
          have b7 := getD_bd (by omega) (schedL_bd B k) (k - 7)
          have b16 := getD_bd (by omega) (schedL_bd B k) (k - 16)
          obtain ⟨v, hv⟩ := cellsW_lt B k k (by omega) (by omega)
          have cw : wr.cell? ⟨w.heap.size + 2, k, none⟩ = some v := by rw [cell_of_heap hs.words, hv]
          have fw : wr.frozen? ⟨w.heap.size + 2, k, none⟩ = false := frozen_of_heap hs.words k
          have HNW : Hid (nextW (schedL B k) k = (sg1 ((schedL B k).getD (k - 2) 0) + (schedL B k).getD (k - 7) 0 + sg0 ((schedL B k).getD (k - 15) 0) + (schedL B k).getD (k - 16) 0) % 4294967296) := rfl
          generalize (schedL B k).getD (k - 15) 0 = x at *
          generalize (schedL B k).getD (k - 2) 0 = y at *
          generalize (schedL B k).getD (k - 7) 0 = p at *
          generalize (schedL B k).getD (k - 16) 0 = q at *
          clear hs cl hv
          go_wp2
          go_region
          go_wp2_with (go_at_call 29; refine (right_i _ _ _ (by omega) (by omega) (by omega) (by omega)).mono ?_; rintro e w' ⟨rfl, rfl⟩)
          have bs0 := bits_u32_bd .xor (bits .xor .u32 (rr x 7) (rr x 18)) (x / 8)
          have bs1 := bits_u32_bd .xor (bits .xor .u32 (rr y 17) (rr y 19)) (y / 1024)
          have HS0 : Hid (sg0 x = bits .xor .u32 (bits .xor .u32 (rr x 7) (rr x 18)) (x / 8)) := rfl
          have HS1 : Hid (sg1 y = bits .xor .u32 (bits .xor .u32 (rr y 17) (rr y 19)) (y / 1024)) := rfl
          generalize bits .xor .u32 (bits .xor .u32 (rr x 7) (rr x 18)) (x / 8) = s0 at *
          generalize bits .xor .u32 (bits .xor .u32 (rr y 17) (rr y 19)) (y / 1024) = s1 at *
          go_region
          go_wp2
          go_roundw
          case rel =>
            refine ⟨k + 1, by omega, by omega, by go_num, ?_⟩
            have := HSQ.out.next hlt
            rw [if_neg (by omega), HNW.out, HS0.out, HS1.out] at this
            exact this.drew.drew
          case measure => simp [intOf]; omega
        · obtain rfl : k = 64 := by omega
          have hl64 : (u32s (schedL B 64)).length = 64 := by rw [u32s_len, schedL_len]
          have HW : Hid (wr.heap[w.heap.size + 2]? = some (.cells (u32s (schedL B 64)).toArray 61 (0, 0))) := by
            have := hs.words
            unfold cellsW at this
            unfold Hid
            simpa using this
          obtain ⟨zz, hr, hz⟩ := hs.res
          have HR : Hid (wr.heap[w.heap.size + 1]? = some (.cells zz 61 (0, 0))) := hr
          have HZ : Hid (zz.size = 64) := hz
          clear hs hr hz
          go_wp2_with (first
            | (refine wpList_load_row rfl 61 _ rfl (w.heap.size + 2) rfl 61 (u32s (schedL B 64)).toArray (0, 0) _ HW.out Try.underlying61 rfl (by rw [size64]; simp [hl64]) ?_)
            | (refine wpList_store_row rfl 61 _ _ rfl (w.heap.size + 1) (u32s (schedL B 64)).toArray rfl rfl 61 zz HR.out (by rw [size64]; simp [hl64]) (by simp [HZ.out, hl64]) (all_oneCell_toArray (u32s_one _)) ?_))
          refine bodyPost_ret (results_cell_row (P := Try.prog) rfl _ _ (w.heap.size + 1) 61 (u32s (schedL B 64)).toArray (0, 0) _ rfl (setRow_heap _ _ _ _ _ _ HR.out) Try.underlying61 rfl (by rw [size64]; simp [hl64])) rfl ⟨rfl, ?_⟩
          exact HSQ.out.below.trans ⟨rfl, rfl, rfl, by simp [World.setRow], fun j hj => setRow_other _ _ _ _ (by omega)⟩
end Go.Proofs.Ytlephdpplfpliaa
