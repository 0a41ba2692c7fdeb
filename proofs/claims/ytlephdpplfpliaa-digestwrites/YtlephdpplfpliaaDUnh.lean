/-
  The contract of digest.Unhex: a text as a digest.
-/
import Derived.Test.YtlephdpplfpliaaDHex
import Derived.Test.YtlephdpplfpliaaShelf
import Derived.Laws.ResultCell
namespace Go.Proofs.Ytlephdpplfpliaa
open Go.RowKit
set_option linter.unusedVariables false
set_option linter.unusedSimpArgs false

/-- what a sign says; below 0: it is no digit. -/
def hvI (c : Int) : Int := if 48 ≤ c ∧ c ≤ 57 then c - 48 else if 97 ≤ c ∧ c ≤ 102 then c - 87 else -1
theorem idx_fin : ∀ c : Fin 256, Lib.indexByte [48, 49, 50, 51, 52, 53, 54, 55, 56, 57, 97, 98, 99, 100, 101, 102] (UInt8.ofNat c.val) = hvI (c.val : Int) := by decide +kernel
theorem idx_hex (c : UInt8) : Lib.indexByte [48, 49, 50, 51, 52, 53, 54, 55, 56, 57, 97, 98, 99, 100, 101, 102] c = hvI (c.toNat : Int) := by
  have := idx_fin ⟨c.toNat, c.toNat_lt⟩
  simpa using this
theorem hvI_bd (c : Int) : -1 ≤ hvI c ∧ hvI c ≤ 15 := by unfold hvI; split <;> (try split) <;> omega
/-- what the sign in place i of a text says. -/
def sgn (s : ByteArray) (i : Nat) : Int := hvI ((s.data.toList.getD i 0).toNat : Int)
theorem sgn_at (s : ByteArray) (i : Nat) (h : i < s.size) : sgn s i = hvI (s[i].toNat : Int) := by
  unfold sgn
  congr 2
  rw [List.getD_eq_getElem?_getD, List.getElem?_eq_getElem (by simpa using h)]
  rfl
def goodS (s : ByteArray) : Prop := s.size = 64 ∧ ∀ i, i < 64 → 0 ≤ sgn s i
/-- byte j behind the first i signs. -/
def unV (f : Nat → Int) (i j : Nat) : Int := if 2 * j + 2 ≤ i then 16 * f (2 * j) + f (2 * j + 1) else if 2 * j + 1 = i then f (2 * j) else 0
def unK (f : Nat → Int) (i : Nat) : List Int := (List.range 32).map (unV f i)
theorem unK_len (f : Nat → Int) (i : Nat) : (unK f i).length = 32 := by simp [unK]
theorem unK_at (f : Nat → Int) (i j : Nat) (h : j < 32) : (unK f i).getD j 0 = unV f i j := by simp [unK, List.getD_eq_getElem?_getD, h]
theorem or_low (a b : Int) (h0 : 0 ≤ a) (h1 : a < 16) (h2 : 0 ≤ b) (h3 : b < 16) : bits .or .u8 (a * 16) b = 16 * a + b := by
  obtain ⟨x, rfl⟩ := Int.eq_ofNat_of_zero_le h0
  obtain ⟨y, rfl⟩ := Int.eq_ofNat_of_zero_le h2
  have hx : x < 16 := by omega
  have hy : y < 16 := by omega
  have key : ∀ x y : Fin 16, bits .or .u8 ((x.val : Int) * 16) (y.val : Int) = 16 * (x.val : Int) + (y.val : Int) := by decide +kernel
  exact key ⟨x, hx⟩ ⟨y, hy⟩
theorem unK_next (f : Nat → Int) (i : Nat) (h : i < 64) (x : Int) (hx : x = if i % 2 = 0 then f i else 16 * f (i - 1) + f i) : (unK f i).set (i / 2) x = unK f (i + 1) := by
  apply List.ext_getElem?
  intro j
  rw [List.getElem?_set]
  by_cases hj : j < 32
  · by_cases e : i / 2 = j
    · subst e
      simp only [unK, List.length_map, List.length_range, if_true, hj]
      simp only [List.getElem?_map, List.getElem?_range hj, Option.map_some]
      rw [hx]
      congr 1
      unfold unV
      by_cases hp : i % 2 = 0
      · rw [if_pos hp, if_neg (by omega), if_pos (by omega), show 2 * (i / 2) = i by omega]
      · rw [if_neg hp, if_pos (by omega), show 2 * (i / 2) = i - 1 by omega, show i - 1 + 1 = i by omega]
    · rw [if_neg e]
      simp only [unK, List.getElem?_map, List.getElem?_range hj, Option.map_some]
      congr 1
      unfold unV
      by_cases h1 : 2 * j + 2 ≤ i
      · rw [if_pos h1, if_pos (by omega)]
      · rw [if_neg h1, if_neg (by omega), if_neg (by omega), if_neg (by omega)]
  · rw [if_neg (by omega)]
    rw [List.getElem?_eq_none (by rw [unK_len]; omega), List.getElem?_eq_none (by rw [unK_len]; omega)]
theorem unV_even (f : Nat → Int) (i : Nat) (h : i % 2 = 0) : unV f i (i / 2) = 0 := by unfold unV; rw [if_neg (by omega), if_neg (by omega)]
theorem unV_odd (f : Nat → Int) (i : Nat) (h : ¬ i % 2 = 0) : unV f i (i / 2) = f (i - 1) := by unfold unV; rw [if_neg (by omega), if_pos (by omega), show 2 * (i / 2) = i - 1 by omega]

/-- what the loop of Unhex keeps. -/
structure Uh (w : World) (f : Nat → Int) (k : Nat) (wr : World) : Prop where
  res : wr.heap[w.heap.size]? = some (.cells (u8s z32).toArray 26 (0, 0))
  dig : wr.heap[w.heap.size + 1]? = some (.cells (u8s (unK f k)).toArray 26 (0, 0))
  good : ∀ j, j < k → 0 ≤ f j
  below : Below w.heap.size w wr
theorem Uh.start (w : World) (f : Nat → Int) : Uh w f 0 ((w.alloc (.cells (u8s z32).toArray 26)).alloc (.cells (u8s z32).toArray 26)) := by
  have e : unK f 0 = z32 := by
    have e1 : unV f 0 = fun _ => 0 := by funext j; simp [unV]
    unfold unK; rw [e1]; rfl
  exact ⟨heap_alloc2_old w _ _, by rw [e]; exact heap_alloc2_new w _ _, fun j hj => by omega, ((Below.refl _ _).alloc (Nat.le_refl _) _).alloc (by simp) _⟩

theorem results_row_tmp {P : Program} {fn : Func} {p u : Tmp} {ty : TypeId} (h : fn.results = #[.cell p ty, .tmp u]) (tmps : Array Value) (w : World) (g : Nat) (t : TypeId) (cs : Array Value) (fr : Nat × Nat) (d : TypeDesc)
    (hp : tmps.getD p undef = .pointer (some ⟨g, 0, none⟩)) (hg : w.heap[g]? = some (.cells cs t fr))
    (hu : P.underlying ty = some d) (hd : (match d with | .struct _ | .array _ _ => true | _ => false) = true) (hi : (P.info? ty).map (·.size) = some cs.size) :
    (results fn tmps).run P w = .ok (.tuple #[.agg cs, tmps.getD u undef]) w := by
  rw [results_cell_tmp h, hp]
  simp [asAddr, run_loadVar_row w g t ty cs fr d hg hu hd hi]
theorem or_step (f : Nat → Int) (k : Nat) (hk : k < 64) (h0 : ∀ j, j < k → 0 ≤ f j) (h1 : ∀ j, f j ≤ 15) (hf : 0 ≤ f k) : bits .or .u8 (unV f k (k / 2) * 16) (f k) = if k % 2 = 0 then f k else 16 * f (k - 1) + f k := by
  have hk15 := h1 k
  by_cases hp : k % 2 = 0
  · rw [unV_even f k hp, or_low 0 (f k) (by omega) (by omega) hf (by omega), if_pos hp]; omega
  · have := h0 (k - 1) (by omega)
    have h2 := h1 (k - 1)
    rw [unV_odd f k hp, or_low (f (k - 1)) (f k) this (by omega) hf (by omega), if_neg hp]
theorem unV_low (f : Nat → Int) (k : Nat) (h0 : ∀ j, j < k → 0 ≤ f j) (h1 : ∀ j, f j ≤ 15) : 0 ≤ unV f k (k / 2) ∧ unV f k (k / 2) ≤ 15 := by
  by_cases hp : k % 2 = 0
  · rw [unV_even f k hp]; omega
  · rw [unV_odd f k hp]; exact ⟨h0 (k - 1) (by omega), h1 _⟩
theorem sgn_le (s : ByteArray) (j : Nat) : sgn s j ≤ 15 := (hvI_bd _).2

set_option maxRecDepth 20000 in
set_option maxHeartbeats 1000000 in
theorem unhex_any (s : ByteArray) (w : World) (hs : s.size ≤ maxLen) :
    Calls Try.prog 26 #[.string s] w fun e w' => ((goodS s ∧ e = .returned (.tuple #[.agg (u8s (unK (sgn s) 64)).toArray, .int .i64 0])) ∨ (¬ goodS s ∧ e = .returned (.tuple #[.agg (u8s z32).toArray, .int .i64 20]))) ∧ Below w.heap.size w w' := by
  have HST : Hid (Uh w (sgn s) 0 _) := Uh.start w (sgn s)
  have hst := store_new 26 (u8s z32) 32 size32 z32_len (u8s_one z32)
  have hzl := z32_len
  by_cases h64 : s.size = 64
  · have h64i : (s.size : Int) = 64 := by omega
    have H64 : Hid (s.size = 64) := h64
    clear h64
    go_enter Try.func26, Try.ntmps26
    go_wp2_with (first
      | (refine wpList_alloc_to rfl 26 rfl (u8s z32).toArray (by kernel_rfl) ?_)
      | (refine wpList_build_to rfl 26 _ rfl (u8s z32).toArray (by kernel_rfl) ?_))
    go_loopw [14] (fun i wr => ∃ k : Nat, k ≤ 64 ∧ i = .int .i64 k ∧ Uh w (sgn s) k wr) (fun i _ => 64 - (intOf i).toNat)
    case atStart => exact ⟨0, by omega, rfl, HST.out⟩
    case round =>
      obtain ⟨k, hk, rfl, hu⟩ := hrel
      have HU : Hid (Uh w (sgn s) k wr) := hu
      clear hst
      by_cases hlt : k < 64
      · have hks : k < s.size := by rw [H64.out]; exact hlt
        have hlt2 : (k : Int) < (s.size : Int) := by omega
        have hidx : ∀ w, (Instr.index 9 (.string s) (.int .i64 (k : Int))).run Try.prog w = .ok (.int .u8 (s[k].toNat : Int)) w := fun w => by
          simp [Instr.index, asIntOf, run_underlying Try.underlying9, hks]
        have HIX : Hid (∀ w, Calls Try.prog 33 #[.string ⟨#[48, 49, 50, 51, 52, 53, 54, 55, 56, 57, 97, 98, 99, 100, 101, 102]⟩, .int .u8 (s[k].toNat : Int)] w fun e w' => e = .returned (.int .i64 (sgn s k)) ∧ w' = w) := fun w => by
          have := Try.strings_IndexByte ⟨#[48, 49, 50, 51, 52, 53, 54, 55, 56, 57, 97, 98, 99, 100, 101, 102]⟩ (s[k].toNat : Int) w
          rw [sgn_at s k hks, ← idx_hex]
          have e : ((s[k].toNat : Int).toNat.toUInt8) = s[k] := by simp
          rw [e] at this
          exact this
        have HFK : Hid (∀ j, j < k → 0 ≤ sgn s j) := hu.good
        have c1 : wr.cell? ⟨w.heap.size + 1, k / 2, none⟩ = some (.int .u8 (unV (sgn s) k (k / 2))) := by
          rw [cell_of_heap hu.dig, u8s_at _ _ (by rw [unK_len]; omega), unK_at _ _ _ (by omega)]
        have f1 : wr.frozen? ⟨w.heap.size + 1, k / 2, none⟩ = false := frozen_of_heap hu.dig _
        have hvb := unV_low (sgn s) k hu.good (sgn_le s)
        have HOR : Hid (0 ≤ sgn s k → bits .or .u8 (unV (sgn s) k (k / 2) * 16) (sgn s k) = if k % 2 = 0 then sgn s k else 16 * sgn s (k - 1) + sgn s k) := or_step (sgn s) k hlt hu.good (sgn_le s)
        have HNG : Hid (sgn s k < 0 → ¬ goodS s) := fun h hg => by have := hg.2 k hlt; omega
        have hsb := hvI_bd ((s.data.toList.getD k 0).toNat : Int)
        have hsb2 : -1 ≤ sgn s k ∧ sgn s k ≤ 15 := hsb
        have HSK : Hid (∀ x, 0 ≤ sgn s k → (x = if k % 2 = 0 then sgn s k else 16 * sgn s (k - 1) + sgn s k) → Uh w (sgn s) (k + 1) (wr.setCell ⟨w.heap.size + 1, k / 2, none⟩ (.int .u8 x))) := fun x h0 hx => by
          refine ⟨?_, ?_, fun j hj => ?_, ?_⟩
          · rw [Below.heap_setCell _ _ _ _ (by simp)]; exact HU.out.res
          · rw [heap_setCell_at HU.out.dig, ← unK_next (sgn s) k hlt x hx]
            simp [u8s, List.map_set]
          · rcases Nat.lt_or_ge j k with h | h
            · exact HU.out.good j h
            · rw [show j = k by omega]; exact h0
          · exact HU.out.below.trans ((But.setCell (w.heap.size + 1) _ _ _).below (by omega) HU.out.below.size)
        have ht2 : (k : Int).tdiv 2 = ((k / 2 : Nat) : Int) := by rw [Int.tdiv_eq_ediv_of_nonneg (by omega)]; omega
        obtain ⟨q, hq⟩ : ∃ q, q = k / 2 := ⟨_, rfl⟩
        have hq2 : (q : Int) < 32 := by omega
        rw [← hq] at c1 f1 hvb HOR HSK ht2
        generalize s[k].toNat = cb at *
        generalize unV (sgn s) k q = v at *
        generalize sgn s (k - 1) = hp at *
        generalize hsk : sgn s k = hh at *
        clear hu hsb hsk hq
        by_cases hneg : hh < 0
        · have hz3 := hzl
          go_wp2_with (first
            | (go_at_call 33; refine (HIX.out _).mono ?_; rintro en w' ⟨rfl, rfl⟩)
            | (refine wpList_build_to rfl 26 _ rfl (u8s z32).toArray (by kernel_rfl) ?_)
            | (refine wpList_store_row rfl 26 _ _ rfl w.heap.size (u8s z32).toArray rfl rfl 26 (u8s z32).toArray HU.out.res (by rw [size32]; simp [z32_len]) rfl (all_oneCell_toArray (u8s_one _)) ?_))
          exact bodyPost_ret (results_row_tmp (P := Try.prog) rfl _ _ w.heap.size 26 (u8s z32).toArray (0, 0) _ rfl (setRow_heap _ _ _ _ _ _ HU.out.res) Try.underlying26 rfl (by rw [size32]; simp [z32_len])) rfl ⟨Or.inr ⟨HNG.out hneg, rfl⟩, below_setRow HU.out.below (Nat.le_refl _) _⟩
        · go_wp2_with (first
            | (go_at_call 33; refine (HIX.out _).mono ?_; rintro en w' ⟨rfl, rfl⟩))
          refine ⟨⟨k + 1, by omega, by go_num, HSK.out _ (by omega) (HOR.out (by omega))⟩, by simp [intOf]; omega⟩
      · obtain rfl : k = 64 := by omega
        have HGD : Hid (goodS s) := ⟨H64.out, hu.good⟩
        have HDL : Hid ((u8s (unK (sgn s) 64)).length = 32) := by unfold Hid; rw [u8s_len, unK_len]
        have HDG : Hid (wr.heap[w.heap.size + 1]? = some (.cells (u8s (unK (sgn s) 64)).toArray 26 (0, 0))) := hu.dig
        have hge : ¬ ((64 : Nat) : Int) < 64 := by omega
        obtain ⟨S, hS⟩ : ∃ S, S = unK (sgn s) 64 := ⟨_, rfl⟩
        have HS : Hid (S = unK (sgn s) 64) := hS
        rw [← hS] at HDL HDG
        clear hu hlt hS
        go_wp2_with (first
          | (refine wpList_load_row rfl 26 _ rfl (w.heap.size + 1) rfl 26 (u8s S).toArray (0, 0) _ HDG.out Try.underlying26 rfl (by rw [size32]; simp [HDL.out]) ?_)
          | (refine wpList_store_row rfl 26 _ _ rfl w.heap.size (u8s S).toArray rfl rfl 26 (u8s z32).toArray HU.out.res (by rw [size32]; simp [HDL.out]) (by simp [HDL.out, z32_len]) (all_oneCell_toArray (u8s_one _)) ?_))
        refine bodyPost_ret (results_row_tmp (P := Try.prog) rfl _ _ w.heap.size 26 (u8s S).toArray (0, 0) _ rfl (setRow_heap _ _ _ _ _ _ HU.out.res) Try.underlying26 rfl (by rw [size32]; simp [HDL.out])) rfl ⟨Or.inl ⟨HGD.out, by rw [HS.out]; rfl⟩, below_setRow HU.out.below (Nat.le_refl _) _⟩
  · have HNG : Hid (¬ goodS s) := fun h => h64 h.1
    have h64i : ¬ (s.size : Int) = 64 := by omega
    have h64b : ((s.size : Int) == 64) = false := by simpa using h64i
    clear h64
    go_enter Try.func26, Try.ntmps26
    go_wp2_with (first
      | (refine wpList_alloc_to rfl 26 rfl (u8s z32).toArray (by kernel_rfl) ?_)
      | (refine wpList_build_to rfl 26 _ rfl (u8s z32).toArray (by kernel_rfl) ?_)
      | (refine wpList_load_row rfl 26 _ rfl (w.heap.size + 1) rfl 26 (u8s z32).toArray (0, 0) _ (heap_alloc2_new w _ _) Try.underlying26 rfl (by rw [size32]; simp [z32_len]) ?_)
      | (refine wpList_store_row rfl 26 _ _ rfl w.heap.size (u8s z32).toArray rfl rfl 26 (u8s z32).toArray (heap_alloc2_old w _ _) (by rw [size32]; simp [z32_len]) rfl (all_oneCell_toArray (u8s_one _)) ?_))
    exact bodyPost_ret (results_row_tmp (P := Try.prog) rfl _ _ w.heap.size 26 (u8s z32).toArray (0, 0) _ rfl (setRow_heap _ _ _ _ _ _ (heap_alloc2_old w _ _)) Try.underlying26 rfl (by rw [size32]; simp [z32_len])) rfl ⟨Or.inr ⟨HNG.out, rfl⟩, below_setRow HST.out.below (Nat.le_refl _) _⟩
end Go.Proofs.Ytlephdpplfpliaa
