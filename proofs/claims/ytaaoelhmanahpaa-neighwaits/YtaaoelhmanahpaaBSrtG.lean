/-
  slices.Sort at uint32: the breaking of patterns.
-/
import Derived.Test.YtaaoelhmanahpaaBSrtF
import Derived.Test.YtaaoelhmanahpaaShelf
import Derived.Laws.Closers25b
import Derived.Laws.BitsAllLaws
namespace Go.Proofs.Ytaaoelhmanahpaa
open Go.RowKit
open Go.Sort (swp ltInt PermIn SortedIn SWO)
set_option linter.all false

theorem pow_bitLen : ∀ (f n : Nat), n ≤ f → 0 < n → n < 2 ^ 64 → 2 ^ Lib.bitLen n ≤ 2 * n
  | 0, n, h, h0, _ => by omega
  | f + 1, n, h, h0, h1 => by
    rw [Lib.bitLen_half n (by omega) h1, Nat.pow_add]
    by_cases h2 : n / 2 = 0
    · rw [h2]
      have : Lib.bitLen 0 = 0 := by decide
      rw [this]; omega
    · have := pow_bitLen f (n / 2) (by omega) (by omega) (by omega)
      omega
theorem power_any (n : Nat) (w : World) (h0 : 0 < n) (h1 : n < 1152921504606846976) :
    Calls Try.prog 93 #[.int .i64 n] w fun e w' => ∃ (m : Nat), e = .returned (.int .u64 m) ∧ 1 ≤ m ∧ m ≤ 2 * n ∧ w' = w := by
  have hb := Try.bits_Len n w (by omega) (by omega)
  rw [Int.toNat_natCast] at hb
  have hp := pow_bitLen n n (Nat.le_refl _) h0 (by omega)
  have hl : Lib.bitLen n ≤ 64 := Lib.bitLen_le n 64 (Nat.le_refl _) (by omega)
  have hp1 : 1 ≤ 2 ^ Lib.bitLen n := Nat.one_le_two_pow
  have HP := hid hp
  have HP1 := hid hp1
  have HB := hid hb
  clear hb hp hp1
  generalize Lib.bitLen n = k at *
  go_enter Try.func93, Try.ntmps93
  go_wp2_with (go_at_call 79; refine HB.out.mono ?_; rintro e w' ⟨rfl, rfl⟩)
  go_ret
  refine ⟨2 ^ k, ?_, HP1.out, HP.out, rfl⟩
  have h2 : ((2 ^ k : Nat) : Int) = (2 : Int) ^ k := by simp
  have hp := HP.out
  have hp1 := HP1.out
  rw [h2, IntWalk.u64_in _ (by rw [← h2]; omega)]
  rfl
/-- the row, and a number in a box of its own. -/
structure SY (w0 w : World) (g off : Nat) (d : Array Int) (sb : Nat) : Prop where
  row : SW w0 w g off d
  far : w0.heap.size ≤ sb
  ne : g ≠ sb
  box : ∃ s : Int, w.heap[sb]? = some (.cells #[.int .u64 s] 133 (0, 0)) ∧ 0 ≤ s ∧ s ≤ 18446744073709551615
section
variable {w0 w w' : World} {g off sb : Nat} {d : Array Int}
theorem SY.drewN (x : SY w0 w g off d sb) (n : Nat) : SY w0 (w.drewN n) g off d sb := ⟨x.row.drewN n, x.far, x.ne, x.box⟩
theorem SY.drew (x : SY w0 w g off d sb) : SY w0 w.drew g off d sb := ⟨x.row.drew, x.far, x.ne, x.box⟩
theorem SY.cells (x : SY w0 w g off d sb) : ∃ s, w.cell? ⟨sb, 0, none⟩ = some (.int .u64 s) ∧ (0 ≤ s ∧ s ≤ 18446744073709551615) ∧ w.frozen? ⟨sb, 0, none⟩ = false ∧ ∀ v, 0 ≤ v → v ≤ 18446744073709551615 → SY w0 (w.setCell ⟨sb, 0, none⟩ (.int .u64 v)) g off d sb := by
  obtain ⟨s, hs, h0, h1⟩ := x.box
  refine ⟨s, by rw [cell_of_heap hs]; rfl, ⟨h0, h1⟩, by simp [World.frozen?, hs], fun v hv0 hv1 => ⟨⟨fun t ht => ?_, fun t ht => ?_, ?_⟩, x.far, x.ne, v, ?_, hv0, hv1⟩⟩
  · rw [World.cell?_setCell_other (h := by intro h; injection h with h; exact x.ne h.symm)]; exact x.row.cell t ht
  · rw [World.frozen?_setCell]; exact x.row.free t ht
  · have := x.row.but
    refine ⟨this.os, this.tape, this.output, by simpa [World.setCell] using this.size, fun k hk hl => ?_⟩
    rw [Below.heap_setCell _ _ _ _ (by have := x.far; simp only; omega)]
    exact this.block k hk hl
  · simp [World.setCell, hs, Array.getElem?_modify]
end
set_option maxHeartbeats 4000000 in
theorem xor_any (w0 : World) (g off sb : Nat) (d : Array Int) (w : World) (x : SY w0 w g off d sb) :
    Calls Try.prog 94 #[.pointer (some ⟨sb, 0, none⟩)] w fun e w' => ∃ (r : Int), e = .returned (.int .u64 r) ∧ (0 ≤ r ∧ r ≤ 18446744073709551615) ∧ Hid (SY w0 w' g off d sb) := by
  have HX := hid x
  clear x
  obtain ⟨s, c0, hs, f0, hset⟩ := HX.out.cells
  have HSET := hid hset
  clear hset
  go_enter Try.func94, Try.ntmps94
  go_wp2
  go_region
  all_goals go_wp2
  have HX1 := hid (HSET.out (bits BinOp.xor IntKind.u64 s (IntKind.u64.wrap (s * 8192))) (bits_lo_u64 _ _ _) (bits_hi_u64 _ _ _)).drew
  generalize (w.setCell ⟨sb, 0, none⟩ (.int .u64 (bits BinOp.xor IntKind.u64 s (IntKind.u64.wrap (s * 8192))))).drew = w1 at HX1 ⊢
  generalize bits BinOp.xor IntKind.u64 s (IntKind.u64.wrap (s * 8192)) = z1
  generalize IntKind.u64.wrap (s * 8192) = z2
  clear c0 f0 HSET hs
  obtain ⟨s1, c0, hs, f0, hset⟩ := HX1.out.cells
  have HSET := hid hset
  clear hset
  go_region
  all_goals go_wp2
  have HX2 := hid (HSET.out (bits BinOp.xor IntKind.u64 s1 (s1 / 128)) (bits_lo_u64 _ _ _) (bits_hi_u64 _ _ _)).drew
  generalize (w1.setCell ⟨sb, 0, none⟩ (.int .u64 (bits BinOp.xor IntKind.u64 s1 (s1 / 128)))).drew = w2 at HX2 ⊢
  generalize bits BinOp.xor IntKind.u64 s1 (s1 / 128) = z3
  clear c0 f0 HSET hs
  obtain ⟨s2, c0, hs, f0, hset⟩ := HX2.out.cells
  have HSET := hid hset
  clear hset
  have HB : Hid (0 ≤ bits BinOp.xor IntKind.u64 s2 (IntKind.u64.wrap (s2 * 131072)) ∧ bits BinOp.xor IntKind.u64 s2 (IntKind.u64.wrap (s2 * 131072)) ≤ 18446744073709551615) := ⟨bits_lo_u64 _ _ _, bits_hi_u64 _ _ _⟩
  go_region
  all_goals go_wp2
  go_ret
  exact ⟨_, rfl, HB.out, (HSET.out _ HB.out.1 HB.out.2).drew⟩
theorem and_under (r : Int) (m : Nat) (h0 : 0 ≤ r) (h1 : r ≤ 18446744073709551615) (hm : 1 ≤ m) (hm2 : m < 4611686018427387904) : ∃ o : Nat, bits BinOp.and IntKind.u64 r ((m : Int) - 1) = o ∧ o < m := by
  refine ⟨r.toNat &&& ((m : Int) - 1).toNat, u64_and r _ h0 (by omega) (by omega) (by omega), ?_⟩
  have := Nat.and_le_right (n := r.toNat) (m := ((m : Int) - 1).toNat)
  omega
theorem SY.swap {w0 w : World} {g off sb : Nat} {d : Array Int} (x : SY w0 w g off d sb) {i j : Nat} (hi : i < d.size) (hj : j < d.size) : SY w0 ((w.setCell ⟨g, off + i, none⟩ (.int .u32 d[j]!)).setCell ⟨g, off + j, none⟩ (.int .u32 d[i]!)) g off (swp d i j) sb := by
  obtain ⟨s, hs, h0, h1⟩ := x.box
  refine ⟨x.row.swap hi hj, x.far, x.ne, s, ?_, h0, h1⟩
  rw [Below.heap_setCell _ _ _ _ (Ne.symm x.ne), Below.heap_setCell _ _ _ _ (Ne.symm x.ne)]
  exact hs
set_option maxRecDepth 20000 in
set_option maxHeartbeats 4000000 in
theorem break_any (w0 : World) (g off cap a b : Nat) (d : Array Int) (w : World) (x : SW w0 w g off d) (hab : a + 12 < b) (hb : b ≤ d.size) (hsz : d.size < 1152921504606846976) :
    Calls Try.prog 83 #[.slice (some ⟨g, off, none⟩) d.size cap, .int .i64 a, .int .i64 b] w fun e w' => e = .returned (.tuple #[]) ∧ ∃ d', Hid (SW w0 w' g off d') ∧ PermIn a b d d' := by
  obtain ⟨l, hl⟩ : ∃ l, l = b - a := ⟨_, rfl⟩
  have hli : (b : Int) - a = l := by omega
  have HX : Hid (SY w0 (w.alloc (.cells #[.int .u64 l] 133)) g off d w.heap.size) := by
    have hlt := x.lt (by omega)
    exact ⟨x.below (by omega) (bpush (Below.refl _ _) _), x.but.size, by omega, l, heap_new _ _, by omega, by omega⟩
  clear x
  have hl2 : 12 < l := by omega
  have hl3 : a + l ≤ d.size := by omega
  have HL : Hid (b = a + l) := by unfold Hid; omega
  clear hl
  obtain ⟨q, hq⟩ : ∃ q, q = l / 4 := ⟨_, rfl⟩
  have hqi : (l : Int) / 4 = q := by omega
  have hq1 : 3 ≤ q := by omega
  have hq2 : q * 2 + 1 < l := by omega
  clear hq
  have HP := hid (power_any l (w.alloc (.cells #[.int .u64 l] 133)) (by omega) (by omega))
  go_enter Try.func83, Try.ntmps83
  go_wp2_with (go_at_call 93; with_reducible refine HP.out.mono ?_; rintro e w1 ⟨m, rfl, hm1, hm2, rfl⟩)
  clear HP
  go_loopw [9, 10] (fun vi _ wr => ∃ (i : Nat) (dk : Array Int), vi = .int .i64 i ∧ a + q * 2 ≤ i + 1 ∧ i ≤ a + q * 2 + 2 ∧ dk.size = d.size ∧ Hid (SY w0 wr g off dk w.heap.size) ∧ Hid (PermIn a b d dk)) (fun vi _ _ => a + q * 2 + 2 - (intOf vi).toNat)
  case atStart => exact ⟨a + q * 2 - 1, d, by congr 1; omega, by omega, by omega, rfl, HX, Sort.permIn_refl _ _ _⟩
  case round =>
    clear HX
    obtain ⟨i, dk, rfl, hi1, hi2, hsk, HX, HPm⟩ := hrel
    by_cases hi : i ≤ a + q * 2 + 1
    · go_wp2_with (go_at_call 94; with_reducible refine (xor_any w0 g off w.heap.size dk _ HX.out).mono ?_; rintro e w1 ⟨r, rfl, hr, HX1⟩; obtain ⟨o, ho, hom⟩ := and_under r m hr.1 hr.2 hm1 (by omega))
      · clear HX
        have hlo : l ≤ o := by omega
        obtain ⟨t, ht⟩ : ∃ t, o = l + t := ⟨o - l, by omega⟩
        have hts : (o : Int) - l = t := by omega
        have htl : t < l := by omega
        simp only [hts]
        clear hts ht hlo ho hom

        have htd : a + t < d.size := by omega
        obtain ⟨G, HG, hcw, hfw⟩ := HX1.out.row.fam hsk
        obtain ⟨u, hu⟩ := cell_set hcw (i := i) (j := a + t) (by omega) (by omega) (.int .u32 (G (a + t)))
        have HX2 : Hid (SY w0 ((w1.setCell ⟨g, off + i, none⟩ (.int .u32 (G (a + t)))).setCell ⟨g, off + (a + t), none⟩ (.int .u32 (G i))).drew g off (swp dk i (a + t)) w.heap.size) := by
          unfold Hid; rw [HG.out, HG.out]; exact (HX1.out.swap (by omega) (by omega)).drew
        have HP2 : Hid (PermIn a b d (swp dk i (a + t))) := Sort.permIn_trans _ _ _ _ _ HPm.out (Sort.swp_permIn _ _ _ _ _ (by omega) (by omega) (by omega) (by omega) (by omega))
        clear HX1 HG HPm
        go_region
        all_goals go_wp2
        go_roundw
        case rel => exact ⟨i + 1, swp dk i (a + t), by go_num, by omega, by omega, by rw [swp_len]; exact hsk, HX2, HP2⟩
        case measure => simp [intOf]; omega
      · clear HX
        obtain ⟨t, ht⟩ : ∃ t, t = o := ⟨_, rfl⟩
        have htl : t < l := by omega
        simp only [← ht] at *

        have htd : a + t < d.size := by omega
        obtain ⟨G, HG, hcw, hfw⟩ := HX1.out.row.fam hsk
        obtain ⟨u, hu⟩ := cell_set hcw (i := i) (j := a + t) (by omega) (by omega) (.int .u32 (G (a + t)))
        have HX2 : Hid (SY w0 ((w1.setCell ⟨g, off + i, none⟩ (.int .u32 (G (a + t)))).setCell ⟨g, off + (a + t), none⟩ (.int .u32 (G i))).drew g off (swp dk i (a + t)) w.heap.size) := by
          unfold Hid; rw [HG.out, HG.out]; exact (HX1.out.swap (by omega) (by omega)).drew
        have HP2 : Hid (PermIn a b d (swp dk i (a + t))) := Sort.permIn_trans _ _ _ _ _ HPm.out (Sort.swp_permIn _ _ _ _ _ (by omega) (by omega) (by omega) (by omega) (by omega))
        clear HX1 HG HPm
        go_region
        all_goals go_wp2
        go_roundw
        case rel => exact ⟨i + 1, swp dk i (a + t), by go_num, by omega, by omega, by rw [swp_len]; exact hsk, HX2, HP2⟩
        case measure => simp [intOf]; omega
    · go_wp2
      go_end0
      exact ⟨rfl, dk, HX.out.row, HPm.out⟩
end Go.Proofs.Ytaaoelhmanahpaa
