/-
  The contract of (*digest.Hash).Sum: the digest of what was written so far.
-/
import Derived.Test.YtlephdpplfpliaaDTail
namespace Go.Proofs.Ytlephdpplfpliaa
open Go.RowKit
set_option linter.unusedVariables false
set_option linter.unusedSimpArgs false

theorem size32 : (Try.prog.info? 26).map (·.size) = some 32 := by kernel_rfl
theorem size73 : (Try.prog.info? 51).map (·.size) = some 73 := by kernel_rfl
def z32 : List Int := List.replicate 32 0
theorem z32_len : (u8s z32).length = 32 := by kernel_rfl
def hs0 : HS := ⟨⟨0, 0, 0, 0, 0, 0, 0, 0⟩, List.replicate 64 0, 0⟩
theorem hs0_len : hs0.cells.length = 73 := by kernel_rfl

/-- the digest of a Hash. -/
def outL (s : St) : List Int := s.l.flatMap wb
def sumL (x : HS) : List Int := outL (absorb x (tailL x.n)).st
def digK (s : St) (k : Nat) : List Int := (s.l.take k).flatMap wb ++ List.replicate (32 - 4 * k) 0
theorem digK_next (s : St) : ∀ k : Nat, k < 8 → splice (u8s (digK s k)) (4 * k) (u8s (wb (s.l.getD k 0))) = u8s (digK s (k + 1))
  | 0, _ => rfl
  | 1, _ => rfl
  | 2, _ => rfl
  | 3, _ => rfl
  | 4, _ => rfl
  | 5, _ => rfl
  | 6, _ => rfl
  | 7, _ => rfl
  | k + 8, h => by omega
theorem digK_len (s : St) : ∀ k : Nat, k ≤ 8 → (u8s (digK s k)).length = 32
  | 0, _ => rfl
  | 1, _ => rfl
  | 2, _ => rfl
  | 3, _ => rfl
  | 4, _ => rfl
  | 5, _ => rfl
  | 6, _ => rfl
  | 7, _ => rfl
  | 8, _ => rfl
  | k + 9, h => by omega
theorem digK8 (s : St) : digK s 8 = outL s := rfl
theorem outL_len (s : St) : (outL s).length = 32 := rfl

theorem cells_one (x : HS) : ∀ v, v ∈ x.cells → v.oneCell' = true := by
  intro v hv
  simp only [HS.cells, List.mem_append, List.mem_singleton] at hv
  rcases hv with h | h | h
  · exact u32s_one _ v h
  · exact u8s_one _ v h
  · subst h; rfl
structure Sm (w : World) (g : Nat) (s : St) (k : Nat) (wr : World) : Prop where
  res : wr.heap[w.heap.size]? = some (.cells (u8s z32).toArray 26 (0, 0))
  dig : wr.heap[g]? = some (.cells (u8s (digK s k)).toArray 26 (0, 0))
  far : w.heap.size + 2 ≤ g
  below : Below w.heap.size w wr

set_option maxHeartbeats 1000000 in
set_option maxRecDepth 20000 in
theorem hsum_any (g : Nat) (x : HS) (w : World) (hx : x.ok) (hg : w.heap[g]? = some (.cells x.cells.toArray 51 (0, 0))) (hn : x.n ≤ 1152921504606840000) :
    Calls Try.prog 16 #[.pointer (some ⟨g, 0, none⟩)] w fun e w' => e = .returned (.agg (u8s (sumL x)).toArray) ∧ Below w.heap.size w w' := by
  have hgl : g < w.heap.size := (Array.getElem?_eq_some_iff.1 hg).1
  have HX : Hid x.ok := hx
  have HG : Hid (w.heap[g]? = some (.cells x.cells.toArray 51 (0, 0))) := hg
  have HXL : Hid (x.cells.length = 73) := cells_len x hx.2.1
  have HN72 : Hid (x.cells.toArray[72]? = some (.int .i64 x.n)) := cells_n x hx.2.1
  clear hx hg
  go_enter Try.func16, Try.ntmps16
  go_wp2_with (first
    | (refine wpList_alloc_to rfl 26 rfl (u8s z32).toArray (by kernel_rfl) ?_)
    | (refine wpList_alloc_to rfl 51 rfl hs0.cells.toArray (by kernel_rfl) ?_)
    | (refine wpList_load_row rfl 51 _ rfl g rfl 51 x.cells.toArray (0, 0) _ (by rw [heap_alloc_old (h := hgl)]; exact HG.out) Try.underlying51 rfl (by rw [size73]; simp [HXL.out]) ?_))
  rw [store_new 51 x.cells 73 size73 HXL.out (cells_one x) (w.heap.size + 1) (w.alloc (.cells (u8s z32).toArray 26)) hs0.cells.toArray (by simp) (by simp [hs0_len])]
  obtain ⟨W2, hW2⟩ : ∃ W2, W2 = (w.alloc (.cells (u8s z32).toArray 26)).alloc (.cells x.cells.toArray 51) := ⟨_, rfl⟩
  have HZ2 : Hid (W2.heap.size = w.heap.size + 2) := by unfold Hid; rw [hW2]; simp
  have HC2 : Hid (W2.heap[w.heap.size + 1]? = some (.cells x.cells.toArray 51 (0, 0))) := by rw [hW2]; exact heap_alloc2_new w _ _
  have HR2 : Hid (W2.heap[w.heap.size]? = some (.cells (u8s z32).toArray 26 (0, 0))) := by rw [hW2]; exact heap_alloc2_old w _ _
  have HB2 : Hid (Below w.heap.size w W2) := by rw [hW2]; exact ((Below.refl _ _).alloc (Nat.le_refl _) _).alloc (by simp) _
  have c72 : W2.cell? ⟨g, 72, none⟩ = some (.int .i64 x.n) := by
    rw [cell_of_heap ((HB2.out.block g hgl).trans HG.out)]; exact HN72.out
  rw [← hW2]
  clear hW2
  go_wp2_with fail
  refine (tail_any x.n W2 (by omega)).mono ?_
  rintro e w3 ⟨rfl, hg3, hb3, hz3⟩
  have HPK : Hid (Part.ok w3 ⟨some ⟨W2.heap.size, 0, none⟩, (tailL x.n).length, tailL x.n⟩) := ⟨tailL_bd x.n (by omega), Nat.le_refl _, Or.inr ⟨_, 0, rfl, fun j hj => by rw [cell_of_heap hg3, Nat.zero_add, u8s_at _ _ hj]⟩⟩
  have HPF : Hid (Part.off (w.heap.size + 1) ⟨some ⟨W2.heap.size, 0, none⟩, (tailL x.n).length, tailL x.n⟩) := Or.inr (fun b o hh => by
    have h2 := HZ2.out
    simp only [Option.some.injEq, Addr.mk.injEq] at hh
    omega)
  have HC3 : Hid (w3.heap[w.heap.size + 1]? = some (.cells x.cells.toArray 51 (0, 0))) := (hb3.block _ (by have := HZ2.out; omega)).trans HC2.out
  have HR3 : Hid (w3.heap[w.heap.size]? = some (.cells (u8s z32).toArray 26 (0, 0))) := (hb3.block _ (by have := HZ2.out; omega)).trans HR2.out
  have HB3 : Hid (Below w.heap.size w w3) := HB2.out.trans (hb3.mono (by have := HZ2.out; omega))
  have HZ3 : Hid (w3.heap.size = w.heap.size + 3) := by unfold Hid; rw [hz3, HZ2.out]
  have HTL : Hid ((tailL x.n).length ≤ 72) := by unfold Hid; rw [tailL_len]; have := (gap_bd x.n).2; omega
  have HWR : Hid (Calls Try.prog 14 #[.pointer (some ⟨w.heap.size + 1, 0, none⟩), .slice (some ⟨W2.heap.size, 0, none⟩) (tailL x.n).length (tailL x.n).length] w3 fun e w' => e = .returned (.tuple #[]) ∧ w'.heap[w.heap.size + 1]? = some (.cells (absorb x (tailL x.n)).cells.toArray 51 (0, 0)) ∧ But (w.heap.size + 1) w3 w') :=
    write_any (w.heap.size + 1) x ⟨some ⟨W2.heap.size, 0, none⟩, (tailL x.n).length, tailL x.n⟩ w3 HX.out HC3.out HPK.out HPF.out (by have := HTL.out; simp only; omega)
  have HSL : Hid (sumL x = outL (absorb x (tailL x.n)).st) := rfl
  have HYO : Hid (absorb x (tailL x.n)).ok := absorb_ok _ _ HX.out (tailL_bd x.n (by omega))
  generalize absorb x (tailL x.n) = y at *
  generalize (tailL x.n).length = T at *
  generalize W2.heap.size = G2 at *
  clear hg3 hb3 hz3 c72 HPK HPF
  go_wp2_with fail
  refine HWR.out.mono ?_
  rintro e w4 ⟨rfl, hg4, hb4⟩
  have HG4 : Hid (w4.heap[w.heap.size + 1]? = some (.cells y.cells.toArray 51 (0, 0))) := hg4
  have HR4 : Hid (w4.heap[w.heap.size]? = some (.cells (u8s z32).toArray 26 (0, 0))) := (hb4.block _ (by omega) (by have := HZ3.out; omega)).trans HR3.out
  have HB4 : Hid (Below w.heap.size w w4) := HB3.out.trans (hb4.below (by omega) (by have := HZ3.out; omega))
  have HZ4 : Hid (w.heap.size + 3 ≤ w4.heap.size) := by have := hb4.size; have h2 := HZ3.out; unfold Hid; omega
  clear hg4 hb4
  go_wp2_with (first
    | (refine wpList_alloc_to rfl 26 rfl (u8s z32).toArray (by kernel_rfl) ?_)
    | (refine wpList_build_to rfl 26 _ rfl (u8s z32).toArray (by kernel_rfl) ?_))
  rw [store_new 26 (u8s z32) 32 size32 z32_len (u8s_one z32) w4.heap.size w4 (u8s z32).toArray rfl (by simp [z32_len])]
  go_wp2_with (first
    | (refine wpList_load_mid rfl 48 _ rfl (w.heap.size + 1) 0 rfl (u32s y.st.l) _ (World.rangeAt_alloc (range_w (st := y.st) (bf := y.buf) (n := y.n) HG4.out) _) Try.underlying48 rfl (by rw [size8, u32s_len]; rfl) ?_))
  have HS0 : Hid (Sm w w4.heap.size y.st 0 (w4.alloc (.cells (u8s z32).toArray 26))) :=
    ⟨by rw [heap_alloc_old (h := by have := HZ4.out; omega)]; exact HR4.out, heap_alloc_last w4 _, by have := HZ4.out; omega, HB4.out.alloc (by have := HZ4.out; omega) _⟩
  have HGE : Hid (w.heap.size + 3 ≤ w4.heap.size) := HZ4.out
  have HSO : Hid y.st.ok := HYO.out.1
  generalize w4.heap.size = g4 at *
  go_loopw [19] (fun i wr => ∃ k : Nat, k ≤ 8 ∧ i = .int .i64 k ∧ Sm w g4 y.st k wr) (fun i _ => 8 - (intOf i).toNat)
  case atStart => exact ⟨0, by omega, rfl, HS0.out⟩
  case round =>
    obtain ⟨k, hk, rfl, hm⟩ := hrel
    have HM : Hid (Sm w g4 y.st k wr) := hm
    by_cases hlt : k < 8
    · have hlt2 : (k : Int) < 8 := by omega
      have hx := index_arr Try.underlying48 sizeU32 aggU32 (u32s y.st.l).toArray k hlt _ (u32s_at y.st.l k hlt)
      have hsl := slice_arr Try.underlying26 sizeU8 g4 0 (4 * k) (by omega) ((k : Int) * 4) (by omega)
      rw [Nat.zero_add] at hsl
      have HPW : Hid (∀ len cap, 4 ≤ len → Calls Try.prog 25 #[.slice (some ⟨g4, 4 * k, none⟩) len cap, .int .u32 (y.st.l.getD k 0)] wr fun e w' => e = .returned (.tuple #[]) ∧ Sm w g4 y.st (k + 1) w') := fun len cap hlen =>
        (putWord_row g4 (4 * k) len cap _ _ 26 wr HM.out.dig (by rw [List.size_toArray, digK_len _ k (by omega)]; omega) hlen (getD_bd (by omega) (ok_at y.st HSO.out) k)).mono fun e w' ⟨he, h1, h2, h3⟩ => by
          refine ⟨he, ?_, ?_, HM.out.far, HM.out.below.trans (h2.below (by have := HM.out.far; omega) HM.out.below.size)⟩
          · rw [h2.block _ (by have := HM.out.far; omega) (Array.getElem?_eq_some_iff.1 HM.out.res).1]; exact HM.out.res
          · rw [h1]
            have e := digK_next y.st k hlt
            simp only [List.toList_toArray] 
            rw [e]
      generalize y.st.l.getD k 0 = p at *
      clear hm
      go_wp2_with (go_at_call 25; refine (HPW.out _ _ (by omega)).mono ?_; rintro en w5 ⟨rfl, hm5⟩; have HM5 : Hid (Sm w g4 y.st (k + 1) w5) := hm5; clear hm5)
      go_roundw
      case rel => exact ⟨k + 1, by omega, by go_num, HM5.out⟩
      case measure => simp [intOf]; omega
    · obtain rfl : k = 8 := by omega
      have HD : Hid (wr.heap[g4]? = some (.cells (u8s (sumL x)).toArray 26 (0, 0))) := by unfold Hid; rw [hm.dig, digK8, HSL.out]
      have HR : Hid (wr.heap[w.heap.size]? = some (.cells (u8s z32).toArray 26 (0, 0))) := hm.res
      have HSZ : Hid ((u8s (sumL x)).length = 32) := by unfold Hid; rw [u8s_len, HSL.out]; rfl
      have hge : ¬ ((8 : Nat) : Int) < 8 := by omega
      obtain ⟨S, hS⟩ : ∃ S, S = sumL x := ⟨_, rfl⟩
      have HS : Hid (S = sumL x) := hS
      rw [← hS] at HD HSZ
      clear hm hlt hS
      go_wp2_with (first
        | (refine wpList_load_row rfl 26 _ rfl g4 rfl 26 (u8s S).toArray (0, 0) _ HD.out Try.underlying26 rfl (by rw [size32]; simp [HSZ.out]) ?_)
        | (refine wpList_store_row rfl 26 _ _ rfl w.heap.size (u8s S).toArray rfl rfl 26 (u8s z32).toArray HR.out (by rw [size32]; simp [HSZ.out]) (by simp [HSZ.out, z32_len]) (all_oneCell_toArray (u8s_one _)) ?_))
      refine bodyPost_ret (results_cell_row (P := Try.prog) rfl _ _ w.heap.size 26 (u8s S).toArray (0, 0) _ rfl (setRow_heap _ _ _ _ _ _ HR.out) Try.underlying26 rfl (by rw [size32]; simp [HSZ.out])) rfl ⟨by rw [HS.out], ?_⟩
      exact below_setRow HM.out.below (Nat.le_refl _) _
end Go.Proofs.Ytlephdpplfpliaa
