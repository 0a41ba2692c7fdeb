/-
  The contracts of digest.New, (*digest.Hash).Len and digest.Sum.
-/
import Derived.Test.YtlephdpplfpliaaDSum
namespace Go.Proofs.Ytlephdpplfpliaa
open Go.RowKit
set_option linter.unusedVariables false
set_option linter.unusedSimpArgs false

def iv : St := ⟨0x6a09e667, 0xbb67ae85, 0x3c6ef372, 0xa54ff53a, 0x510e527f, 0x9b05688c, 0x1f83d9ab, 0x5be0cd19⟩
/-- a Hash that nothing was written to. -/
def hsI : HS := ⟨iv, List.replicate 64 0, 0⟩
theorem hsI_ok : hsI.ok := ⟨by unfold St.ok hsI iv; decide, rfl, fun z hz => by rw [List.eq_of_mem_replicate hz]; omega⟩

set_option maxRecDepth 20000 in
set_option maxHeartbeats 1000000 in
theorem new_any (w : World) : Calls Try.prog 12 #[] w fun e w' => e = .returned (.pointer (some ⟨w.heap.size, 0, none⟩)) ∧ w' = w.alloc (.cells hsI.cells.toArray 51) := by
  go_enter Try.func12, Try.ntmps12
  go_wp2_with (first
    | (refine wpList_build_to rfl 48 _ rfl (u32s iv.l).toArray (by kernel_rfl) ?_)
    | (refine wpList_build_to rfl 51 _ rfl hsI.cells.toArray (by kernel_rfl) ?_))
  go_ret
  exact ⟨rfl, rfl⟩

set_option maxHeartbeats 400000 in
theorem len_any (g : Nat) (x : HS) (w : World) (hb : x.buf.length = 64) (hg : w.heap[g]? = some (.cells x.cells.toArray 51 (0, 0))) :
    Calls Try.prog 18 #[.pointer (some ⟨g, 0, none⟩)] w fun e w' => e = .returned (.int .i64 x.n) ∧ w' = w := by
  have c72 : w.cell? ⟨g, 72, none⟩ = some (.int .i64 x.n) := by rw [cell_of_heap hg]; exact cells_n _ hb
  clear hg
  go_enter Try.func18, Try.ntmps18
  go_wp2
  go_ret
  exact ⟨rfl, rfl⟩

def flat (ps : List Part) : List Int := ps.flatMap (·.zs)
theorem flat_take (ps : List Part) (i : Nat) (h : i < ps.length) : flat (ps.take (i + 1)) = flat (ps.take i) ++ (ps.getD i Part.nil).zs := by
  unfold flat
  rw [List.take_succ_eq_append_getElem h, List.flatMap_append]
  simp [List.getD_eq_getElem?_getD, h]
theorem flat_len (ps : List Part) (i : Nat) (h : i < ps.length) : (flat (ps.take i)).length + (ps.getD i Part.nil).zs.length ≤ (flat ps).length := by
  have e : flat ps = flat (ps.take (i + 1)) ++ flat (ps.drop (i + 1)) := by unfold flat; rw [← List.flatMap_append, List.take_append_drop]
  rw [e, flat_take ps i h]; simp
theorem flat_bytes (w : World) (ps : List Part) (hok : ∀ p, p ∈ ps → p.ok w) : ∀ z, z ∈ flat ps → 0 ≤ z ∧ z ≤ 255 := by
  intro z hz
  obtain ⟨p, hp, hz⟩ := List.mem_flatMap.1 hz
  exact (hok p hp).1 z hz
theorem flat_take_mem (ps : List Part) (i : Nat) (z : Int) (h : z ∈ flat (ps.take i)) : z ∈ flat ps := by
  obtain ⟨p, hp, hz⟩ := List.mem_flatMap.1 h
  exact List.mem_flatMap.2 ⟨p, List.mem_of_mem_take hp, hz⟩
/-- the cells of a list of slices. -/
def PartsAt (w : World) (a : Option Addr) (ps : List Part) : Prop :=
  (∀ i, i < ps.length → ∃ b o, a = some ⟨b, o, none⟩ ∧ w.cell? ⟨b, o + i, none⟩ = some (ps.getD i Part.nil).val) ∧ ∀ p, p ∈ ps → p.ok w
theorem PartsAt.below {w w' : World} {a : Option Addr} {ps : List Part} (h : PartsAt w a ps) (hb : Below w.heap.size w w') : PartsAt w' a ps :=
  ⟨fun i hi => by
    obtain ⟨b, o, ha, hc⟩ := h.1 i hi
    exact ⟨b, o, ha, by rw [hb.cell (p := ⟨b, o + i, none⟩) (World.block_lt_of_cell? w _ hc), hc]⟩, fun p hp => Part.ok_below (h.2 p hp) hb⟩
theorem Part.off_of_ok {p : Part} {w : World} (h : p.ok w) {g : Nat} (hg : w.heap.size ≤ g) : p.off g := by
  rcases h.2.2 with he | ⟨b, o, ha, hc⟩
  · exact Or.inl he
  · by_cases hz : p.zs = []
    · exact Or.inl hz
    · refine Or.inr fun b' o' e => ?_
      rw [ha] at e
      simp only [Option.some.injEq, Addr.mk.injEq] at e
      have := World.block_lt_of_cell? w _ (hc 0 (List.length_pos_iff.2 hz))
      simp only at this
      omega

/-- the digest of bytes. -/
def sha (zs : List Int) : List Int := sumL (absorb hsI zs)

/-- what Sum's loop keeps. -/
structure Sq (w : World) (y : HS) (wr : World) : Prop where
  res : wr.heap[w.heap.size]? = some (.cells (u8s z32).toArray 26 (0, 0))
  hash : wr.heap[w.heap.size + 1]? = some (.cells y.cells.toArray 51 (0, 0))
  below : Below w.heap.size w wr
theorem Sq.start (w : World) : Sq w hsI ((w.alloc (.cells (u8s z32).toArray 26)).alloc (.cells hsI.cells.toArray 51)) :=
  ⟨heap_alloc2_old w _ _, heap_alloc2_new w _ _, ((Below.refl _ _).alloc (Nat.le_refl _) _).alloc (by simp) _⟩
theorem Sq.next {w wr w' : World} {y y' : HS} (h : Sq w y wr) (hb : But (w.heap.size + 1) wr w') (hg : w'.heap[w.heap.size + 1]? = some (.cells y'.cells.toArray 51 (0, 0))) : Sq w y' w' := by
  have hl := (Array.getElem?_eq_some_iff.1 h.hash).1
  exact ⟨(hb.block _ (by omega) (by omega)).trans h.res, hg, h.below.trans (hb.below (by omega) (by omega))⟩

set_option maxRecDepth 20000 in
set_option maxHeartbeats 1000000 in
theorem sum_any (a : Option Addr) (cap : Nat) (ps : List Part) (w : World) (hp : PartsAt w a ps) (hl : (flat ps).length ≤ 1152921504606840000) (hn : ps.length ≤ 140737488355328) :
    Calls Try.prog 8 #[.slice a ps.length cap] w fun e w' => e = .returned (.agg (u8s (sha (flat ps))).toArray) ∧ Below w.heap.size w w' := by
  have hby := flat_bytes w ps hp.2
  have HP : Hid (PartsAt w a ps) := hp
  have HBY : Hid (∀ z, z ∈ flat ps → 0 ≤ z ∧ z ≤ 255) := hby
  have HLL : Hid ((flat ps).length ≤ 1152921504606840000) := hl
  obtain ⟨N, hN⟩ : ∃ N, N = ps.length := ⟨_, rfl⟩
  have HN : Hid (N = ps.length) := hN
  have HST : Hid (Sq w hsI _) := Sq.start w
  have HSH : Hid (sha (flat ps) = sumL (absorb hsI (flat ps))) := rfl
  have HSL : Hid ((u8s (sha (flat ps))).length = 32) := by unfold Hid; rw [u8s_len]; rfl
  generalize sha (flat ps) = S at *
  rw [← hN] at hn ⊢
  clear hN hp hby hl
  go_enter Try.func8, Try.ntmps8
  go_wp2_with (first
    | (refine wpList_alloc_to rfl 26 rfl (u8s z32).toArray (by kernel_rfl) ?_)
    | (go_at_call 12; refine (new_any _).mono ?_; rintro en w' ⟨rfl, rfl⟩))
  go_loopw [9] (fun i wr => ∃ k : Nat, k ≤ N ∧ i = .int .i64 k ∧ Sq w (absorb hsI (flat (ps.take k))) wr) (fun i _ => N - (intOf i).toNat)
  case atStart => exact ⟨0, Nat.zero_le _, rfl, HST.out⟩
  case round =>
    obtain ⟨k, hk, rfl, hq⟩ := hrel
    have HQ : Hid (Sq w (absorb hsI (flat (ps.take k))) wr) := hq
    by_cases hlt : k < N
    · have hkp : k < ps.length := by rw [← HN.out]; exact hlt
      obtain ⟨b, o, ha, hc⟩ := HP.out.1 k hkp
      have hpk : ps.getD k Part.nil ∈ ps := by rw [List.getD_eq_getElem?_getD, List.getElem?_eq_getElem hkp]; exact List.getElem_mem hkp
      have hokw := HP.out.2 _ hpk
      have hcr : wr.cell? ⟨b, o + k, none⟩ = some (ps.getD k Part.nil).val := by
        rw [hq.below.cell (p := ⟨b, o + k, none⟩) (World.block_lt_of_cell? w _ hc)]; exact hc
      have HWR : Hid (Calls Try.prog 14 #[.pointer (some ⟨w.heap.size + 1, 0, none⟩), (ps.getD k Part.nil).val] wr fun e w' => e = .returned (.tuple #[]) ∧ Sq w (absorb hsI (flat (ps.take (k + 1)))) w') := by
        refine (write_any (w.heap.size + 1) (absorb hsI (flat (ps.take k))) (ps.getD k Part.nil) wr (absorb_ok _ _ hsI_ok (fun z hz => HBY.out z (flat_take_mem ps k z hz))) hq.hash (Part.ok_below hokw (hq.below)) (Part.off_of_ok hokw (by omega)) (by rw [absorb_n]; have h1 := flat_len ps k hkp; have h2 := HLL.out; show 0 + _ + _ ≤ _; omega)).mono ?_
        rintro e w' ⟨rfl, h1, h2⟩
        refine ⟨rfl, ?_⟩
        rw [flat_take ps k hkp, absorb_app]
        exact hq.next h2 h1
      subst ha
      generalize (ps.getD k Part.nil).val = V at *
      clear hq hc hpk hokw
      go_wp2_with (go_at_call 14; refine HWR.out.mono ?_; rintro en w' ⟨rfl, hq2⟩; have HQ2 : Hid (Sq w (absorb hsI (flat (ps.take (k + 1)))) w') := hq2; clear hq2)
      go_roundw
      case rel => exact ⟨k + 1, by omega, by go_num, HQ2.out⟩
      case measure => simp [intOf]; omega
    · have hkn : ps.take k = ps := List.take_of_length_le (by rw [← HN.out]; omega)
      rw [hkn] at hq
      have HQ3 : Hid (Sq w (absorb hsI (flat ps)) wr) := hq
      have HHS : Hid (Calls Try.prog 16 #[.pointer (some ⟨w.heap.size + 1, 0, none⟩)] wr fun e w' => e = .returned (.agg (u8s S).toArray) ∧ Below wr.heap.size wr w') := by
        have := hsum_any (w.heap.size + 1) (absorb hsI (flat ps)) wr (absorb_ok _ _ hsI_ok HBY.out) hq.hash (by rw [absorb_n]; have h2 := HLL.out; show 0 + _ ≤ _; omega)
        rw [← HSH.out] at this
        exact this
      have hge : ¬ (k : Int) < (N : Int) := by omega
      clear hq hkn
      go_wp2_with (go_at_call 16; refine HHS.out.mono ?_; rintro en w6 ⟨rfl, hb6⟩; have HB6 : Hid (Below wr.heap.size wr w6) := hb6; clear hb6)
      have HR6 : Hid (w6.heap[w.heap.size]? = some (.cells (u8s z32).toArray 26 (0, 0))) := (HB6.out.block _ (by have := (Array.getElem?_eq_some_iff.1 HQ3.out.res).1; omega)).trans HQ3.out.res
      rw [store_at (u8s S) (u8s_one S) w.heap.size 26 (u8s z32).toArray w6 HR6.out (by simp [z32_len, HSL.out])]
      go_wp2
      refine bodyPost_ret (results_cell_row (P := Try.prog) rfl _ _ w.heap.size 26 (u8s S).toArray (0, 0) _ rfl (setRow_heap _ _ _ _ _ _ HR6.out) Try.underlying26 rfl (by rw [size32]; simp [HSL.out])) rfl ⟨rfl, ?_⟩
      exact below_setRow (HQ3.out.below.trans (HB6.out.mono HQ3.out.below.size)) (Nat.le_refl _) _
end Go.Proofs.Ytlephdpplfpliaa
