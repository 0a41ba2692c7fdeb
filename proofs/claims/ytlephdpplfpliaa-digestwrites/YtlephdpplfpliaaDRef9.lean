/-
  The document's digest of any parts.
-/
import Derived.Test.YtlephdpplfpliaaDRef8
import Derived.Test.YtlephdpplfpliaaDNew
namespace Go.Proofs.Ytlephdpplfpliaa
open Go.RowKit
set_option linter.all false

/-- the document's Hash at p, whose memory lies from B on. -/
def RHB (B p : Nat) (y : HS) (wr : World) : Prop := ∃ g c rv, RH p y y.n wr g c rv ∧ (∀ b, rv.ownBlock = some b → B ≤ b) ∧ B ≤ p ∧ B ≤ g
theorem RH.below {p : Nat} {x : HS} {m : Nat} {w w' : World} {g c : Nat} {rv : Value} (h : RH p x m w g c rv) (hb : Below w.heap.size w w') : RH p x m w' g c rv :=
  ⟨(hb.block p (Array.getElem?_eq_some_iff.1 h.at_).1).trans h.at_, h.h.below hb, h.r.below hb, h.ok⟩
/-- New of the document's. -/
theorem refNew_rh (w : World) : RH (w.heap.size + 1) hsI 0 ((w.alloc (.cells (u32s iv.l).toArray 47)).alloc (.cells #[.slice (some ⟨w.heap.size, 0, none⟩) 8 8, .slice none 0 0, .int .i64 0] 45)) w.heap.size 8 (.slice none 0 0) := by
  refine ⟨heap_alloc2_new w _ _, ?_, ?_, hsI_ok⟩
  · have := Bk.Row.of_heap (vs := u32s iv.l) (w := (w.alloc (.cells (u32s iv.l).toArray 47)).alloc (.cells #[.slice (some ⟨w.heap.size, 0, none⟩) 8 8, .slice none 0 0, .int .i64 0] 45)) (heap_alloc2_old w _ _) (by rw [u32s_len, l_len]; unfold maxLen; omega)
    rw [u32s_len, l_len] at this
    exact this
  · have e : hsI.rest = [] := rfl
    rw [e]
    exact Bk.Row.nil _ _
structure Sr (w : World) (y : HS) (wr : World) : Prop where
  ex : ∃ g c rv, RH (w.heap.size + 2) y y.n wr g c rv ∧ (∀ b, rv.ownBlock = some b → w.heap.size + 1 ≤ b)
  res : wr.heap[w.heap.size]? = some (.cells (u8s z32).toArray 26 (0, 0))
  below : Below w.heap.size w wr
theorem Sr.start (w : World) : Sr w hsI (((w.alloc (.cells (u8s z32).toArray 26)).alloc (.cells (u32s iv.l).toArray 47)).alloc (.cells #[.slice (some ⟨w.heap.size + 1, 0, none⟩) 8 8, .slice none 0 0, .int .i64 0] 45)) := by
  have h := refNew_rh (w.alloc (.cells (u8s z32).toArray 26))
  simp only [World.size_alloc] at h
  refine ⟨⟨_, _, _, h, by simp [Value.ownBlock]⟩, ?_, (((Below.refl _ _).alloc (Nat.le_refl _) _).alloc (by simp) _).alloc (by simp; omega) _⟩
  rw [heap_alloc_old (h := by simp; omega), heap_alloc2_old]
theorem Sr.next {w wr : World} {y : HS} (h : Sr w y wr) (pt : Part) (hok : pt.ok w) (hn : y.n + pt.zs.length ≤ 1152921504606840000) :
    Calls Try.prog 15 #[.pointer (some ⟨w.heap.size + 2, 0, none⟩), pt.val] wr fun e w' => e = .returned (.tuple #[]) ∧ Sr w (absorb y pt.zs) w' := by
  obtain ⟨g, c, rv, hR, ho⟩ := h.ex
  refine (refWrite_any (w.heap.size + 2) y y.n g c rv pt wr hR (Part.ok_below hok h.below) (Part.off_of_ok hok (by omega)) (fun b hb => Part.off_of_ok hok (by have := ho b hb; omega)) (by omega)).mono ?_
  rintro e w' ⟨rfl, g', c', rv', hR', hF, hO⟩
  have hs := h.below.size
  have hl := (Array.getElem?_eq_some_iff.1 h.res).1
  refine ⟨rfl, ⟨g', c', rv', by rw [absorb_n]; exact hR', fun b hb => ?_⟩, ?_, ?_⟩
  · rcases hO b hb with h1 | h1
    · exact ho b h1
    · omega
  · rw [hF.block _ (by omega) (fun e => by have := ho _ e; omega) hl]
    exact h.res
  · exact h.below.trans ⟨hF.os, hF.tape, hF.output, hF.size, fun k hk => hF.block k (by omega) (fun e => by have := ho _ e; omega) (by omega)⟩
set_option maxRecDepth 20000 in
set_option maxHeartbeats 1000000 in
theorem refSum_any (a : Option Addr) (cap : Nat) (ps : List Part) (w : World) (hp : PartsAt w a ps) (hl : (flat ps).length ≤ 1152921504606840000) (hn : ps.length ≤ 140737488355328) :
    Calls Try.prog 10 #[.slice a ps.length cap] w fun e w' => e = .returned (.agg (u8s (sha (flat ps))).toArray) ∧ Below w.heap.size w w' := by
  have HP := Bk.hid hp
  have HLL := Bk.hid hl
  obtain ⟨N, hN⟩ : ∃ N, N = ps.length := ⟨_, rfl⟩
  have HN := Bk.hid hN
  have HST := Bk.hid (Sr.start w)
  have HSH : Hid (sha (flat ps) = sumL (absorb hsI (flat ps))) := rfl
  have HSL : Hid ((u8s (sha (flat ps))).length = 32) := by unfold Hid; rw [u8s_len]; rfl
  generalize sha (flat ps) = S at *
  rw [← hN] at hn ⊢
  clear hN hp hl
  go_enter Try.func10, Try.ntmps10
  go_wp2_with (first
    | (refine wpList_alloc_to rfl 26 rfl (u8s z32).toArray (by kernel_rfl) ?_)
    | (go_at_call 13; refine (refNew_any _).mono ?_; rintro en w' ⟨rfl, rfl⟩))
  go_loopw [4] (fun i wr => ∃ k : Nat, k ≤ N ∧ i = .int .i64 k ∧ Hid (Sr w (absorb hsI (flat (ps.take k))) wr)) (fun i _ => N - (intOf i).toNat)
  case atStart => exact ⟨0, Nat.zero_le _, rfl, HST⟩
  case round =>
    clear HST
    obtain ⟨k, hk, rfl, HQ⟩ := hrel
    by_cases hlt : k < N
    · have hkp : k < ps.length := by rw [← HN.out]; exact hlt
      obtain ⟨b, o, ha, hc⟩ := HP.out.1 k hkp
      have hpk : ps.getD k Part.nil ∈ ps := by rw [List.getD_eq_getElem?_getD, List.getElem?_eq_getElem hkp]; exact List.getElem_mem hkp
      have hokw := HP.out.2 _ hpk
      have hcr : wr.cell? ⟨b, o + k, none⟩ = some (ps.getD k Part.nil).val := by
        rw [HQ.out.below.cell (p := ⟨b, o + k, none⟩) (World.block_lt_of_cell? w _ hc)]; exact hc
      have HWR : Hid (Calls Try.prog 15 #[.pointer (some ⟨w.heap.size + 2, 0, none⟩), (ps.getD k Part.nil).val] wr fun e w' => e = .returned (.tuple #[]) ∧ Hid (Sr w (absorb hsI (flat (ps.take (k + 1)))) w')) := by
        unfold Hid
        rw [flat_take ps k hkp, absorb_app]
        exact HQ.out.next (ps.getD k Part.nil) hokw (by rw [absorb_n]; have h1 := flat_len ps k hkp; have h2 := HLL.out; show 0 + _ + _ ≤ _; omega)
      subst ha
      generalize (ps.getD k Part.nil).val = V at *
      clear hc hpk hokw
      go_wp2_with (go_at_call 15; refine HWR.out.mono ?_; rintro en w' ⟨rfl, HQ2⟩)
      go_roundw
      case rel => exact ⟨k + 1, by omega, by go_num, HQ2⟩
      case measure => simp [intOf]; omega
    · have hkn : ps.take k = ps := List.take_of_length_le (by rw [← HN.out]; omega)
      rw [hkn] at HQ
      obtain ⟨g, c, rv, hR, ho⟩ := HQ.out.ex
      have HHS : Hid (Calls Try.prog 17 #[.pointer (some ⟨w.heap.size + 2, 0, none⟩)] wr fun e w' => e = .returned (.agg (u8s S).toArray) ∧ Below wr.heap.size wr w') := by
        have := refHsum_any (w.heap.size + 2) (absorb hsI (flat ps)) g c rv wr hR (by rw [absorb_n]; have h2 := HLL.out; show 0 + _ ≤ _; omega)
        rw [← HSH.out] at this
        exact this
      have hge : ¬ (k : Int) < (N : Int) := by omega
      clear hkn hR ho
      go_wp2_with (go_at_call 17; refine HHS.out.mono ?_; rintro en w6 ⟨rfl, hb6⟩; have HB6 : Hid (Below wr.heap.size wr w6) := hb6; clear hb6)
      have HR6 : Hid (w6.heap[w.heap.size]? = some (.cells (u8s z32).toArray 26 (0, 0))) := (HB6.out.block _ (by have := (Array.getElem?_eq_some_iff.1 HQ.out.res).1; omega)).trans HQ.out.res
      rw [store_at (u8s S) (u8s_one S) w.heap.size 26 (u8s z32).toArray w6 HR6.out (by simp [z32_len, HSL.out])]
      go_wp2
      refine bodyPost_ret (results_cell_row (P := Try.prog) rfl _ _ w.heap.size 26 (u8s S).toArray (0, 0) _ rfl (setRow_heap _ _ _ _ _ _ HR6.out) Try.underlying26 rfl (by rw [size32]; simp [HSL.out])) rfl ⟨rfl, ?_⟩
      exact below_setRow (HQ.out.below.trans (HB6.out.mono HQ.out.below.size)) (Nat.le_refl _) _
end Go.Proofs.Ytlephdpplfpliaa
