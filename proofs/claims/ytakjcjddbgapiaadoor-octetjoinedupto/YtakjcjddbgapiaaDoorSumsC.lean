/-
  What OctetSums needs: slices lent one by one and gathered in a list; the document's own sum.
-/
import Derived.Test.YtakjcjddbgapiaaDoorBeyond
import Derived.Test.YtakjcjddbgapiaaDoorLent
import Derived.Test.YtakjcjddbgapiaaDoorOpenS
import Derived.Test.YtakjcjddbgapiaaDoorFolded
namespace Go.Proofs.YtakjcjddbgapiaaDoor
open Go.RowKit
set_option linter.unusedVariables false

def lentVal (g : Nat) (p : Part) : Value := .slice (some ⟨g, 0, none⟩) p.zs.length (p.zs.length + 2)
def lentVals (gs : List Nat) (ps : List Part) (k : Nat) : List Value := (List.range k).map fun i => lentVal (gs.getD i 0) (ps.getD i Part.nil)
theorem infoSl : (Tryd.prog.info? 28).map (fun i => (i.zero, i.size, i.bytes)) = some (some (.slice none 0 0), 1, 24) := by kernel_rfl

/-- the first k of ps are lent, in blocks of their own, and gathered in v. -/
structure LentTo (w0 wr : World) (v : Value) (gs : List Nat) (ps : List Part) (k : Nat) : Prop where
  len : gs.length = k
  own : wr.ownsRow w0.heap.size 28 1 v k (lentVals gs ps k)
  lie : ∀ i, i < k → w0.heap.size ≤ gs.getD i 0 ∧ wr.heap[gs.getD i 0]? = some (.cells (L2 (ps.getD i Part.nil).zs) 5 (0, 0))
  rise : ∀ i j, i < j → j < k → gs.getD i 0 < gs.getD j 0
  below : Below w0.heap.size w0 wr

theorem lentVals_snoc (gs : List Nat) (ps : List Part) (k g : Nat) (h : gs.length = k) : lentVals (gs ++ [g]) ps (k + 1) = lentVals gs ps k ++ [lentVal g (ps.getD k Part.nil)] := by
  unfold lentVals
  rw [List.range_succ, List.map_append]
  congr 1
  · apply List.map_congr_left
    intro i hi
    have hi' : i < gs.length := by rw [h]; simpa using hi
    simp [List.getD_eq_getElem?_getD, List.getElem?_append, hi']
  · simp [List.getD_eq_getElem?_getD, List.getElem?_append, h]

theorem getD_snoc_lo (gs : List Nat) (g i : Nat) (h : i < gs.length) : (gs ++ [g]).getD i 0 = gs.getD i 0 := by
  simp [List.getD_eq_getElem?_getD, List.getElem?_append, h]
theorem getD_snoc_hi (gs : List Nat) (g : Nat) : (gs ++ [g]).getD gs.length 0 = g := by
  simp [List.getD_eq_getElem?_getD]

theorem LentTo.start (w0 : World) (ps : List Part) : LentTo w0 w0 (.slice none 0 0) [] ps 0 :=
  ⟨rfl, World.ownsRow_nil _ _ _ _, by simp, by simp, Below.refl _ _⟩

theorem LentTo.next {w0 wr : World} {v : Value} {gs : List Nat} {ps : List Part} {k : Nat} (h : LentTo w0 wr v gs ps k) (hk : k + 1 ≤ 2147483648) (ty : TypeId) :
    ∃ v' w', (Builtin.append_ #[31, 31] ty #[v, .slice (some ⟨wr.heap.size + 1, 0, none⟩) 1 1]).run Tryd.prog
        ((wr.alloc (.cells (L2 (ps.getD k Part.nil).zs) 5)).alloc (.cells #[lentVal wr.heap.size (ps.getD k Part.nil)] 28)) = .ok v' w' ∧
      LentTo w0 w' v' (gs ++ [wr.heap.size]) ps (k + 1) := by
  obtain ⟨i, hi, hz0, hz1, hz2⟩ := info_parts infoSl
  have hb1 : Below wr.heap.size wr ((wr.alloc (.cells (L2 (ps.getD k Part.nil).zs) 5)).alloc (.cells #[lentVal wr.heap.size (ps.getD k Part.nil)] 28)) := ((Below.refl _ _).alloc (Nat.le_refl _) _).alloc (by simp) _
  have hsz := h.below.size
  have hown : ((wr.alloc (.cells (L2 (ps.getD k Part.nil).zs) 5)).alloc (.cells #[lentVal wr.heap.size (ps.getD k Part.nil)] 28)).ownsRow w0.heap.size 28 1 v k (lentVals gs ps k) := (h.own.alloc _).alloc _
  obtain ⟨v', w', hrun, hown', hgr, _⟩ := run_append_own (P := Tryd.prog) _ w0.heap.size 31 ty 28 i (.slice none 0 0) 1 24 Tryd.underlying31 hi hz0 hz1 hz2 rfl (by decide) v k (lentVals gs ps k) hown
    ⟨wr.heap.size + 1, 0, none⟩ 1 1 [lentVal wr.heap.size (ps.getD k Part.nil)] rfl (fun j u hj => by
      have : j = 0 := by
        rcases j with _ | j
        · rfl
        · simp at hj
      subst this
      simp at hj
      subst hj
      rw [show (⟨wr.heap.size + 1, 0, none⟩ : Addr).add 0 = ⟨wr.heap.size + 1, 0, none⟩ from rfl, World.cell?_alloc_at _ _ _ _ (by simp)]
      rfl) (by simp [lentVal, Value.oneCell']) (by unfold maxLen; omega) (by omega) (by simp; omega)
  refine ⟨v', w', hrun, ?_⟩
  -- a block of bytes is not the list's own
  have hne : ∀ g (X : Array Value), ((wr.alloc (.cells (L2 (ps.getD k Part.nil).zs) 5)).alloc (.cells #[lentVal wr.heap.size (ps.getD k Part.nil)] 28)).heap[g]? = some (.cells X 5 (0, 0)) → some g ≠ v.ownBlock := by
    intro g X hg e
    rcases hown.2 with ⟨rfl, _⟩ | ⟨g2, cap, cur, rfl, _, hg2, _⟩
    · cases e
    · simp only [Value.ownBlock, Option.some.injEq] at e
      subst e
      rw [hg] at hg2
      simp at hg2
  have keep : ∀ g (X : Array Value), ((wr.alloc (.cells (L2 (ps.getD k Part.nil).zs) 5)).alloc (.cells #[lentVal wr.heap.size (ps.getD k Part.nil)] 28)).heap[g]? = some (Obj.cells X 5 (0, 0)) → w'.heap[g]? = some (Obj.cells X 5 (0, 0)) := fun g X hg => by
    rw [hgr.block g (heap_lt hg) (hne g X hg)]; exact hg
  have hnew : ((wr.alloc (.cells (L2 (ps.getD k Part.nil).zs) 5)).alloc (.cells #[lentVal wr.heap.size (ps.getD k Part.nil)] 28)).heap[wr.heap.size]? = some (.cells (L2 (ps.getD k Part.nil).zs) 5 (0, 0)) := by
    rw [Below.heap_alloc _ _ _ (by simp)]; exact heap_new _ _
  refine ⟨by rw [List.length_append, h.len]; rfl, by rw [lentVals_snoc _ _ _ _ h.len]; exact hown', fun j hj => ?_, fun j l hjl hl => ?_, ?_⟩
  · by_cases hjk : j < k
    · rw [getD_snoc_lo _ _ _ (by rw [h.len]; exact hjk)]
      obtain ⟨h1, h2⟩ := h.lie j hjk
      exact ⟨h1, keep _ _ (by rw [hb1.block _ (heap_lt h2)]; exact h2)⟩
    · have hjk2 : j = k := by omega
      subst hjk2
      have e := getD_snoc_hi gs wr.heap.size
      rw [h.len] at e
      rw [e]
      exact ⟨hsz, keep _ _ hnew⟩
  · by_cases hlk : l < k
    · rw [getD_snoc_lo _ _ _ (by rw [h.len]; omega), getD_snoc_lo _ _ _ (by rw [h.len]; omega)]
      exact h.rise j l hjl hlk
    · have hlk2 : l = k := by omega
      subst hlk2
      have e := getD_snoc_hi gs wr.heap.size
      rw [h.len] at e
      rw [getD_snoc_lo _ _ _ (by rw [h.len]; omega), e]
      exact heap_lt (h.lie j (by omega)).2
  · refine (h.below.trans (hb1.mono hsz)).grown hgr (by simp; omega) (fun g hg => ?_)
    rcases hown.2 with ⟨rfl, _⟩ | ⟨g2, cap, cur, rfl, hB, _⟩
    · cases hg
    · simp only [Value.ownBlock, Option.some.injEq] at hg
      omega

theorem cs_add (a b : Int) (h0 : 0 ≤ a) (h1 : 0 ≤ b) : cs (cs a + b) = cs (a + b) := by
  unfold cs
  by_cases ha : a = 0
  · rw [if_pos ha, ha]
  · rw [if_neg ha, if_neg (show ¬ (a - 1) % 65535 + 1 + b = 0 by omega), if_neg (show ¬ a + b = 0 by omega)]
    omega

set_option maxHeartbeats 1000000 in
theorem refSum_any (a : Option Addr) (cap : Nat) (ps : List Part) (w : World) (hpa : PartsAt w a ps) (hl : (flat ps).length ≤ 140737488355328) (hn : ps.length ≤ 140737488355328) :
    Calls Tryd.prog 22 #[.slice a ps.length cap] w fun e w' => e = .returned (.int .u16 (sumOf (flat ps))) ∧ w' = w := by
  obtain ⟨hp, hok⟩ := hpa
  have hby := flat_bytes w ps hok
  obtain ⟨N, hN⟩ : ∃ N, N = ps.length := ⟨_, rfl⟩
  have HN : Hid (N = ps.length) := hN
  rw [← hN] at hn ⊢
  clear hN
  go_enter Tryd.func22, Tryd.ntmps22
  go_wp2
  go_loop [3, 4, 5] (fun t h i => ∃ k : Nat, k ≤ N ∧ i = .int .i64 k ∧ t = .int .u64 (cs (run (flat (ps.take k))).1) ∧ h = .bool (run (flat (ps.take k))).2) (fun _ _ i => N - (intOf i).toNat)
  case atStart => exact ⟨0, Nat.zero_le _, rfl, rfl, rfl⟩
  case round =>
    obtain ⟨k, hk, rfl, rfl, rfl⟩ := hrel
    by_cases hlt : k < N
    · have hkp : k < ps.length := by rw [← HN.out]; exact hlt
      obtain ⟨p, hp0⟩ : ∃ p, p = ps.getD k Part.nil := ⟨_, rfl⟩
      obtain ⟨b, off, hab, hcell⟩ := hp k hkp
      subst hab
      have hpk : p ∈ ps := by rw [hp0, List.getD_eq_getElem?_getD, List.getElem?_eq_getElem hkp]; exact List.getElem_mem hkp
      have hft := flat_take ps k hkp
      have hfl := flat_len ps k hkp
      rw [← hp0] at hcell hft hfl
      have hpre : ∀ z, z ∈ flat (ps.take k) → 0 ≤ z ∧ z ≤ 255 := fun z hz => hby z (flat_take_mem ps k z hz)
      obtain ⟨hpz, hpc⟩ := hok p hpk
      obtain ⟨F, hF⟩ : ∃ F, F = flat (ps.take k) := ⟨_, rfl⟩
      rw [← hF] at hft hfl hpre ⊢
      have HFT : Hid (flat (ps.take (k + 1)) = F ++ p.zs) := hft
      clear hft hF hkp hpk hp0 hok hp hby
      have hrb := run_bd F hpre
      obtain ⟨pa, pc, zs⟩ := p
      unfold Part.val at hcell
      simp only at hcell hpz hpc HFT hfl
      have hlt2 : (k : Int) < (N : Int) := by omega
      rcases hpc with hemp | ⟨pb, po, hpa, hpcell⟩
      · subst hemp
        have HF2 : Hid (flat (ps.take (k + 1)) = F) := by have := HFT.out; unfold Hid; simpa using this
        clear HFT
        simp only [List.length_nil] at hcell
        go_wp2
        refine wp_loop_rounds 1 ?_
        rw [rounds_succ]
        go_wp2
        go_round
        case rel => exact ⟨k + 1, by omega, by go_num, by rw [HF2.out], by rw [HF2.out]⟩
        case measure => simp [intOf]; omega
      · subst hpa
        obtain ⟨n, hn0⟩ : ∃ n, n = zs.length := ⟨_, rfl⟩
        have HZ : Hid (n = zs.length) := hn0
        rw [← hn0] at hcell hfl
        have hpcell' : ∀ j, j < n → w.cell? ⟨pb, po + j, none⟩ = some (.int .u8 (zs.getD j 0)) := fun j hj => hpcell j (by rw [← hn0]; exact hj)
        have hzb : ∀ j, j < n → 0 ≤ zs.getD j 0 ∧ zs.getD j 0 ≤ 255 := fun j hj => hpz _ (by rw [List.getD_eq_getElem?_getD, List.getElem?_eq_getElem (by rw [← hn0]; exact hj)]; exact List.getElem_mem _)
        have hrun : ∀ j, j ≤ n → 0 ≤ (run (F ++ zs.take j)).1 := fun j hj => by
          exact (run_bd (F ++ zs.take j) (fun z hz => by
            rcases List.mem_append.1 hz with h | h
            · exact hpre z h
            · exact hpz z (List.mem_of_mem_take h))).1
        clear hpcell hn0 hpre hpz
        go_wp2
        go_loop [3, 4, 6] (fun t h i => ∃ j : Nat, j ≤ n ∧ i = .int .i64 j ∧ t = .int .u64 (cs (run (F ++ zs.take j)).1) ∧ h = .bool (run (F ++ zs.take j)).2) (fun _ _ i => n - (intOf i).toNat)
        case atStart => exact ⟨0, Nat.zero_le _, rfl, by simp, by simp⟩
        case round =>
          obtain ⟨j, hj, rfl, rfl, rfl⟩ := hrel
          have hr := hrun j hj
          by_cases hjl : j < n
          · have hc := hpcell' j hjl
            have hz := hzb j hjl
            have hsn : run (F ++ zs.take (j + 1)) = step (run (F ++ zs.take j)) (zs.getD j 0) := by
              rw [take_snoc zs j (by rw [← HZ.out]; exact hjl), ← List.append_assoc, run_snoc]
            obtain ⟨⟨t, h⟩, ht⟩ : ∃ s, s = run (F ++ zs.take j) := ⟨_, rfl⟩
            rw [← ht] at hr hsn ⊢
            obtain ⟨z, hz0⟩ : ∃ z, z = zs.getD j 0 := ⟨_, rfl⟩
            rw [← hz0] at hc hz hsn
            have HS : Hid (run (F ++ zs.take (j + 1)) = step (t, h) z) := hsn
            clear hsn ht hz0 hpcell' hzb hrun
            simp only at hr
            have hcb := cs_bd t hr
            have hjl2 : (j : Int) < (n : Int) := by omega
            cases h
            · have HA : Hid (cs (cs t + z) = cs (t + z)) := cs_add t z hr hz.1
              have HT : Hid (step (t, false) z = (t + z, true)) := by unfold Hid step; simp
              generalize hct : cs t = ct at *
              clear hct
              go_wp2_with (go_at_call 32; refine (folded_any _ _ (by omega) (by omega)).mono ?_; rintro e w' ⟨rfl, rfl⟩)
              go_round
              case rel => exact ⟨j + 1, by omega, by go_num, by rw [HS.out, HT.out, HA.out], by rw [HS.out, HT.out]⟩
              case measure => simp [intOf]; omega
            · have HA : Hid (cs (cs t + 256 * z) = cs (t + z * 256)) := by unfold Hid; rw [cs_add t (256 * z) hr (by omega), Int.mul_comm]
              have HT : Hid (step (t, true) z = (t + z * 256, false)) := by unfold Hid step; simp
              generalize hct : cs t = ct at *
              clear hct
              go_wp2_with (go_at_call 32; refine (folded_any _ _ (by omega) (by omega)).mono ?_; rintro e w' ⟨rfl, rfl⟩)
              go_round
              case rel => exact ⟨j + 1, by omega, by go_num, by rw [HS.out, HT.out, HA.out], by rw [HS.out, HT.out]⟩
              case measure => simp [intOf]; omega
          · have hjn : j = n := by omega
            have HT : Hid (F ++ zs.take j = flat (ps.take (k + 1))) := by
              unfold Hid
              rw [HFT.out, List.take_of_length_le (by rw [← HZ.out]; omega)]
            have hge : ¬ (j : Int) < (n : Int) := by omega
            clear hjn
            go_wp2
            go_round
            case rel => exact ⟨k + 1, by omega, by go_num, by rw [HT.out], by rw [HT.out]⟩
            case measure => simp [intOf]; omega
    · have hkn : ps.take k = ps := List.take_of_length_le (by rw [← HN.out]; omega)
      rw [hkn]
      have hrb := run_bd (flat ps) hby
      have HS : Hid (sumOf (flat ps) = 65535 - cs (run (flat ps)).1) := rfl
      obtain ⟨t, ht⟩ : ∃ t, t = (run (flat ps)).1 := ⟨_, rfl⟩
      rw [← ht] at hrb HS ⊢
      have hcb := cs_bd t (by omega)
      have hge : ¬ (k : Int) < (N : Int) := by omega
      clear hkn ht hby hok hp
      go_wp2
      go_ret
      exact ⟨ret_int HS.out.symm, rfl⟩

set_option maxHeartbeats 400000 in
theorem sum_nil (a : Option Addr) (cap : Nat) (w : World) : Calls Tryd.prog 21 #[.slice a 0 cap] w fun e w' => e = .returned (.int .u16 (sumOf [])) ∧ w' = w := by
  have HS : Hid (sumOf [] = 65535 - 0) := by unfold Hid; decide
  have HC : Hid (cs 0 = 0) := rfl
  go_enter Tryd.func21, Tryd.ntmps21
  go_wp2
  refine wp_loop_rounds 1 ?_
  rw [rounds_succ]
  go_wp2_with (go_at_call 31; refine (fold_any _ _ (by omega) (by omega)).mono ?_; rintro e w' ⟨rfl, rfl⟩; rw [HC.out])
  go_ret
  exact ⟨ret_int HS.out.symm, rfl⟩
end Go.Proofs.YtakjcjddbgapiaaDoor
