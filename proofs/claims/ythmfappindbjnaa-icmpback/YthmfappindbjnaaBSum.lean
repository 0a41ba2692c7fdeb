/-
  The contracts of octet.Sum and slipwayref01.Sum, SumOf: the internet's sum of any parts. For every seat.
-/
import Derived.Test.YthmfappindbjnaaBFold
namespace Go.Proofs.Ythmfappindbjnaa
open Go.RowKit
set_option linter.all false

def step (s : Int × Bool) (z : Int) : Int × Bool := (s.1 + (if s.2 then z * 256 else z), !s.2)
def run (l : List Int) : Int × Bool := l.foldl step (0, true)
def flat (ps : List Part) : List Int := ps.flatMap (·.zs)
def sumOf (l : List Int) : Int := 65535 - cs (run l).1

theorem run_snoc (l : List Int) (z : Int) : run (l ++ [z]) = step (run l) z := by simp [run, List.foldl_append]
theorem foldl_bd : ∀ (l : List Int) (s : Int × Bool), (∀ z, z ∈ l → 0 ≤ z ∧ z ≤ 255) → 0 ≤ s.1 → 0 ≤ (l.foldl step s).1 ∧ (l.foldl step s).1 ≤ s.1 + 65280 * l.length
  | [], s, _, h => by simp [h]
  | z :: l, s, hz, h => by
    have h1 := hz z (by simp)
    have h2 : 0 ≤ (step s z).1 ∧ (step s z).1 ≤ s.1 + 65280 := by unfold step; split <;> simp <;> omega
    have h3 := foldl_bd l (step s z) (fun y hy => hz y (by simp [hy])) h2.1
    simp only [List.foldl_cons, List.length_cons]
    omega
theorem run_bd (l : List Int) (hz : ∀ z, z ∈ l → 0 ≤ z ∧ z ≤ 255) : 0 ≤ (run l).1 ∧ (run l).1 ≤ 65280 * l.length := by
  have := foldl_bd l (0, true) hz (by simp)
  simpa [run] using this
theorem flat_take (ps : List Part) (i : Nat) (h : i < ps.length) : flat (ps.take (i + 1)) = flat (ps.take i) ++ (ps.getD i Part.nil).zs := by
  unfold flat
  rw [List.take_succ_eq_append_getElem h, List.flatMap_append]
  simp [List.getD_eq_getElem?_getD, h]
theorem flat_bytes (w : World) (ps : List Part) (hok : ∀ p, p ∈ ps → p.ok w) : ∀ z, z ∈ flat ps → 0 ≤ z ∧ z ≤ 255 := by
  intro z hz
  obtain ⟨p, hp, hz⟩ := List.mem_flatMap.1 hz
  exact (hok p hp).1 z hz
theorem flat_take_mem (ps : List Part) (i : Nat) (z : Int) (h : z ∈ flat (ps.take i)) : z ∈ flat ps := by
  obtain ⟨p, hp, hz⟩ := List.mem_flatMap.1 h
  exact List.mem_flatMap.2 ⟨p, List.mem_of_mem_take hp, hz⟩
theorem flat_len (ps : List Part) (i : Nat) (h : i < ps.length) : (flat (ps.take i)).length + (ps.getD i Part.nil).zs.length ≤ (flat ps).length := by
  have e : flat ps = flat (ps.take (i + 1)) ++ flat (ps.drop (i + 1)) := by unfold flat; rw [← List.flatMap_append, List.take_append_drop]
  rw [e, flat_take ps i h]; simp
theorem take_snoc (zs : List Int) (k : Nat) (h : k < zs.length) : zs.take (k + 1) = zs.take k ++ [zs.getD k 0] := by
  rw [List.take_succ_eq_append_getElem h]; simp [List.getD_eq_getElem?_getD, h]

set_option maxHeartbeats 1000000 in
theorem sum_any (b off cap : Nat) (ps : List Part) (w : World) (hp : ∀ i, i < ps.length → w.cell? ⟨b, off + i, none⟩ = some (ps.getD i Part.nil).val)
    (hok : ∀ p, p ∈ ps → p.ok w) (hl : (flat ps).length ≤ 140737488355328) (hn : ps.length ≤ 140737488355328) :
    Calls Try.prog 34 #[.slice (some ⟨b, off, none⟩) ps.length cap] w fun e w' => e = .returned (.int .u16 (sumOf (flat ps))) ∧ w' = w := by
  have hby := flat_bytes w ps hok
  obtain ⟨N, hN⟩ : ∃ N, N = ps.length := ⟨_, rfl⟩
  have HN : Hid (N = ps.length) := hN
  rw [← hN] at hn ⊢
  clear hN
  go_enter Try.func34, Try.ntmps34
  go_wp2
  go_loop [3, 4, 11] (fun t h i => ∃ k : Nat, k ≤ N ∧ i = .int .i64 k ∧ t = .int .u64 (run (flat (ps.take k))).1 ∧ h = .bool (run (flat (ps.take k))).2) (fun _ _ i => N - (intOf i).toNat)
  case atStart => exact ⟨0, Nat.zero_le _, rfl, rfl, rfl⟩
  case round =>
    obtain ⟨k, hk, rfl, rfl, rfl⟩ := hrel
    by_cases hlt : k < N
    · have hkp : k < ps.length := by rw [← HN.out]; exact hlt
      obtain ⟨p, hp0⟩ : ∃ p, p = ps.getD k Part.nil := ⟨_, rfl⟩
      have hcell := hp k hkp
      have hpk : p ∈ ps := by rw [hp0, List.getD_eq_getElem?_getD, List.getElem?_eq_getElem hkp]; exact List.getElem_mem hkp
      have hft := flat_take ps k hkp
      have hfl := flat_len ps k hkp
      rw [← hp0] at hcell hft hfl
      have hpre : ∀ z, z ∈ flat (ps.take k) → 0 ≤ z ∧ z ≤ 255 := fun z hz => hby z (flat_take_mem ps k z hz)
      obtain ⟨hpz, _, hpc⟩ := hok p hpk
      obtain ⟨F, hF⟩ : ∃ F, F = flat (ps.take k) := ⟨_, rfl⟩
      rw [← hF] at hft hfl hpre ⊢
      have HFT : Hid (flat (ps.take (k + 1)) = F ++ p.zs) := hft
      clear hft hF hkp hpk hp0 hok hp hby
      have hrb := run_bd F hpre
      obtain ⟨pa, pc, zs⟩ := p
      unfold Part.val at hcell
      simp only at hcell hpz hpc HFT hfl
      rcases hpc with hemp | ⟨pb, po, hpa, hpcell⟩
      · subst hemp
        have HF2 : Hid (flat (ps.take (k + 1)) = F) := by have := HFT.out; unfold Hid; simpa using this
        clear HFT
        simp only [List.length_nil] at hcell
        go_wp2
        refine wp_loop_rounds 1 ?_
        rw [rounds_succ]
        go_wp2
        go_round
        case rel => exact ⟨k + 1, by omega, by go_num, by rw [HF2.out], by rw [HF2.out]⟩
        case measure => simp [intOf]; omega
      · subst hpa
        obtain ⟨n, hn0⟩ : ∃ n, n = zs.length := ⟨_, rfl⟩
        have HZ : Hid (n = zs.length) := hn0
        rw [← hn0] at hcell hfl
        have hpcell' : ∀ j, j < n → w.cell? ⟨pb, po + j, none⟩ = some (.int .u8 (zs.getD j 0)) := fun j hj => hpcell j (by rw [← hn0]; exact hj)
        have hzb : ∀ j, j < n → 0 ≤ zs.getD j 0 ∧ zs.getD j 0 ≤ 255 := fun j hj => hpz _ (by rw [List.getD_eq_getElem?_getD, List.getElem?_eq_getElem (by rw [← hn0]; exact hj)]; exact List.getElem_mem _)
        have hrun : ∀ j, j ≤ n → 0 ≤ (run (F ++ zs.take j)).1 ∧ (run (F ++ zs.take j)).1 ≤ 9187343239835811840 := fun j hj => by
          have := run_bd (F ++ zs.take j) (fun z hz => by
            rcases List.mem_append.1 hz with h | h
            · exact hpre z h
            · exact hpz z (List.mem_of_mem_take h))
          have h2 : (F ++ zs.take j).length ≤ F.length + n := by simp [List.length_take]; omega
          omega
        clear hpcell hn0 hpre hpz
        go_wp2
        go_loop [3, 4, 17] (fun t h i => ∃ j : Nat, j ≤ n ∧ i = .int .i64 j ∧ t = .int .u64 (run (F ++ zs.take j)).1 ∧ h = .bool (run (F ++ zs.take j)).2) (fun _ _ i => n - (intOf i).toNat)
        case atStart => exact ⟨0, Nat.zero_le _, rfl, by simp, by simp⟩
        case round =>
          obtain ⟨j, hj, rfl, rfl, rfl⟩ := hrel
          have hr := hrun j hj
          by_cases hjl : j < n
          · have hc := hpcell' j hjl
            have hz := hzb j hjl
            have hr2 := hrun (j + 1) hjl
            have hsn : run (F ++ zs.take (j + 1)) = step (run (F ++ zs.take j)) (zs.getD j 0) := by
              rw [take_snoc zs j (by rw [← HZ.out]; exact hjl), ← List.append_assoc, run_snoc]
            obtain ⟨⟨t, h⟩, ht⟩ : ∃ s, s = run (F ++ zs.take j) := ⟨_, rfl⟩
            rw [← ht] at hr hsn ⊢
            obtain ⟨z, hz0⟩ : ∃ z, z = zs.getD j 0 := ⟨_, rfl⟩
            rw [← hz0] at hc hz hsn
            have HS : Hid (run (F ++ zs.take (j + 1)) = step (t, h) z) := hsn
            rw [hsn] at hr2
            clear hsn ht hz0 hpcell' hzb hrun
            simp only at hr
            cases h <;> simp [step] at hr2
            all_goals
              go_wp2
              go_round
              case rel => exact ⟨j + 1, by omega, by go_num, by rw [HS.out]; simp [step], by rw [HS.out]; rfl⟩
              case measure => simp [intOf]; omega
          · have hjn : j = n := by omega
            have HT : Hid (F ++ zs.take j = flat (ps.take (k + 1))) := by
              unfold Hid
              rw [HFT.out, List.take_of_length_le (by rw [← HZ.out]; omega)]
            clear hjn
            go_wp2
            go_round
            case rel => exact ⟨k + 1, by omega, by go_num, by rw [HT.out], by rw [HT.out]⟩
            case measure => simp [intOf]; omega
    · have hkn : ps.take k = ps := List.take_of_length_le (by rw [← HN.out]; omega)
      rw [hkn]
      have hrb := run_bd (flat ps) hby
      have HS : Hid (sumOf (flat ps) = 65535 - cs (run (flat ps)).1) := rfl
      obtain ⟨t, ht⟩ : ∃ t, t = (run (flat ps)).1 := ⟨_, rfl⟩
      rw [← ht] at hrb HS ⊢
      have hcb := cs_bd t (by omega)
      clear hkn ht hby hok hp
      go_wp2_with (go_at_call 38; refine (fold_any _ _ (by omega) (by omega)).mono ?_; rintro e w' ⟨rfl, rfl⟩)
      go_ret
      exact ⟨ret_int HS.out.symm, rfl⟩
/-- where parts lie. -/
def PartsAt (w : World) (a : Option Addr) (ps : List Part) : Prop :=
  (∀ i, i < ps.length → ∃ b off, a = some ⟨b, off, none⟩ ∧ w.cell? ⟨b, off + i, none⟩ = some (ps.getD i Part.nil).val) ∧ ∀ p, p ∈ ps → p.ok w

theorem cs_add (a b : Int) (h0 : 0 ≤ a) (h1 : 0 ≤ b) : cs (cs a + b) = cs (a + b) := by
  unfold cs
  by_cases ha : a = 0
  · rw [if_pos ha, ha]
  · rw [if_neg ha, if_neg (show ¬ (a - 1) % 65535 + 1 + b = 0 by omega), if_neg (show ¬ a + b = 0 by omega)]
    omega

set_option maxHeartbeats 1000000 in
theorem refSum_any (a : Option Addr) (cap : Nat) (ps : List Part) (w : World) (hpa : PartsAt w a ps) (hl : (flat ps).length ≤ 140737488355328) (hn : ps.length ≤ 140737488355328) :
    Calls Try.prog 39 #[.slice a ps.length cap] w fun e w' => e = .returned (.int .u16 (sumOf (flat ps))) ∧ w' = w := by
  obtain ⟨hp, hok⟩ := hpa
  have hby := flat_bytes w ps hok
  obtain ⟨N, hN⟩ : ∃ N, N = ps.length := ⟨_, rfl⟩
  have HN : Hid (N = ps.length) := hN
  rw [← hN] at hn ⊢
  clear hN
  go_enter Try.func39, Try.ntmps39
  go_wp2
  go_loop [3, 4, 5] (fun t h i => ∃ k : Nat, k ≤ N ∧ i = .int .i64 k ∧ t = .int .u64 (cs (run (flat (ps.take k))).1) ∧ h = .bool (run (flat (ps.take k))).2) (fun _ _ i => N - (intOf i).toNat)
  case atStart => exact ⟨0, Nat.zero_le _, rfl, rfl, rfl⟩
  case round =>
    obtain ⟨k, hk, rfl, rfl, rfl⟩ := hrel
    by_cases hlt : k < N
    · have hkp : k < ps.length := by rw [← HN.out]; exact hlt
      obtain ⟨p, hp0⟩ : ∃ p, p = ps.getD k Part.nil := ⟨_, rfl⟩
      obtain ⟨b, off, hab, hcell⟩ := hp k hkp
      subst hab
      have hpk : p ∈ ps := by rw [hp0, List.getD_eq_getElem?_getD, List.getElem?_eq_getElem hkp]; exact List.getElem_mem hkp
      have hft := flat_take ps k hkp
      have hfl := flat_len ps k hkp
      rw [← hp0] at hcell hft hfl
      have hpre : ∀ z, z ∈ flat (ps.take k) → 0 ≤ z ∧ z ≤ 255 := fun z hz => hby z (flat_take_mem ps k z hz)
      obtain ⟨hpz, _, hpc⟩ := hok p hpk
      obtain ⟨F, hF⟩ : ∃ F, F = flat (ps.take k) := ⟨_, rfl⟩
      rw [← hF] at hft hfl hpre ⊢
      have HFT : Hid (flat (ps.take (k + 1)) = F ++ p.zs) := hft
      clear hft hF hkp hpk hp0 hok hp hby
      have hrb := run_bd F hpre
      obtain ⟨pa, pc, zs⟩ := p
      unfold Part.val at hcell
      simp only at hcell hpz hpc HFT hfl
      have hlt2 : (k : Int) < (N : Int) := by omega
      rcases hpc with hemp | ⟨pb, po, hpa, hpcell⟩
      · subst hemp
        have HF2 : Hid (flat (ps.take (k + 1)) = F) := by have := HFT.out; unfold Hid; simpa using this
        clear HFT
        simp only [List.length_nil] at hcell
        go_wp2
        refine wp_loop_rounds 1 ?_
        rw [rounds_succ]
        go_wp2
        go_round
        case rel => exact ⟨k + 1, by omega, by go_num, by rw [HF2.out], by rw [HF2.out]⟩
        case measure => simp [intOf]; omega
      · subst hpa
        obtain ⟨n, hn0⟩ : ∃ n, n = zs.length := ⟨_, rfl⟩
        have HZ : Hid (n = zs.length) := hn0
        rw [← hn0] at hcell hfl
        have hpcell' : ∀ j, j < n → w.cell? ⟨pb, po + j, none⟩ = some (.int .u8 (zs.getD j 0)) := fun j hj => hpcell j (by rw [← hn0]; exact hj)
        have hzb : ∀ j, j < n → 0 ≤ zs.getD j 0 ∧ zs.getD j 0 ≤ 255 := fun j hj => hpz _ (by rw [List.getD_eq_getElem?_getD, List.getElem?_eq_getElem (by rw [← hn0]; exact hj)]; exact List.getElem_mem _)
        have hrun : ∀ j, j ≤ n → 0 ≤ (run (F ++ zs.take j)).1 := fun j hj => by
          exact (run_bd (F ++ zs.take j) (fun z hz => by
            rcases List.mem_append.1 hz with h | h
            · exact hpre z h
            · exact hpz z (List.mem_of_mem_take h))).1
        clear hpcell hn0 hpre hpz
        go_wp2
        go_loop [3, 4, 6] (fun t h i => ∃ j : Nat, j ≤ n ∧ i = .int .i64 j ∧ t = .int .u64 (cs (run (F ++ zs.take j)).1) ∧ h = .bool (run (F ++ zs.take j)).2) (fun _ _ i => n - (intOf i).toNat)
        case atStart => exact ⟨0, Nat.zero_le _, rfl, by simp, by simp⟩
        case round =>
          obtain ⟨j, hj, rfl, rfl, rfl⟩ := hrel
          have hr := hrun j hj
          by_cases hjl : j < n
          · have hc := hpcell' j hjl
            have hz := hzb j hjl
            have hsn : run (F ++ zs.take (j + 1)) = step (run (F ++ zs.take j)) (zs.getD j 0) := by
              rw [take_snoc zs j (by rw [← HZ.out]; exact hjl), ← List.append_assoc, run_snoc]
            obtain ⟨⟨t, h⟩, ht⟩ : ∃ s, s = run (F ++ zs.take j) := ⟨_, rfl⟩
            rw [← ht] at hr hsn ⊢
            obtain ⟨z, hz0⟩ : ∃ z, z = zs.getD j 0 := ⟨_, rfl⟩
            rw [← hz0] at hc hz hsn
            have HS : Hid (run (F ++ zs.take (j + 1)) = step (t, h) z) := hsn
            clear hsn ht hz0 hpcell' hzb hrun
            simp only at hr
            have hcb := cs_bd t hr
            have hjl2 : (j : Int) < (n : Int) := by omega
            cases h
            · have HA : Hid (cs (cs t + z) = cs (t + z)) := cs_add t z hr hz.1
              have HT : Hid (step (t, false) z = (t + z, true)) := by unfold Hid step; simp
              generalize hct : cs t = ct at *
              clear hct
              go_wp2_with (go_at_call 40; refine (folded_any _ _ (by omega) (by omega)).mono ?_; rintro e w' ⟨rfl, rfl⟩)
              go_round
              case rel => exact ⟨j + 1, by omega, by go_num, by rw [HS.out, HT.out, HA.out], by rw [HS.out, HT.out]⟩
              case measure => simp [intOf]; omega
            · have HA : Hid (cs (cs t + 256 * z) = cs (t + z * 256)) := by unfold Hid; rw [cs_add t (256 * z) hr (by omega), Int.mul_comm]
              have HT : Hid (step (t, true) z = (t + z * 256, false)) := by unfold Hid step; simp
              generalize hct : cs t = ct at *
              clear hct
              go_wp2_with (go_at_call 40; refine (folded_any _ _ (by omega) (by omega)).mono ?_; rintro e w' ⟨rfl, rfl⟩)
              go_round
              case rel => exact ⟨j + 1, by omega, by go_num, by rw [HS.out, HT.out, HA.out], by rw [HS.out, HT.out]⟩
              case measure => simp [intOf]; omega
          · have hjn : j = n := by omega
            have HT : Hid (F ++ zs.take j = flat (ps.take (k + 1))) := by
              unfold Hid
              rw [HFT.out, List.take_of_length_le (by rw [← HZ.out]; omega)]
            have hge : ¬ (j : Int) < (n : Int) := by omega
            clear hjn
            go_wp2
            go_round
            case rel => exact ⟨k + 1, by omega, by go_num, by rw [HT.out], by rw [HT.out]⟩
            case measure => simp [intOf]; omega
    · have hkn : ps.take k = ps := List.take_of_length_le (by rw [← HN.out]; omega)
      rw [hkn]
      have hrb := run_bd (flat ps) hby
      have HS : Hid (sumOf (flat ps) = 65535 - cs (run (flat ps)).1) := rfl
      obtain ⟨t, ht⟩ : ∃ t, t = (run (flat ps)).1 := ⟨_, rfl⟩
      rw [← ht] at hrb HS ⊢
      have hcb := cs_bd t (by omega)
      have hge : ¬ (k : Int) < (N : Int) := by omega
      clear hkn ht hby hok hp
      go_wp2
      go_ret
      exact ⟨ret_int HS.out.symm, rfl⟩

/-- of one part. -/
theorem sum_one (g : Nat) (pt : Part) (w : World) (hg : w.cell? ⟨g, 0, none⟩ = some pt.val) (hok : pt.ok w) (hl : pt.zs.length ≤ 140737488355328) :
    Calls Try.prog 34 #[.slice (some ⟨g, 0, none⟩) 1 1] w fun e w' => e = .returned (.int .u16 (sumOf pt.zs)) ∧ w' = w := by
  have h := sum_any g 0 1 [pt] w (fun i hi => by simp only [List.length_cons, List.length_nil] at hi; obtain rfl : i = 0 := (by omega); exact hg) (fun p hp => by simp only [List.mem_singleton] at hp; subst hp; exact hok) (by simpa [flat] using hl) (by simp)
  have e : flat [pt] = pt.zs := by simp [flat]
  rw [e] at h
  exact h
set_option maxHeartbeats 400000 in
theorem refSumOf_any (pt : Part) (w : World) (hok : pt.ok w) (hl : pt.zs.length ≤ 140737488355328) :
    Calls Try.prog 36 #[pt.val] w fun e w' => e = .returned (.int .u16 (sumOf pt.zs)) ∧ Below w.heap.size w w' := by
  have HS : Hid (∀ (w' : World) (g : Nat), Below w.heap.size w w' → w'.cell? ⟨g, 0, none⟩ = some pt.val → Calls Try.prog 39 #[.slice (some ⟨g, 0, none⟩) 1 1] w' fun e w'' => e = .returned (.int .u16 (sumOf pt.zs)) ∧ w'' = w') := fun w' g hb hg => by
    have h := refSum_any (some ⟨g, 0, none⟩) 1 [pt] w' ⟨fun i hi => by simp only [List.length_cons, List.length_nil] at hi; obtain rfl : i = 0 := (by omega); exact ⟨g, 0, rfl, hg⟩, fun p hp => by simp only [List.mem_singleton] at hp; subst hp; exact Part.ok_below hok hb⟩ (by simpa [flat] using hl) (by simp)
    have e : flat [pt] = pt.zs := by simp [flat]
    rw [e] at h
    exact h
  generalize sumOf pt.zs = S at *
  clear hok hl
  unfold Part.val at *
  generalize pt.zs.length = l at *
  go_enter Try.func36, Try.ntmps36
  go_wp2_with fail
  refine (HS.out _ w.heap.size (bpush (Below.refl _ _) _) (by simp [go_sem])).mono ?_
  rintro e w1 ⟨rfl, hw⟩
  subst w1
  go_wp2
  go_ret
  exact ⟨rfl, bpush (Below.refl _ _) _⟩
end Go.Proofs.Ythmfappindbjnaa
