/-
  The walk of the statement OctetJoined.
-/
import Derived.Test.YtakjcjddbgapiaaDoorJoinC
namespace Go.Proofs.YtakjcjddbgapiaaDoor
open Go.RowKit
set_option linter.unusedVariables false

/-- a piece of a slice. -/
def piece (bb o c A n : Nat) (zs : List Int) : Part := ⟨some ⟨bb, o + A, none⟩, c - A, (zs.drop A).take n⟩
theorem piece_len {bb o c A n : Nat} {zs : List Int} (h : A + n ≤ zs.length) : (piece bb o c A n zs).zs.length = n := by simp [piece]; omega
theorem piece_ok {w : World} {bb o c A n : Nat} {zs : List Int} (hz : ∀ z, z ∈ zs → 0 ≤ z ∧ z ≤ 255) (hc : ∀ j, j < zs.length → w.cell? ⟨bb, o + j, none⟩ = some (.int .u8 (zs.getD j 0))) (h : A + n ≤ zs.length) : (piece bb o c A n zs).ok w := by
  refine ⟨fun z hz' => hz z (List.mem_of_mem_drop (List.mem_of_mem_take hz')), Or.inr ⟨bb, o + A, rfl, fun j hj => ?_⟩⟩
  have hj' : j < n := by rw [piece_len h] at hj; exact hj
  rw [Nat.add_assoc, hc (A + j) (by omega)]
  simp [piece, List.getD_eq_getElem?_getD, hj']
theorem piece_flat {bb o c A n : Nat} {zs : List Int} {qs : List Part} (hf : flat qs = zs.take A) : flat (qs ++ [piece bb o c A n zs]) = zs.take (A + n) := by
  rw [flat_snoc, hf, List.take_add]
  rfl

/-- the first k cuts are made. -/
structure CutTo (w0 wr : World) (v : Value) (pt : Part) (A k : Nat) (qs : List Part) : Prop where
  len : qs.length = k
  at' : A ≤ pt.zs.length
  fl : flat qs = pt.zs.take A
  ok : ∀ q, q ∈ qs → q.ok w0
  row : RowOf w0 wr v qs

set_option maxHeartbeats 1000000 in
theorem octetJoined_walk (pt : Part) (a : Option Addr) (c : Nat) (cz : List Int) (w : World) (ht : Pow10 w) (hok : pt.ok w) (hl : pt.zs.length ≤ 1048576) (hcap : pt.zs.length ≤ pt.c) (hcl : cz.length ≤ 1048576)
    (hcz : ∀ i, i < cz.length → (∃ b o, a = some ⟨b, o, none⟩ ∧ w.cell? ⟨b, o + i, none⟩ = some (.int .i64 (cz.getD i 0))) ∧ -9223372036854775808 ≤ cz.getD i 0 ∧ cz.getD i 0 ≤ 9223372036854775807) :
    Calls Tryd.prog 8 #[pt.val, .slice a cz.length c] w fun e w' => e = .returned (.bool true) ∧ Below w.heap.size w w' := by
  have HT : Hid (Pow10 w) := ht
  have HOK : Hid (∀ w', Below w.heap.size w w' → pt.ok w') := fun w' hb => Part.ok_below hok hb
  have HCZ : Hid (∀ w', Below w.heap.size w w' → ∀ i, i < cz.length → (∃ b o, a = some ⟨b, o, none⟩ ∧ w'.cell? ⟨b, o + i, none⟩ = some (.int .i64 (cz.getD i 0))) ∧ -9223372036854775808 ≤ cz.getD i 0 ∧ cz.getD i 0 ≤ 9223372036854775807) := fun w' hb i hi => by
    obtain ⟨⟨b, o, ha, hc⟩, hbd⟩ := hcz i hi
    exact ⟨⟨b, o, ha, by rw [hb.cell (p := ⟨b, o + i, none⟩) (World.block_lt_of_cell? w _ hc)]; exact hc⟩, hbd⟩
  have HV : Hid (pt.val = .slice pt.a pt.zs.length pt.c) := rfl
  obtain ⟨L, hL⟩ : ∃ L, L = pt.zs.length := ⟨_, rfl⟩
  obtain ⟨N, hN⟩ : ∃ N, N = cz.length := ⟨_, rfl⟩
  have HL : Hid (L = pt.zs.length) := hL
  have HN : Hid (N = cz.length) := hN
  rw [HV.out]
  rw [← hL] at hl hcap ⊢
  rw [← hN] at hcl ⊢
  clear hL hN ht hok hcz
  go_enter Tryd.func8, Tryd.ntmps8
  go_wp2_with fail
  refine (live_any _ HT.out).mono ?_
  rintro e w2 ⟨rfl, hb2⟩
  have HB2 : Hid (Below w.heap.size w w2) := hb2
  have hz2 : w.heap.size ≤ w2.heap.size := hb2.size
  clear hb2
  go_wp2
  go_loopw [6, 7, 8] (fun v t i wr => ∃ (k A : Nat) (qs : List Part) (v0 : Value), k ≤ N ∧ i = .int .i64 k ∧ t = .int .i64 A ∧ v0 = v ∧ CutTo w2 wr v0 pt A k qs) (fun _ _ i _ => N - (intOf i).toNat)
  case atStart => exact ⟨0, 0, [], _, Nat.zero_le _, rfl, rfl, rfl, rfl, Nat.zero_le _, rfl, by simp, RowOf.start w2⟩
  case round =>
    obtain ⟨k, A, qs, v0, hk, rfl, rfl, rfl, hcut⟩ := hrel
    have HC : Hid (CutTo w2 wr v0 pt A k qs) := hcut
    have hAL : A ≤ L := by rw [HL.out]; exact hcut.at'
    have HBR : Hid (Below w.heap.size w wr) := HB2.out.trans (hcut.row.below.mono hz2)
    clear hcut
    by_cases hgo : k < N ∧ A < L
    · obtain ⟨hkN, hALt⟩ := hgo
      have d1 : (k : Int) < (N : Int) := by omega
      have d2 : (A : Int) < (L : Int) := by omega
      obtain ⟨⟨b, o, hab, hcell⟩, hbd⟩ := HCZ.out _ HBR.out k (by rw [← HN.out]; exact hkN)
      have hokw := HOK.out _ HBR.out
      obtain ⟨bb, oo, hpa, hpc⟩ : ∃ b o, pt.a = some ⟨b, o, none⟩ ∧ ∀ j, j < pt.zs.length → wr.cell? ⟨b, o + j, none⟩ = some (.int .u8 (pt.zs.getD j 0)) := by
        rcases hokw.2 with h | h
        · rw [h] at HL; have := HL.out; simp at this; omega
        · exact h
      generalize cz.getD k 0 = z at *
      subst hab
      rw [hpa]
      have HPZ : Hid (∀ z, z ∈ pt.zs → 0 ≤ z ∧ z ≤ 255) := hokw.1
      have HNEXT : Hid (∀ n : Nat, A + n ≤ L → ∃ v' w', (Builtin.append_ #[31, 31] 31 #[v0, .slice (some ⟨wr.heap.size, 0, none⟩) 1 1]).run Tryd.prog (wr.alloc (.cells #[.slice (some ⟨bb, oo + A, none⟩) n (pt.c - A)] 28)) = .ok v' w' ∧ CutTo w2 w' v' pt (A + n) (k + 1) (qs ++ [piece bb oo pt.c A n pt.zs])) := fun n hn => by
        have hn' : A + n ≤ pt.zs.length := by rw [← HL.out]; exact hn
        obtain ⟨v', w', h1, h2⟩ := HC.out.row.next (piece bb oo pt.c A n pt.zs) (by rw [HC.out.len]; omega) 31
        have e : (piece bb oo pt.c A n pt.zs).val = .slice (some ⟨bb, oo + A, none⟩) n (pt.c - A) := by
          unfold Part.val; rw [piece_len hn']; rfl
        rw [e] at h1
        refine ⟨v', w', h1, ⟨by rw [List.length_append, HC.out.len]; rfl, hn', piece_flat HC.out.fl, fun q hq => ?_, h2⟩⟩
        rcases List.mem_append.1 hq with h | h
        · exact HC.out.ok q h
        · simp at h
          subst h
          obtain ⟨b', o', e1, e2⟩ : ∃ b o, pt.a = some ⟨b, o, none⟩ ∧ ∀ j, j < pt.zs.length → w2.cell? ⟨b, o + j, none⟩ = some (.int .u8 (pt.zs.getD j 0)) := by
            rcases (HOK.out _ HB2.out).2 with h | h
            · rw [h] at hn'; simp at hn'; have := HL.out; rw [h] at this; simp at this; omega
            · exact h
          rw [hpa] at e1
          simp only [Option.some.injEq, Addr.mk.injEq] at e1
          obtain ⟨rfl, rfl, -⟩ := e1
          exact piece_ok HPZ.out e2 hn'
      clear hokw hpc
      by_cases hz : 0 < z
      · obtain ⟨n, hmn⟩ : ∃ n : Nat, min z ((L : Int) - (A : Int)) = (n : Int) := Int.eq_ofNat_of_zero_le (by omega)
        have hnL : A + n ≤ L := by omega
        obtain ⟨v', w', hrun, hcut'⟩ := HNEXT.out n hnL
        have HRUN : Hid _ := hrun
        have HCUT : Hid (CutTo w2 w' v' pt (A + n) (k + 1) _) := hcut'
        clear hrun hcut' HNEXT
        go_wp2_with (first
          | (at_builtin; refine wpList_append_run _ rfl (.tmp 38) (.tmp 45) 31 31 rfl _ _ rfl rfl HRUN.out ?_))
        go_roundw
        case rel => exact ⟨k + 1, A + n, _, _, by omega, by go_num, by go_num, rfl, HCUT.out⟩
        case measure => simp [intOf]; omega
      · obtain ⟨v', w', hrun, hcut'⟩ := HNEXT.out 0 (by omega)
        have HRUN : Hid _ := hrun
        have HCUT : Hid (CutTo w2 w' v' pt (A + 0) (k + 1) _) := hcut'
        clear hrun hcut' HNEXT
        go_wp2_with (first
          | (at_builtin; refine wpList_append_run _ rfl (.tmp 38) (.tmp 45) 31 31 rfl _ _ rfl rfl HRUN.out ?_))
        go_roundw
        case rel => exact ⟨k + 1, A + 0, _, _, by omega, by go_num, by go_num, rfl, HCUT.out⟩
        case measure => simp [intOf]; omega
    · have HEND : Hid (∀ q : Part, q.ok w2 → q.zs = pt.zs.drop A → ∃ v' w', (Builtin.append_ #[31, 31] 31 #[v0, .slice (some ⟨wr.heap.size, 0, none⟩) 1 1]).run Tryd.prog (wr.alloc (.cells #[q.val] 28)) = .ok v' w' ∧
          Below w.heap.size w w' ∧ Calls Tryd.prog 21 #[v'] w' fun e wx => e = .returned (.int .u16 (sumOf pt.zs)) ∧ wx = w') := fun q hq hqz => by
        obtain ⟨v', w', h1, h2⟩ := HC.out.row.next q (by rw [HC.out.len]; omega) 31
        have ef : flat (qs ++ [q]) = pt.zs := by rw [flat_snoc, HC.out.fl, hqz, List.take_append_drop]
        have hs := h2.sum (fun r hr => by
          rcases List.mem_append.1 hr with h | h
          · exact Part.ok_below (HC.out.ok r h) h2.below
          · simp at h
            subst h
            exact Part.ok_below hq h2.below) (by rw [ef, ← HL.out]; omega) (by rw [List.length_append, HC.out.len]; simp; omega)
        rw [ef] at hs
        exact ⟨v', w', h1, HB2.out.trans (h2.below.mono hz2), hs⟩
      have hokw := HOK.out _ HB2.out
      -- what b[A:] is
      have fin : ∀ (q : Part), q.ok w2 → q.zs = pt.zs.drop A → ∃ v' w', (Builtin.append_ #[31, 31] 31 #[v0, .slice (some ⟨wr.heap.size, 0, none⟩) 1 1]).run Tryd.prog (wr.alloc (.cells #[q.val] 28)) = .ok v' w' ∧
          Hid (Calls Tryd.prog 21 #[v'] w' fun e wx => e = .returned (.int .u16 (sumOf pt.zs)) ∧ wx = w') ∧ Hid (Below w.heap.size w w') ∧ w.heap.size ≤ w'.heap.size := fun q h1 h2 => by
        obtain ⟨v', w', r1, r2, r3⟩ := HEND.out q h1 h2
        exact ⟨v', w', r1, r3, r2, r2.size⟩
      clear HEND
      by_cases hemp : pt.zs = []
      · have hL0 : L = 0 := by rw [HL.out, hemp]; rfl
        have hA0 : A = 0 := by omega
        obtain ⟨v', w', hrun, HSUM, HB', hz'⟩ := fin ⟨pt.a, pt.c, []⟩ ⟨by simp, Or.inl rfl⟩ (by rw [hemp]; simp)
        subst hL0 hA0
        have HVAL : Hid (pt.val = .slice pt.a 0 pt.c) := by unfold Hid Part.val; rw [hemp]; rfl
        unfold Part.val at hrun
        simp only [List.length_nil] at hrun
        rcases hpa : pt.a with _ | x
        · rw [hpa] at hrun HVAL
          have HRUN : Hid _ := hrun
          clear hrun hokw fin hemp hpa
          by_cases hkN : k < N
          · have d1 : (k : Int) < (N : Int) := by omega
            have d2 : ¬ ((0 : Nat) : Int) < ((0 : Nat) : Int) := by omega
            clear hgo
            go_wp2_with (first
              | (at_builtin; refine wpList_append_run _ rfl (.tmp 50) (.tmp 54) 31 31 rfl _ _ rfl rfl HRUN.out ?_))
            refine HSUM.out.mono ?_
            rintro e wx ⟨rfl, rfl⟩
            go_wp2_with fail
            refine (sum_one pt wx.heap.size _ (by rw [World.cell?_alloc_at _ _ _ _ rfl, HVAL.out]; rfl) (HOK.out _ (HB'.out.alloc hz' _)) (by have := HL.out; omega) 1).mono ?_
            rintro e wy ⟨rfl, hwy⟩
            have HBY : Hid (Below w.heap.size w wy) := by unfold Hid; rw [hwy]; exact HB'.out.alloc hz' _
            clear hwy
            generalize sumOf pt.zs = S
            go_wp2
            go_ret
            exact ⟨by simp, HBY.out⟩
          · have d1 : ¬ (k : Int) < (N : Int) := by omega
            clear hgo
            go_wp2_with (first
              | (at_builtin; refine wpList_append_run _ rfl (.tmp 50) (.tmp 54) 31 31 rfl _ _ rfl rfl HRUN.out ?_))
            refine HSUM.out.mono ?_
            rintro e wx ⟨rfl, rfl⟩
            go_wp2_with fail
            refine (sum_one pt wx.heap.size _ (by rw [World.cell?_alloc_at _ _ _ _ rfl, HVAL.out]; rfl) (HOK.out _ (HB'.out.alloc hz' _)) (by have := HL.out; omega) 1).mono ?_
            rintro e wy ⟨rfl, hwy⟩
            have HBY : Hid (Below w.heap.size w wy) := by unfold Hid; rw [hwy]; exact HB'.out.alloc hz' _
            clear hwy
            generalize sumOf pt.zs = S
            go_wp2
            go_ret
            exact ⟨by simp, HBY.out⟩
        · rw [hpa] at hrun HVAL
          by_cases hc0 : pt.c = 0
          · rw [hc0] at hrun HVAL ⊢
            have HRUN : Hid _ := hrun
            clear hrun hokw fin hemp hpa
            by_cases hkN : k < N
            · have d1 : (k : Int) < (N : Int) := by omega
              have d2 : ¬ ((0 : Nat) : Int) < ((0 : Nat) : Int) := by omega
              clear hgo
              go_wp2_with (first
                | (at_builtin; refine wpList_append_run _ rfl (.tmp 50) (.tmp 54) 31 31 rfl _ _ rfl rfl HRUN.out ?_))
              refine HSUM.out.mono ?_
              rintro e wx ⟨rfl, rfl⟩
              go_wp2_with fail
              refine (sum_one pt wx.heap.size _ (by rw [World.cell?_alloc_at _ _ _ _ rfl, HVAL.out]; rfl) (HOK.out _ (HB'.out.alloc hz' _)) (by have := HL.out; omega) 1).mono ?_
              rintro e wy ⟨rfl, hwy⟩
              have HBY : Hid (Below w.heap.size w wy) := by unfold Hid; rw [hwy]; exact HB'.out.alloc hz' _
              clear hwy
              generalize sumOf pt.zs = S
              go_wp2
              go_ret
              exact ⟨by simp, HBY.out⟩
            · have d1 : ¬ (k : Int) < (N : Int) := by omega
              clear hgo
              go_wp2_with (first
                | (at_builtin; refine wpList_append_run _ rfl (.tmp 50) (.tmp 54) 31 31 rfl _ _ rfl rfl HRUN.out ?_))
              refine HSUM.out.mono ?_
              rintro e wx ⟨rfl, rfl⟩
              go_wp2_with fail
              refine (sum_one pt wx.heap.size _ (by rw [World.cell?_alloc_at _ _ _ _ rfl, HVAL.out]; rfl) (HOK.out _ (HB'.out.alloc hz' _)) (by have := HL.out; omega) 1).mono ?_
              rintro e wy ⟨rfl, hwy⟩
              have HBY : Hid (Below w.heap.size w wy) := by unfold Hid; rw [hwy]; exact HB'.out.alloc hz' _
              clear hwy
              generalize sumOf pt.zs = S
              go_wp2
              go_ret
              exact ⟨by simp, HBY.out⟩
          · have HRUN : Hid _ := hrun
            clear hrun hokw fin hemp hpa
            by_cases hkN : k < N
            · have d1 : (k : Int) < (N : Int) := by omega
              have d2 : ¬ ((0 : Nat) : Int) < ((0 : Nat) : Int) := by omega
              clear hgo
              go_wp2_with (first
                | (at_builtin; refine wpList_append_run _ rfl (.tmp 50) (.tmp 54) 31 31 rfl _ _ rfl rfl HRUN.out ?_))
              refine HSUM.out.mono ?_
              rintro e wx ⟨rfl, rfl⟩
              go_wp2_with fail
              refine (sum_one pt wx.heap.size _ (by rw [World.cell?_alloc_at _ _ _ _ rfl, HVAL.out]; rfl) (HOK.out _ (HB'.out.alloc hz' _)) (by have := HL.out; omega) 1).mono ?_
              rintro e wy ⟨rfl, hwy⟩
              have HBY : Hid (Below w.heap.size w wy) := by unfold Hid; rw [hwy]; exact HB'.out.alloc hz' _
              clear hwy
              generalize sumOf pt.zs = S
              go_wp2
              go_ret
              exact ⟨by simp, HBY.out⟩
            · have d1 : ¬ (k : Int) < (N : Int) := by omega
              clear hgo
              go_wp2_with (first
                | (at_builtin; refine wpList_append_run _ rfl (.tmp 50) (.tmp 54) 31 31 rfl _ _ rfl rfl HRUN.out ?_))
              refine HSUM.out.mono ?_
              rintro e wx ⟨rfl, rfl⟩
              go_wp2_with fail
              refine (sum_one pt wx.heap.size _ (by rw [World.cell?_alloc_at _ _ _ _ rfl, HVAL.out]; rfl) (HOK.out _ (HB'.out.alloc hz' _)) (by have := HL.out; omega) 1).mono ?_
              rintro e wy ⟨rfl, hwy⟩
              have HBY : Hid (Below w.heap.size w wy) := by unfold Hid; rw [hwy]; exact HB'.out.alloc hz' _
              clear hwy
              generalize sumOf pt.zs = S
              go_wp2
              go_ret
              exact ⟨by simp, HBY.out⟩
      · obtain ⟨b, o, hpa, hpc⟩ := hokw.2.resolve_left hemp
        have HVAL : Hid (pt.val = .slice (some ⟨b, o, none⟩) L pt.c) := by unfold Hid Part.val; rw [hpa, HL.out]
        by_cases hroom : A < pt.c
        · have hAL' : A + (L - A) ≤ pt.zs.length := by rw [← HL.out]; omega
          have e : (piece b o pt.c A (L - A) pt.zs).val = .slice (some ⟨b, o + A, none⟩) (L - A) (pt.c - A) := by
            unfold Part.val; rw [piece_len hAL']; rfl
          obtain ⟨v', w', hrun, HSUM, HB', hz'⟩ := fin (piece b o pt.c A (L - A) pt.zs) (piece_ok hokw.1 hpc hAL') (by
            show (pt.zs.drop A).take (L - A) = _
            rw [List.take_of_length_le (by rw [List.length_drop, ← HL.out]; omega)])
          rw [e] at hrun
          have HRUN : Hid _ := hrun
          rw [hpa]
          have hroom2 : 0 < pt.c - A := by omega
          have hroom3 : ¬ pt.c - A = 0 := by omega
          have hroom4 : ¬ pt.c ≤ A := by omega
          clear hrun e hpc hokw fin hemp hAL' hpa
          by_cases hkN : k < N
          · have d1 : (k : Int) < (N : Int) := by omega
            have d2 : ¬ (A : Int) < (L : Int) := by omega
            clear hgo
            go_wp2_with (first
              | (at_builtin; refine wpList_append_run _ rfl (.tmp 50) (.tmp 54) 31 31 rfl _ _ rfl rfl HRUN.out ?_))
            refine HSUM.out.mono ?_
            rintro e wx ⟨rfl, rfl⟩
            go_wp2_with fail
            refine (sum_one pt wx.heap.size _ (by rw [World.cell?_alloc_at _ _ _ _ rfl, HVAL.out]; rfl) (HOK.out _ (HB'.out.alloc hz' _)) (by have := HL.out; omega) 1).mono ?_
            rintro e wy ⟨rfl, hwy⟩
            have HBY : Hid (Below w.heap.size w wy) := by unfold Hid; rw [hwy]; exact HB'.out.alloc hz' _
            clear hwy
            generalize sumOf pt.zs = S
            go_wp2
            go_ret
            exact ⟨by simp, HBY.out⟩
          · have d1 : ¬ (k : Int) < (N : Int) := by omega
            clear hgo
            go_wp2_with (first
              | (at_builtin; refine wpList_append_run _ rfl (.tmp 50) (.tmp 54) 31 31 rfl _ _ rfl rfl HRUN.out ?_))
            refine HSUM.out.mono ?_
            rintro e wx ⟨rfl, rfl⟩
            go_wp2_with fail
            refine (sum_one pt wx.heap.size _ (by rw [World.cell?_alloc_at _ _ _ _ rfl, HVAL.out]; rfl) (HOK.out _ (HB'.out.alloc hz' _)) (by have := HL.out; omega) 1).mono ?_
            rintro e wy ⟨rfl, hwy⟩
            have HBY : Hid (Below w.heap.size w wy) := by unfold Hid; rw [hwy]; exact HB'.out.alloc hz' _
            clear hwy
            generalize sumOf pt.zs = S
            go_wp2
            go_ret
            exact ⟨by simp, HBY.out⟩
        · have hLA : L = A := by omega
          have hcA : pt.c = A := by omega
          obtain ⟨v', w', hrun, HSUM, HB', hz'⟩ := fin ⟨some ⟨b, o, none⟩, 0, []⟩ ⟨by simp, Or.inl rfl⟩ (by
            rw [List.drop_of_length_le (by rw [← HL.out]; omega)])
          unfold Part.val at hrun
          simp only [List.length_nil] at hrun
          have HRUN : Hid _ := hrun
          rw [hpa, hcA]
          rw [hcA] at HVAL
          subst hLA
          clear hrun hpc hokw fin hemp hpa hroom hcA hcap
          by_cases hkN : k < N
          · have d1 : (k : Int) < (N : Int) := by omega
            have d2 : ¬ (L : Int) < (L : Int) := by omega
            clear hgo
            go_wp2_with (first
              | (at_builtin; refine wpList_append_run _ rfl (.tmp 50) (.tmp 54) 31 31 rfl _ _ rfl rfl HRUN.out ?_))
            refine HSUM.out.mono ?_
            rintro e wx ⟨rfl, rfl⟩
            go_wp2_with fail
            refine (sum_one pt wx.heap.size _ (by rw [World.cell?_alloc_at _ _ _ _ rfl, HVAL.out]; rfl) (HOK.out _ (HB'.out.alloc hz' _)) (by have := HL.out; omega) 1).mono ?_
            rintro e wy ⟨rfl, hwy⟩
            have HBY : Hid (Below w.heap.size w wy) := by unfold Hid; rw [hwy]; exact HB'.out.alloc hz' _
            clear hwy
            generalize sumOf pt.zs = S
            go_wp2
            go_ret
            exact ⟨by simp, HBY.out⟩
          · have d1 : ¬ (k : Int) < (N : Int) := by omega
            clear hgo
            go_wp2_with (first
              | (at_builtin; refine wpList_append_run _ rfl (.tmp 50) (.tmp 54) 31 31 rfl _ _ rfl rfl HRUN.out ?_))
            refine HSUM.out.mono ?_
            rintro e wx ⟨rfl, rfl⟩
            go_wp2_with fail
            refine (sum_one pt wx.heap.size _ (by rw [World.cell?_alloc_at _ _ _ _ rfl, HVAL.out]; rfl) (HOK.out _ (HB'.out.alloc hz' _)) (by have := HL.out; omega) 1).mono ?_
            rintro e wy ⟨rfl, hwy⟩
            have HBY : Hid (Below w.heap.size w wy) := by unfold Hid; rw [hwy]; exact HB'.out.alloc hz' _
            clear hwy
            generalize sumOf pt.zs = S
            go_wp2
            go_ret
            exact ⟨by simp, HBY.out⟩
end Go.Proofs.YtakjcjddbgapiaaDoor
