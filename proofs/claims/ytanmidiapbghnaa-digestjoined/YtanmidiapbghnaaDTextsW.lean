/-
  The walk of the statement DigestTexts.
-/
import Derived.Test.YtanmidiapbghnaaDRefH
namespace Go.Proofs.Ytanmidiapbghnaa
open Go.RowKit
set_option linter.unusedVariables false
set_option linter.unusedSimpArgs false

theorem unK_bd (f : Nat → Int) (h0 : ∀ i, i < 64 → 0 ≤ f i) (h1 : ∀ i, f i ≤ 15) : ∀ z, z ∈ unK f 64 → 0 ≤ z ∧ z ≤ 255 := by
  intro z hz
  obtain ⟨j, hj, rfl⟩ := List.mem_map.1 hz
  have hj' : j < 32 := by simpa using hj
  unfold unV
  rw [if_pos (by omega)]
  have a := h0 (2 * j) (by omega)
  have b := h0 (2 * j + 1) (by omega)
  have c := h1 (2 * j)
  have e := h1 (2 * j + 1)
  omega
/-- what both readers answer, one as the other. -/
theorem both_unhex (s : ByteArray) (hs : s.size ≤ maxLen) : ∃ (S : List Int) (g : Int), S.length = 32 ∧ (∀ z, z ∈ S → 0 ≤ z ∧ z ≤ 255) ∧
    (∀ w, Calls Try.prog 24 #[.string s] w fun e w' => e = .returned (.tuple #[.agg (u8s S).toArray, .int .i64 g]) ∧ Below w.heap.size w w') ∧
    (∀ w, Calls Try.prog 26 #[.string s] w fun e w' => e = .returned (.tuple #[.agg (u8s S).toArray, .int .i64 g]) ∧ Below w.heap.size w w') := by
  by_cases hg : goodS s
  · refine ⟨unK (sgn s) 64, 0, unK_len _ _, unK_bd _ hg.2 (sgn_le s), fun w => (unhex_any s w hs).mono fun e w' ⟨h, hb⟩ => ⟨?_, hb⟩, fun w => (refUnhex_any s w).mono fun e w' ⟨h, hb⟩ => ⟨?_, hb⟩⟩
    · rcases h with ⟨_, rfl⟩ | ⟨hn, _⟩
      · rfl
      · exact absurd hg hn
    · rcases h with ⟨_, rfl⟩ | ⟨hn, _⟩
      · rfl
      · exact absurd hg hn
  · refine ⟨z32, 20, rfl, fun z hz => by rw [List.eq_of_mem_replicate hz]; omega, fun w => (unhex_any s w hs).mono fun e w' ⟨h, hb⟩ => ⟨?_, hb⟩, fun w => (refUnhex_any s w).mono fun e w' ⟨h, hb⟩ => ⟨?_, hb⟩⟩
    · rcases h with ⟨hn, _⟩ | ⟨_, rfl⟩
      · exact absurd hn hg
      · rfl
    · rcases h with ⟨hn, _⟩ | ⟨_, rfl⟩
      · exact absurd hn hg
      · rfl

set_option maxRecDepth 20000 in
set_option maxHeartbeats 1000000 in
theorem digestTexts_walk (d : List Int) (s : ByteArray) (w : World) (hd : d.length = 32) (hb : ∀ z, z ∈ d → 0 ≤ z ∧ z ≤ 255) (hs : s.data.toList.length ≤ 140737488351232) :
    Calls Try.prog 6 #[.agg (u8s d).toArray, .string s] w fun e w' => e = .returned (.bool true) ∧ Below w.heap.size w w' := by
  have hsm : s.size ≤ maxLen := by
    unfold maxLen
    have : s.size = s.data.toList.length := by simp
    omega
  obtain ⟨S, g, hSl, hSb, hu1, hu2⟩ := both_unhex s hsm
  have HU1 : Hid _ := hu1
  have HU2 : Hid _ := hu2
  have HD : Hid (d.length = 32) := hd
  have HBD : Hid (∀ z, z ∈ d → 0 ≤ z ∧ z ≤ 255) := hb
  have hlD : (u8s d).length = 32 := by rw [u8s_len, hd]
  have hzl := z32_len
  have hlS : (u8s S).length = 32 := by rw [u8s_len, hSl]
  have hsS := store_new 26 (u8s S) 32 size32 hlS (u8s_one S)
  have e2 : ∀ w, (Op.equalIn 10000 26 (.agg (u8s S).toArray) (.agg (u8s S).toArray)).run Try.prog w = .ok true w := fun w => by
    rw [dig_eq S S hSl hSl hSb hSb, decide_eq_true rfl]
  have HH0 : Hid (Holds (w.alloc (.cells (u8s d).toArray 26)) _) := (Holds.nil w).push (.cells (u8s d).toArray 26)
  have HB0 : Hid (Below w.heap.size w (w.alloc (.cells (u8s d).toArray 26))) := bpush (Below.refl _ _) _
  clear hu1 hu2 hd hb hs hsm hSl hSb
  go_enter Try.func6, Try.ntmps6
  go_wp2_with fail
  refine (live_any _).mono ?_
  rintro e w1 ⟨rfl, hb1⟩
  have HH1 : Hid (Holds w1 _) := HH0.out.below hb1
  have HB1 : Hid (Below w.heap.size w w1) := bstep HB0.out hb1
  clear hb1 HH0 HB0
  go_wp2_with (first
    | (refine wpList_load_row rfl 26 _ rfl w.heap.size rfl 26 (u8s d).toArray (0, 0) _ (HH1.out.at 0 _ _ rfl) Try.underlying26 rfl (by rw [size32]; simp [hlD]) ?_))
  refine (hex_any d _ HD.out HBD.out).mono ?_
  rintro e w2 ⟨rfl, hb2⟩
  have HH2 : Hid (Holds w2 _) := HH1.out.below hb2
  have HB2 : Hid (Below w.heap.size w w2) := bstep HB1.out hb2
  clear hb2 HH1 HB1
  go_wp2_with fail
  refine (HU1.out _).mono ?_
  rintro e w3 ⟨rfl, hb3⟩
  have HH3 : Hid (Holds (w3.alloc (.cells (u8s S).toArray 26)) _) := (HH2.out.below hb3).push (.cells (u8s S).toArray 26)
  have HB3 : Hid (Below w.heap.size w (w3.alloc (.cells (u8s S).toArray 26))) := bpush (bstep HB2.out hb3) _
  clear hb3 HH2 HB2
  go_wp2_with (first
    | (refine wpList_alloc_to rfl 26 rfl (u8s z32).toArray (by kernel_rfl) ?_)
    | (refine wpList_load_row rfl 26 _ rfl w.heap.size rfl 26 (u8s d).toArray (0, 0) _ (HH3.out.at 1 _ _ rfl) Try.underlying26 rfl (by rw [size32]; simp [hlD]) ?_))
  refine (refHex_any d _ HD.out HBD.out).mono ?_
  rintro e w4 ⟨rfl, hb4⟩
  have HH4 : Hid (Holds w4 _) := HH3.out.below hb4
  have HB4 : Hid (Below w.heap.size w w4) := bstep HB3.out hb4
  generalize w3.heap.size = g3 at *
  clear hb4 HH3 HB3
  go_wp2_with fail
  refine (HU2.out _).mono ?_
  rintro e w5 ⟨rfl, hb5⟩
  have HH5 : Hid (Holds (w5.alloc (.cells (u8s S).toArray 26)) _) := (HH4.out.below hb5).push (.cells (u8s S).toArray 26)
  have HB5 : Hid (Below w.heap.size w (w5.alloc (.cells (u8s S).toArray 26))) := bpush (bstep HB4.out hb5) _
  clear hb5 HH4 HB4
  generalize strOfNums (hexL d) = X at *
  go_wp2_with (first
    | (refine wpList_alloc_to rfl 26 rfl (u8s z32).toArray (by kernel_rfl) ?_)
    | (refine wpList_load_w (by rfl) 26 _ rfl g3 rfl 26 (u8s S).toArray (0, 0) _ (HH5.out.at 1 _ _ rfl) Try.underlying26 rfl (by rw [size32]; simp [hlS]) ?_)
    | (refine wpList_load_w (by rfl) 26 _ rfl w5.heap.size rfl 26 (u8s S).toArray (0, 0) _ (HH5.out.at 0 _ _ rfl) Try.underlying26 rfl (by rw [size32]; simp [hlS]) ?_))
  go_ret
  exact ⟨rfl, HB5.out⟩
end Go.Proofs.Ytanmidiapbghnaa
