/-
  The walk of DigestJoined: its cases joined.
-/
import Derived.Test.YtanmidiapbghnaaDOpenB
import Derived.Test.YtanmidiapbghnaaDJoinedV
import Derived.Test.YtanmidiapbghnaaDJoinedN
import Derived.Test.YtanmidiapbghnaaDJoinedO
namespace Go.Proofs.Ytanmidiapbghnaa
open Go.RowKit
set_option linter.unusedVariables false
set_option maxRecDepth 20000 in
theorem joined_big (pt : Part) (i k : Int) (d : List Int) (s : ByteArray) (w : World) (hL : 2147483647 ≤ pt.zs.length) (hl : pt.zs.length ≤ 140737488351232) :
    Calls Try.prog 7 #[pt.val, .int .i64 i, .int .i64 k, .agg (u8s d).toArray, .string s] w fun e w' => e = .returned (.bool true) ∧ Below w.heap.size w w' := by
  have HBY : Hid (∀ (w' : World) (g : Nat), w'.cell? ⟨g, 0, none⟩ = some (.slice pt.a pt.zs.length pt.c) → Calls Try.prog 9 #[.slice (some ⟨g, 0, none⟩) 1 1] w' fun e w'' => e = .returned (.bool true) ∧ w'' = w') := fun w' g hg => by
    have := beyond1 g pt w' hg hl
    rw [decide_eq_true hL] at this
    exact this
  unfold Part.val
  generalize pt.a = a0 at *
  generalize pt.zs.length = L at *
  generalize pt.c = c0 at *
  have HB0 : Hid (Below w.heap.size w (w.alloc (.cells (u8s d).toArray 26))) := bpush (Below.refl _ _) _
  clear hL hl
  go_enter Try.func7, Try.ntmps7
  go_wp2_with fail
  refine (live_any _).mono ?_
  rintro e w1 ⟨rfl, hb1⟩
  have HB1 : Hid (Below w.heap.size w w1) := bstep HB0.out hb1
  clear hb1 HB0
  go_wp2_with fail
  refine (HBY.out _ _ (cell_one w1 _ _)).mono ?_
  rintro e w1' ⟨rfl, rfl⟩
  go_wp2_with fail
  go_ret
  exact ⟨rfl, bpush HB1.out _⟩
theorem digestJoined_walk (pt : Part) (i k : Int) (d : List Int) (s : ByteArray) (w : World) (hpo : pt.ok w) (hl : pt.zs.length ≤ 140737488351232) {P Q : Prop} (bi : P) (bk : Q) (hdl : d.length = 32) (hdb : ∀ z, z ∈ d → 0 ≤ z ∧ z ≤ 255) (hss : s.data.toList.length ≤ 140737488351232) :
    Calls Try.prog 7 #[pt.val, .int .i64 i, .int .i64 k, .agg (u8s d).toArray, .string s] w fun e w' => e = .returned (.bool true) ∧ Below w.heap.size w w' := by
  by_cases hbig : 2147483647 ≤ pt.zs.length
  · exact joined_big pt i k d s w hbig hl
  have hL : pt.zs.length < 2147483647 := by omega
  have hd : isSha d := ⟨hdl, hdb⟩
  have hs : s.size ≤ maxLen := by
    unfold maxLen
    have : s.size = s.data.toList.length := by simp
    omega
  have htd : (pt.zs.length : Int).tdiv 2 = ((pt.zs.length / 2 : Nat) : Int) := by rw [Int.tdiv_eq_ediv_of_nonneg (by omega)]; omega
  have hh : pt.zs.length / 2 ≤ pt.zs.length := by omega
  clear hl bi bk hdl hdb hss hbig
  by_cases i1 : i < 0
  · have hI0 : (0 : Int) ≤ ((pt.zs.length / 2 : Nat) : Int) := by omega
    by_cases k1 : k < ((pt.zs.length / 2 : Nat) : Int)
    · exact joined_nn _ _ _ _ _ _ _ _ _ _ _ _ _ _ _ _ _ _ _ _ _ _ (hid (joined_jc pt (pt.zs.length / 2 : Nat) (pt.zs.length / 2 : Nat) w (by omega) (by omega) hL hpo)) i k d s w hpo hd hs i1 htd (by omega) (by omega) k1
    by_cases k2 : (pt.zs.length : Int) < k
    · exact joined_no _ _ _ _ _ _ _ _ _ _ _ _ _ _ _ _ _ _ _ _ _ _ (hid (joined_jc pt (pt.zs.length / 2 : Nat) (pt.zs.length / 2 : Nat) w (by omega) (by omega) hL hpo)) i k d s w hpo hd hs i1 htd (by omega) (by omega) k1 k2
    obtain ⟨K, rfl⟩ := Int.eq_ofNat_of_zero_le (a := k) (by omega)
    exact joined_nv _ _ _ _ _ _ _ _ _ _ _ _ _ _ _ _ _ _ _ _ _ _ _ (hid (joined_jc pt (pt.zs.length / 2 : Nat) K w (by omega) (by omega) hL hpo)) i 0 d s w hpo hd hs i1 htd (by omega) (by omega) k1 k2
  by_cases i2 : (pt.zs.length : Int) < i
  · have hI0 : (0 : Int) ≤ ((pt.zs.length / 2 : Nat) : Int) := by omega
    by_cases k1 : k < ((pt.zs.length / 2 : Nat) : Int)
    · exact joined_on _ _ _ _ _ _ _ _ _ _ _ _ _ _ _ _ _ _ _ _ _ _ (hid (joined_jc pt (pt.zs.length / 2 : Nat) (pt.zs.length / 2 : Nat) w (by omega) (by omega) hL hpo)) i k d s w hpo hd hs i1 i2 htd (by omega) (by omega) k1
    by_cases k2 : (pt.zs.length : Int) < k
    · exact joined_oo _ _ _ _ _ _ _ _ _ _ _ _ _ _ _ _ _ _ _ _ _ _ (hid (joined_jc pt (pt.zs.length / 2 : Nat) (pt.zs.length / 2 : Nat) w (by omega) (by omega) hL hpo)) i k d s w hpo hd hs i1 i2 htd (by omega) (by omega) k1 k2
    obtain ⟨K, rfl⟩ := Int.eq_ofNat_of_zero_le (a := k) (by omega)
    exact joined_ov _ _ _ _ _ _ _ _ _ _ _ _ _ _ _ _ _ _ _ _ _ _ _ (hid (joined_jc pt (pt.zs.length / 2 : Nat) K w (by omega) (by omega) hL hpo)) i 0 d s w hpo hd hs i1 i2 htd (by omega) (by omega) k1 k2
  obtain ⟨I, rfl⟩ := Int.eq_ofNat_of_zero_le (a := i) (by omega)
  by_cases k1 : k < (I : Int)
  · exact joined_vn _ _ _ _ _ _ _ _ _ _ _ _ _ _ _ _ _ _ _ _ _ _ (hid (joined_jc pt I I w (by omega) (by omega) hL hpo)) 0 k d s w hpo hd hs i1 i2 k1
  by_cases k2 : (pt.zs.length : Int) < k
  · exact joined_vo _ _ _ _ _ _ _ _ _ _ _ _ _ _ _ _ _ _ _ _ _ _ (hid (joined_jc pt I I w (by omega) (by omega) hL hpo)) 0 k d s w hpo hd hs i1 i2 k1 k2
  obtain ⟨K, rfl⟩ := Int.eq_ofNat_of_zero_le (a := k) (by omega)
  exact joined_vv _ _ _ _ _ _ _ _ _ _ _ _ _ _ _ _ _ _ _ _ _ _ _ (hid (joined_jc pt I K w (by omega) (by omega) hL hpo)) 0 0 d s w hpo hd hs i1 i2 k1 k2
end Go.Proofs.Ytanmidiapbghnaa