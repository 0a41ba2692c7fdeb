/-
  A few calls that the document fixes.
-/
import Derived.Test.YtclmmncadlbaiaaCNew2
namespace Go.Proofs.Ytclmmncadlbaiaa
open Go.RowKit
set_option linter.all false

/-! ### filled -/
def ones (x : Int) (n k : Nat) : List Int := List.replicate k x ++ List.replicate (n - k) 0
theorem ones_len (x : Int) (n k : Nat) (h : k ≤ n) : (ones x n k).length = n := by simp [ones]; omega
theorem ones_set (x : Int) (n k : Nat) (h : k < n) : (ones x n k).set k x = ones x n (k + 1) := by
  apply List.ext_getElem?
  intro i
  by_cases hik : i = k
  · subst hik
    rw [List.getElem?_set_self (by rw [ones_len _ _ _ (by omega)]; exact h)]
    simp [ones, List.getElem?_append, List.getElem?_replicate]
  · rw [List.getElem?_set_ne (fun e => hik e.symm)]
    simp only [ones, List.getElem?_append, List.getElem?_replicate, List.length_replicate]
    by_cases h1 : i < k
    · simp [h1, show i < k + 1 by omega]
    · simp only [h1, if_false, show ¬ i < k + 1 by omega]
      congr 1
      simp only [eq_iff_iff]; omega
set_option maxHeartbeats 1000000 in
theorem filled_any (x : Int) (n : Nat) (w : World) (hx : 0 ≤ x ∧ x ≤ 255) (hn : n ≤ 1514) :
    Calls Try.prog 20 #[.int .u8 x, .int .i64 n] w fun e w' => ∃ v, e = .returned v ∧ Fresh w w' v (List.replicate n x) := by
  have hmk : ∀ wx : World, (Instr.makeSlice 43 (.int .i64 (n : Int)) (.int .i64 (n : Int))).run Try.prog wx = .ok (.slice (some ⟨wx.heap.size, 0, none⟩) n n) (wx.alloc (.cells (u8s (List.replicate n 0)).toArray 5)) := fun wx => by
    rw [Go.run_make_row' (P := Try.prog) 43 5 (.int .u8 0) 1 Try.underlying43 infoU8 rfl .i64 .i64 n (by omega) (by omega) wx, made_eq]
  have H0 : Hid ((w.alloc (.cells (u8s (List.replicate n 0)).toArray 5)).heap[w.heap.size]? = some (.cells (u8s (ones x n 0)).toArray 5 (0, 0))) := by
    unfold Hid; rw [heap_new]; simp [ones]
  go_enter Try.func20, Try.ntmps20
  go_wp2
  go_loopw [6] (fun i wr => ∃ k : Nat, k ≤ n ∧ i = .int .i64 k ∧ Hid (wr.heap[w.heap.size]? = some (.cells (u8s (ones x n k)).toArray 5 (0, 0))) ∧ Hid (Below w.heap.size w wr)) (fun i _ => n - (intOf i).toNat)
  case atStart => exact ⟨0, by omega, rfl, H0, balloc w _⟩
  case round =>
    obtain ⟨k, hk, rfl, HI, HB⟩ := hrel
    by_cases hlt : k < n
    · have hlt2 : (k : Int) < n := by omega
      have q2 : wr.cell? ⟨w.heap.size, k, none⟩ = some (.int .u8 ((ones x n k).getD k 0)) := cellHeap HI.out k (u8s_at _ _ (by rw [ones_len _ _ _ hk]; exact hlt))
      have q3 : wr.frozen? ⟨w.heap.size, k, none⟩ = false := frozen_of_heap HI.out _
      go_wp2
      go_roundw
      case rel =>
        refine ⟨k + 1, by omega, by go_num, ?_, bset HB.out (Nat.le_refl _) _ _⟩
        have := heap_setCell (j := k) (v := .int .u8 x) HI.out
        have e : (u8s (ones x n k)).toArray.setIfInBounds k (.int .u8 x) = (u8s (ones x n (k + 1))).toArray := by
          rw [← ones_set x n k hlt]; simp [u8s, List.map_set]
        rw [e] at this
        exact this
      case measure => simp [intOf]; omega
    · have hge : ¬ (k : Int) < n := by omega
      have hkn : k = n := by omega
      have HE : Hid (wr.heap[w.heap.size]? = some (.cells (u8s (List.replicate n x)).toArray 5 (0, 0))) := by
        unfold Hid
        have := HI.out
        rw [hkn] at this
        simpa [ones] using this
      clear hkn
      go_wp2
      go_ret
      exact ⟨_, rfl, w.heap.size, by simp, Nat.le_refl _, HE.out, HB.out⟩

/-! ### live -/
def L1 : CS := (CS.new 2 1).came [9]
def L2s : CS := L1.laid 0 (List.replicate 60 1)
def L3 : CS := L2s.gone
theorem Holds.only {w w' : World} {l : List (Nat × Obj)} {K : Nat → Prop} (h : Holds w l) (ho : Only K w w') (hn : ∀ p, p ∈ l → ¬ K p.1) : Holds w' l := fun p hp => (ho.block p.1 (hn p hp) (h.lt hp)).trans (h p hp)
theorem new21 (w : World) : Calls Try.prog 8 #[.int .i64 2, .int .i64 1] w fun e w' => ∃ c g h, e = .returned (.pointer (some ⟨c, 0, none⟩)) ∧ Hid (CardW w' c g h (CS.new 2 1)) ∧ Hid (∀ k, CardK c g h k → w.heap.size ≤ k) ∧ Hid (Below w.heap.size w w') :=
  new_yes 2 1 w (by omega) (by omega) (by omega) (by omega)
theorem filled160 (w : World) : Calls Try.prog 20 #[.int .u8 1, .int .i64 60] w fun e w' => ∃ g, e = .returned (.slice (some ⟨g, 0, none⟩) 60 60) ∧ Hid (w.heap.size ≤ g) ∧ Hid (w'.heap[g]? = some (.cells (u8s (List.replicate 60 1)).toArray 5 (0, 0))) ∧ Hid (Below w.heap.size w w') :=
  (filled_any 1 60 w (by omega) (by omega)).mono (by rintro e w' ⟨v, rfl, g, rfl, h1, h2, h3⟩; exact ⟨g, by simp, h1, h2, h3⟩)
theorem arrive9 (c g h b : Nat) (w : World) (x : CardW w c g h (CS.new 2 1)) (hb : w.heap[b]? = some (.cells #[.int .u8 9] 5 (0, 0))) :
    Calls Try.prog 15 #[.pointer (some ⟨c, 0, none⟩), .slice (some ⟨b, 0, none⟩) 1 1] w fun e w' => e = .returned (.bool true) ∧ Hid (CardW w' c g h L1) ∧ Hid (Only (CardK c g h) w w') :=
  arrive_yes c g h (CS.new 2 1) ⟨true, []⟩ ⟨some ⟨b, 0, none⟩, 1, [9]⟩ w x (Part.of_row (zs := [9]) hb (by simp) (by simp)) (by simp) (by simp) rfl rfl (by simp [CS.new])
theorem rx0 (c g h : Nat) (w : World) (x : CardW w c g h L1) :
    Calls Try.prog 16 #[.pointer (some ⟨c, 0, none⟩), .int .i64 0] w fun e w' => ∃ g', e = .returned (.tuple #[.agg #[.bool false, .slice (some ⟨g', 0, none⟩) 1 1], .int .i64 0]) ∧ Hid (w.heap.size ≤ g') ∧ Hid (w'.heap[g']? = some (.cells #[.int .u8 9] 5 (0, 0))) ∧ Hid (Below w.heap.size w w') := by
  refine (rx_any c g h L1 0 w x).mono ?_
  rintro e w' ⟨b, a, l, cc, n, rfl, hs⟩
  rcases hs with ⟨j, p, hj, hp, rfl, rfl, g', hv, h1, h2, h3⟩ | ⟨h1, _⟩
  · have hj0 : j = 0 := by omega
    subst hj0
    have : p = ⟨false, [9]⟩ := by simp [L1, CS.came, CS.new, List.replicate] at hp; exact hp.symm
    subst this
    simp only [Value.slice.injEq, List.length_cons, List.length_nil] at hv
    obtain ⟨rfl, rfl, rfl⟩ := hv
    exact ⟨g', rfl, h1, h2, h3⟩
  · simp [hasB, L1, CS.came, CS.new] at h1
theorem give1 (c g h : Nat) (w : World) (x : CardW w c g h L1) :
    Calls Try.prog 17 #[.pointer (some ⟨c, 0, none⟩), .int .i64 1] w fun e w' => e = .returned (.int .i64 41) ∧ w' = w :=
  give_owner c g h L1 1 ⟨true, []⟩ w x rfl rfl
theorem lay0 (c g h b : Nat) (w : World) (x : CardW w c g h L1) (hb : w.heap[b]? = some (.cells (u8s (List.replicate 60 1)).toArray 5 (0, 0))) :
    Calls Try.prog 18 #[.pointer (some ⟨c, 0, none⟩), .int .i64 0, .slice (some ⟨b, 0, none⟩) 60 60] w fun e w' => e = .returned (.int .i64 0) ∧ Hid (CardW w' c g h L2s) ∧ Hid (Only (CardK c g h) w w') :=
  lay_yes c g h L1 0 ⟨false, []⟩ ⟨some ⟨b, 0, none⟩, 60, List.replicate 60 1⟩ w x (Part.of_row hb (by simp) (fun z hz => by simp at hz; omega)) rfl rfl (by simp) (by simp)
theorem departA (c g h : Nat) (w : World) (x : CardW w c g h L2s) :
    Calls Try.prog 19 #[.pointer (some ⟨c, 0, none⟩)] w fun e w' => ∃ g', e = .returned (.tuple #[.slice (some ⟨g', 0, none⟩) 60 60, .bool true]) ∧ Hid (CardW w' c g h L3) ∧ Hid (w.heap.size ≤ g') ∧ Hid (w'.heap[g']? = some (.cells (u8s (List.replicate 60 1)).toArray 5 (0, 0))) ∧ Hid (Only (CardK c g h) w w') :=
  (depart_yes c g h L2s ⟨true, List.replicate 60 1⟩ w x rfl rfl (by simp [L2s, L1, CS.laid, CS.came, CS.new])).mono (by rintro e w' ⟨v, rfl, hx, g', rfl, h1, h2, h3⟩; exact ⟨g', by simp, hx, h1, h2, h3⟩)
theorem departB (c g h : Nat) (w : World) (x : CardW w c g h L3) :
    Calls Try.prog 19 #[.pointer (some ⟨c, 0, none⟩)] w fun e w' => e = .returned (.tuple #[.slice none 0 0, .bool false]) ∧ Hid (Below w.heap.size w w') :=
  depart_no c g h L3 ⟨false, []⟩ w x rfl rfl
theorem rings21 (c g h : Nat) (w : World) (x : CardW w c g h L3) :
    Calls Try.prog 10 #[.pointer (some ⟨c, 0, none⟩)] w fun e w' => e = .returned (.tuple #[.int .i64 2, .int .i64 1]) ∧ Hid (Below w.heap.size w w') := rings_any c g h L3 w x
theorem counts21 (c g h : Nat) (w : World) (x : CardW w c g h L3) :
    Calls Try.prog 11 #[.pointer (some ⟨c, 0, none⟩)] w fun e w' => e = .returned (.agg #[.int .i64 1, .int .i64 0, .int .i64 1]) ∧ Hid (Below w.heap.size w w') := counts_any c g h L3 w x
end Go.Proofs.Ytclmmncadlbaiaa
