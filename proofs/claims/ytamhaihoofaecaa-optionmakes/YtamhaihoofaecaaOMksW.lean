/-
  The walk of OptionMakes.
-/
import Derived.Test.YtamhaihoofaecaaOLive
import Derived.Test.YtamhaihoofaecaaOBkP
import Derived.Test.YtamhaihoofaecaaOMk
import Derived.Test.YtamhaihoofaecaaOOpen
namespace Go.Proofs.Ytamhaihoofaecaa
open Go.RowKit
set_option linter.all false

theorem K15.start (w : World) (B : Nat) (hB : B ≤ w.heap.size) : K15 (w.alloc (.cells #[.slice none 0 0, .slice none 0 0, .slice none 0 0, .slice none 0 0] 47)) B w.heap.size (.slice none 0 0) (.slice none 0 0) (.slice none 0 0) (.slice none 0 0) [] [] [] := by
  refine ⟨⟨heap_new _ _, Row.nil _ _, Row.nil _ _, fun k hk => ?_, by simp [Value.ownBlock], by simp [Value.ownBlock], by simp [Value.ownBlock], by simp, by simp, by simp⟩, fun k hk => ?_, Nat.le_trans hB (by simp), Row.nil _ _, Row.nil _ _, by simp [Value.ownBlock], by simp [Value.ownBlock], by simp [Value.ownBlock], by simp, by simp, by simp, by simp, by simp, rfl⟩
  · rcases hk with rfl | hk | hk
    · exact hB
    · simp [Value.ownBlock] at hk
    · simp [Value.ownBlock] at hk
  · rcases hk with rfl | hk | hk
    · exact Nat.le_refl _
    · simp [Value.ownBlock] at hk
    · simp [Value.ownBlock] at hk
/-- the four options. -/
def E4 (code n s : Int) (g1 g2 g3 g4 : Nat) : List (Opt × Value) := [((code, ip4 n), .slice (some ⟨g1, 0, none⟩) 4 4), ((code, op1 s), .slice (some ⟨g2, 0, none⟩) 1 1), ((code, ip4 n), .slice (some ⟨g3, 0, none⟩) 4 4), ((code, op1 s), .slice (some ⟨g4, 0, none⟩) 1 1)]
def C4 (code : Int) (g1 g2 g3 g4 : Nat) : Array Value := #[.int .i64 code, .slice (some ⟨g1, 0, none⟩) 4 4, .int .i64 code, .slice (some ⟨g2, 0, none⟩) 1 1, .int .i64 code, .slice (some ⟨g3, 0, none⟩) 4 4, .int .i64 code, .slice (some ⟨g4, 0, none⟩) 1 1]
theorem four {w0 w1 w2 w3 w4 : World} {g1 g2 g3 g4 : Nat} {code n s : Int} (m1 : MadeO w0 w1 g1 (ip4 n)) (m2 : MadeO w1 w2 g2 (op1 s)) (m3 : MadeO w2 w3 g3 (ip4 n)) (m4 : MadeO w3 w4 g4 (op1 s)) :
    OwnO w0.heap.size (w4.alloc (.cells (C4 code g1 g2 g3 g4) 58)) (.slice (some ⟨w4.heap.size, 0, none⟩) 4 4) (E4 code n s g1 g2 g3 g4) ∧ Below w0.heap.size w0 (w4.alloc (.cells (C4 code g1 g2 g3 g4) 58)) := by
  obtain ⟨a1, h1, b1⟩ := m1
  obtain ⟨a2, h2, b2⟩ := m2
  obtain ⟨a3, h3, b3⟩ := m3
  obtain ⟨a4, h4, b4⟩ := m4
  have l1 := heap_lt h1
  have l2 := heap_lt h2
  have l3 := heap_lt h3
  have l4 := heap_lt h4
  have s1 := b1.size
  have s2 := b2.size
  have s3 := b3.size
  have s4 := b4.size
  have k1 : (w4.alloc (.cells (C4 code g1 g2 g3 g4) 58)).heap[g1]? = some (.cells (u8s (ip4 n)).toArray 5 (0, 0)) := (heap_old _ _ (by omega)).trans ((b4.block g1 (by omega)).trans ((b3.block g1 (by omega)).trans ((b2.block g1 (by omega)).trans h1)))
  have k2 : (w4.alloc (.cells (C4 code g1 g2 g3 g4) 58)).heap[g2]? = some (.cells (u8s (op1 s)).toArray 5 (0, 0)) := (heap_old _ _ (by omega)).trans ((b4.block g2 (by omega)).trans ((b3.block g2 (by omega)).trans h2))
  have k3 : (w4.alloc (.cells (C4 code g1 g2 g3 g4) 58)).heap[g3]? = some (.cells (u8s (ip4 n)).toArray 5 (0, 0)) := (heap_old _ _ (by omega)).trans ((b4.block g3 (by omega)).trans h3)
  have k4 : (w4.alloc (.cells (C4 code g1 g2 g3 g4) 58)).heap[g4]? = some (.cells (u8s (op1 s)).toArray 5 (0, 0)) := (heap_old _ _ (by omega)).trans h4
  have r1 := Row.of_heap k1 (by simp [u8s, ip4]; unfold maxLen; omega)
  have r2 := Row.of_heap k2 (by simp [u8s, op1]; unfold maxLen; omega)
  have r3 := Row.of_heap k3 (by simp [u8s, ip4]; unfold maxLen; omega)
  have r4 := Row.of_heap k4 (by simp [u8s, op1]; unfold maxLen; omega)
  refine ⟨⟨⟨rfl, Or.inr ⟨w4.heap.size, 4, C4 code g1 g2 g3 g4, rfl, Nat.zero_le _, heap_new _ _, Nat.le_refl _, by unfold maxLen; omega, rfl, rfl⟩⟩, fun b hb => ?_, ?_, ?_, ?_, ?_⟩, ?_⟩
  · have : w4.heap.size = b := by simpa [Value.ownBlock] using hb
    omega
  · intro p hp
    simp only [E4, List.mem_cons, List.not_mem_nil, or_false] at hp
    rcases hp with rfl | rfl | rfl | rfl
    · exact r1
    · exact r2
    · exact r3
    · exact r4
  · intro p hp b hb
    simp only [E4, List.mem_cons, List.not_mem_nil, or_false] at hp
    rcases hp with rfl | rfl | rfl | rfl
    · have : g1 = b := by simpa [Value.ownBlock] using hb
      omega
    · have : g2 = b := by simpa [Value.ownBlock] using hb
      omega
    · have : g3 = b := by simpa [Value.ownBlock] using hb
      omega
    · have : g4 = b := by simpa [Value.ownBlock] using hb
      omega
  · intro i j p q b hij hp hq hb e
    have hi := (List.getElem?_eq_some_iff.1 hp).1
    have hj := (List.getElem?_eq_some_iff.1 hq).1
    simp only [E4, List.length_cons, List.length_nil] at hi hj
    have ci : i = 0 ∨ i = 1 ∨ i = 2 ∨ i = 3 := by omega
    have cj : j = 0 ∨ j = 1 ∨ j = 2 ∨ j = 3 := by omega
    rcases ci with rfl | rfl | rfl | rfl <;> rcases cj with rfl | rfl | rfl | rfl <;> simp [E4] at hp hq <;> subst hp <;> subst hq <;> simp [Value.ownBlock] at hb e <;> omega
  · intro p hp z hz
    simp only [E4, List.mem_cons, List.not_mem_nil, or_false] at hp
    rcases hp with rfl | rfl | rfl | rfl
    · exact ip4_bd n z hz
    · exact op1_bd s z hz
    · exact ip4_bd n z hz
    · exact op1_bd s z hz
  · exact bpush (bstep (bstep (bstep b1 b2) b3) b4) _
theorem E4_fit (code n s : Int) (g1 g2 g3 g4 : Nat) (bd : -9223372036854775808 ≤ code ∧ code ≤ 9223372036854775807) : ∀ q ∈ E4 code n s g1 g2 g3 g4, q.1.2.length ≤ 2147483647 ∧ -9223372036854775808 ≤ q.1.1 ∧ q.1.1 ≤ 9223372036854775807 := fun q hq => by
  simp only [E4, List.mem_cons, List.not_mem_nil, or_false] at hq
  rcases hq with rfl | rfl | rfl | rfl <;> exact ⟨by simp [ip4, op1], bd⟩
set_option maxRecDepth 20000 in
set_option maxHeartbeats 8000000 in
theorem optionMakes_walk (code n small : Int) (W : World) (bd0 : -9223372036854775808 ≤ code ∧ code ≤ 9223372036854775807) (bd1 : 0 ≤ n ∧ n ≤ 4294967295) (bd2 : -9223372036854775808 ≤ small ∧ small ≤ 9223372036854775807) :
    Calls Try.prog 7 #[.int .i64 code, .int .u32 n, .int .i64 small] W fun e w' => e = .returned (.bool true) ∧ Below W.heap.size W w' := by
  have CN := fun w => numbered_any code n w bd1.1 bd1.2
  have CB := fun w => byte_any code small w bd2.1 bd2.2
  have RN := fun w => refNumbered_any code n w bd1.1 bd1.2
  have RB := fun w => refByte_any code small w bd2.1 bd2.2
  have HBD := hid bd0
  go_enter Try.func7, Try.ntmps7
  go_wp2_with fail
  refine (awake_any W).mono ?_
  rintro e w0 ⟨rfl, HB0⟩
  go_wp2_with fail
  refine (CN w0).mono ?_
  rintro e w1 ⟨g1, rfl, M1⟩
  go_wp2_with fail
  refine (CB w1).mono ?_
  rintro e w2 ⟨g2, rfl, M2⟩
  go_wp2_with fail
  refine (CN w2).mono ?_
  rintro e w3 ⟨g3, rfl, M3⟩
  go_wp2_with fail
  refine (CB w3).mono ?_
  rintro e w4 ⟨g4, rfl, M4⟩
  go_wp2_with fail
  have F1 := four (code := code) M1.out M2.out M3.out M4.out
  obtain ⟨w5, hw5⟩ : ∃ w5, w5 = w4.alloc (.cells (C4 code g1 g2 g3 g4) 58) := ⟨_, rfl⟩
  rw [← hw5] at F1
  have HF1 := hid F1
  have HL1 : Hid (w4.heap.size < w5.heap.size) := hid (by rw [hw5]; simp)
  simp only [C4] at hw5
  rw [← hw5]
  generalize w4.heap.size = gl at *
  clear F1 hw5 M1 M2 M3 M4 CN CB
  refine (RN w5).mono ?_
  rintro e w6 ⟨h1, rfl, M1⟩
  go_wp2_with fail
  refine (RB w6).mono ?_
  rintro e w7 ⟨h2, rfl, M2⟩
  go_wp2_with fail
  refine (RN w7).mono ?_
  rintro e w8 ⟨h3, rfl, M3⟩
  go_wp2_with fail
  refine (RB w8).mono ?_
  rintro e w9 ⟨h4, rfl, M4⟩
  go_wp2_with fail
  have F2 := four (code := code) M1.out M2.out M3.out M4.out
  obtain ⟨w10, hw10⟩ : ∃ w10, w10 = w9.alloc (.cells (C4 code h1 h2 h3 h4) 58) := ⟨_, rfl⟩
  rw [← hw10] at F2
  have HF2 := hid F2
  simp only [C4] at hw10
  rw [← hw10]
  generalize w9.heap.size = hl at *
  clear F2 hw10 M1 M2 M3 M4 RN RB
  have f1 := E4_fit code n small g1 g2 g3 g4 HBD.out
  have f2 := E4_fit code n small h1 h2 h3 h4 HBD.out
  have O1 : OwnO w0.heap.size w10 (.slice (some ⟨gl, 0, none⟩) 4 4) (E4 code n small g1 g2 g3 g4) := HF1.out.1.below HF2.out.2
  have CS := osame_yes (some ⟨gl, 0, none⟩) (some ⟨hl, 0, none⟩) 4 4 _ _ w10 (O1.view (fun o ho => by have := (f1 o ho).1; omega) (by simp [E4]) (fun o ho => (f1 o ho).2)).1 (HF2.out.1.view (fun o ho => by have := (f2 o ho).1; omega) (by simp [E4]) (fun o ho => (f2 o ho).2)).1 (by rw [ptOf_abs, ptOf_abs]; rfl)
  have CS' : Calls Try.prog 21 #[.slice (some ⟨gl, 0, none⟩) 4 4, .slice (some ⟨hl, 0, none⟩) 4 4] w10 fun e w' => e = .returned (.bool true) ∧ Hid (Below w10.heap.size w10 w') := CS
  clear CS f1 f2 O1
  refine CS'.mono ?_
  rintro e w11 ⟨rfl, HB11⟩
  clear CS'
  go_wp2_with fail
  have O2 : OwnO w0.heap.size w11 (.slice (some ⟨gl, 0, none⟩) 4 4) (E4 code n small g1 g2 g3 g4) := (HF1.out.1.below HF2.out.2).below HB11.out
  have bAll : Below w0.heap.size w0 w11 := bstep (bstep HF1.out.2 HF2.out.2) HB11.out
  have K0 := K15.start w11 w0.heap.size bAll.size
  have bA : Below w11.heap.size w11 (w11.alloc (.cells #[.slice none 0 0, .slice none 0 0, .slice none 0 0, .slice none 0 0] 47)) := bpush (Below.refl _ _) _
  have CT := take15_any w0.heap.size w11.heap.size _ _ _ _ (.slice (some ⟨gl, 0, none⟩) 4 4) [] [] [] (E4 code n small g1 g2 g3 g4) _ K0 (O2.below bA) (fun b hb => (O2.lt hb).2) (by simp) (by simp) (by simp [E4]) (by simp) (by simp) (fun q hq => (E4_fit code n small g1 g2 g3 g4 HBD.out q hq).1) (fun q hq => (E4_fit code n small g1 g2 g3 g4 HBD.out q hq).2)
  have HB12 : Hid (Below w0.heap.size w0 (w11.alloc (.cells #[.slice none 0 0, .slice none 0 0, .slice none 0 0, .slice none 0 0] 47))) := bstep bAll bA
  clear O2 bAll K0 bA HF1 HF2 HB11 HL1
  refine CT.mono ?_
  rintro e w12 ⟨rfl, HK⟩
  clear CT
  obtain ⟨⟨L', V', R', S', qv, qE, k1⟩, k2, k3⟩ := HK.out
  have CO := owned15_any _ _ _ _ _ _ _ _ _ w12 k1 (by simp)
  have HB13 : Hid (Below W.heap.size W w12) := HB0.out.trans ((HB12.out.trans k3).mono HB0.out.size)
  have HZ : Hid (W.heap.size ≤ w0.heap.size) := hid HB0.out.size
  clear k1 k2 k3 HK HB12 HB0
  go_wp2_with fail
  refine CO.mono ?_
  rintro e w13 ⟨rfl, HB14⟩
  clear CO
  go_wp2_with fail
  go_ret
  exact ⟨rfl, HB13.out.trans (HB14.out.mono HZ.out)⟩
end Go.Proofs.Ytamhaihoofaecaa
