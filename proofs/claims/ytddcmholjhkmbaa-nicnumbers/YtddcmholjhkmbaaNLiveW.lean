/-
  live: it answers true (nic).
-/
import Derived.Test.YtddcmholjhkmbaaNLive
namespace Go.Proofs.Ytddcmholjhkmbaa
open Go.RowKit
set_option linter.all false

def AO : Obj := .cells #[.int .u8 2, .int .u8 0, .int .u8 0, .int .u8 0, .int .u8 0, .int .u8 10] 24 (0, 0)
theorem new11 (w : World) : Calls Try.prog 7 #[.int .i64 1, .int .i64 1] w fun e w' => ∃ c g h, e = .returned (.pointer (some ⟨c, 0, none⟩)) ∧ CardW w' c g h (CS.new 1 1) ∧ (∀ k, CardK c g h k → w.heap.size ≤ k) ∧ Below w.heap.size w w' := new_yes 1 1 w (by omega) (by omega) (by omega) (by omega)
theorem nic11 {w : World} {c g h : Nat} (x : CardW w c g h (CS.new 1 1)) : Calls Try.prog 9 #[.pointer (some ⟨c, 0, none⟩), .agg #[.int .u8 2, .int .u8 0, .int .u8 0, .int .u8 0, .int .u8 0, .int .u8 10]] w fun e w' => ∃ q, e = .returned (.pointer (some ⟨q, 0, none⟩)) ∧ NicW w' q aM c g h 1 1 (CS.new 1 1) NS.new ∧ w.heap.size ≤ q ∧ Below w.heap.size w w' := nnew_yes aM c g h (CS.new 1 1) w x
theorem nic10 (w : World) : Calls Try.prog 9 #[.pointer none, .agg #[.int .u8 2, .int .u8 0, .int .u8 0, .int .u8 0, .int .u8 0, .int .u8 10]] w fun e w' => e = .returned (.pointer none) ∧ Below w.heap.size w w' := nnew_no aM w
theorem own11 {w : World} {q c g h : Nat} {S : CS} {N : NS} (x : NicW w q aM c g h 1 1 S N) : Calls Try.prog 21 #[.pointer (some ⟨q, 0, none⟩)] w fun e w' => e = .returned (.agg #[.int .u8 2, .int .u8 0, .int .u8 0, .int .u8 0, .int .u8 0, .int .u8 10]) ∧ Below w.heap.size w w' := own_any q aM c g h 1 1 S N w x
theorem stats11 {w : World} {q c g h : Nat} {S : CS} (x : NicW w q aM c g h 1 1 S LN4) : Calls Try.prog 22 #[.pointer (some ⟨q, 0, none⟩)] w fun e w' => e = .returned (.agg #[.int .i64 1, .int .i64 0, .int .i64 1, .int .i64 2]) ∧ Below w.heap.size w w' := stats_any q aM c g h 1 1 S LN4 w x
set_option maxRecDepth 20000 in
set_option maxHeartbeats 4000000 in
theorem nlive_any (w : World) : Calls Try.prog 6 #[] w fun e w' => e = .returned (.bool true) ∧ Below w.heap.size w w' := by
  have hcv := conv_const
  go_enter Try.func6, Try.ntmps6
  go_wp2_with fail
  refine (new11 _).mono ?_
  rintro e w1 ⟨c, g, h, rfl, hx1, hk1, hb1⟩
  have HA1 : Hid (w1.heap[w.heap.size]? = some AO) := kept (heap_new w AO) hb1
  have HX1 := hid hx1
  have HK1 := hid hk1
  have HB1 := hid (bstep (balloc w _) hb1)
  have hw1 : w.heap.size < w1.heap.size := heap_lt HA1.out
  have ha1 : ∀ o, w1.cell? ⟨w.heap.size, o, none⟩ = (#[.int .u8 2, .int .u8 0, .int .u8 0, .int .u8 0, .int .u8 0, .int .u8 10] : Array Value)[o]? := fun o => cell_of_heap HA1.out o
  clear hx1 hk1 hb1
  go_wp2_with fail
  refine (nic11 HX1.out).mono ?_
  rintro e w2 ⟨q, rfl, hx2, hq2, hb2⟩
  have I2 : Hid (LvI w w2 w2.heap.size q c g h (CS.new 1 1) NS.new [(w.heap.size, AO)]) := ⟨hx2, fun k hk => ⟨by
    rcases hk with rfl | hk
    · omega
    · have := HK1.out k hk; simp at this; omega, hx2.lt k hk⟩, Nat.le_refl _, (Holds.nil w2).cons (kept HA1.out hb2), fun p hp => by
      simp at hp
      subst hp
      rintro (e | hk)
      · simp only at e; omega
      · have := HK1.out _ hk; simp only [World.size_alloc] at this; omega, bstep HB1.out hb2⟩
  have ha2 : ∀ o, w2.cell? ⟨w.heap.size, o, none⟩ = (#[.int .u8 2, .int .u8 0, .int .u8 0, .int .u8 0, .int .u8 0, .int .u8 10] : Array Value)[o]? := fun o => cell_of_heap (kept HA1.out hb2) o
  have hw2 : w.heap.size < w2.heap.size := heap_lt (I2.out.ho.at 0 _ _ rfl)
  clear hx2 hq2 hb2 ha1 hw1 HA1 HX1 HK1 HB1
  go_wp2_with fail
  refine (nic10 w2).mono ?_
  rintro e w3 ⟨rfl, hb3⟩
  have I3 := hid (I2.out.below hb3)
  have ha3 : ∀ o, w3.cell? ⟨w.heap.size, o, none⟩ = (#[.int .u8 2, .int .u8 0, .int .u8 0, .int .u8 0, .int .u8 0, .int .u8 10] : Array Value)[o]? := fun o => cell_of_heap (I3.out.ho.at 0 _ _ rfl) o
  have hw3 : w.heap.size < w3.heap.size := heap_lt (I3.out.ho.at 0 _ _ rfl)
  clear I2 ha2 hw2 hb3
  go_wp2_with fail
  refine (own11 I3.out.nic).mono ?_
  rintro e w4 ⟨rfl, hb4⟩
  have I4 := hid (((I3.out.below hb4).push AO).push (.cells #[.int .u8 120] 5 (1, 2)))
  have ha4 : ∀ o, w4.cell? ⟨w.heap.size, o, none⟩ = (#[.int .u8 2, .int .u8 0, .int .u8 0, .int .u8 0, .int .u8 0, .int .u8 10] : Array Value)[o]? := fun o => cell_of_heap ((I3.out.below hb4).ho.at 0 _ _ rfl) o
  have hw4 : w.heap.size < w4.heap.size := heap_lt ((I3.out.below hb4).ho.at 0 _ _ rfl)
  simp only [World.size_alloc] at I4
  clear I3 ha3 hw3 hb4
  go_wp2_with fail
  refine (send1 I4.out.nic (I4.out.ho.at 0 _ _ rfl)).mono ?_
  rintro e w5 ⟨gb, cb, rfl, hx5, hr5, hn5, ho5⟩
  have I5 := hid (I4.out.step hx5 ho5)
  have HR5 := hid hr5
  have hnb : ¬ NicK q c g h gb := I4.out.not (by have := I4.out.top; omega)
  have ha5 : ∀ o, w5.cell? ⟨w.heap.size, o, none⟩ = (#[.int .u8 2, .int .u8 0, .int .u8 0, .int .u8 0, .int .u8 0, .int .u8 10] : Array Value)[o]? := fun o => cell_of_heap (I5.out.ho.at 2 _ _ rfl) o
  have hw5 : w.heap.size < w5.heap.size := heap_lt (I5.out.ho.at 2 _ _ rfl)
  have HNB := hid hnb
  clear I4 ha4 hw4 hx5 hr5 hn5 ho5 hnb
  go_wp2_with fail
  refine (send2 I5.out.nic).mono ?_
  rintro e w6 ⟨a6, l6, c6, rfl, hx6, ho6⟩
  have I6 := hid (I5.out.step hx6 ho6)
  have HR6 := hid (HR5.out.keep (w' := w6) fun b hb => by
    simp [Value.ownBlock] at hb
    subst hb
    exact ho6.block _ HNB.out (HR5.out.lt rfl))
  have ha6 : ∀ o, w6.cell? ⟨w.heap.size, o, none⟩ = (#[.int .u8 2, .int .u8 0, .int .u8 0, .int .u8 0, .int .u8 0, .int .u8 10] : Array Value)[o]? := fun o => cell_of_heap (I6.out.ho.at 2 _ _ rfl) o
  have hw6 : w.heap.size < w6.heap.size := heap_lt (I6.out.ho.at 2 _ _ rfl)
  clear I5 HR5 ha5 hw5 hx6 ho6
  go_wp2_with fail
  refine (send3 I6.out.nic).mono ?_
  rintro e w7 ⟨a7, l7, c7, rfl, hx7, ho7⟩
  have I7 := hid (I6.out.step hx7 ho7)
  have HR7 := hid (HR6.out.keep (w' := w7) fun b hb => by
    simp [Value.ownBlock] at hb
    subst hb
    exact ho7.block _ HNB.out (HR6.out.lt rfl))
  clear I6 HR6 ha6 hw6 hx7 ho7
  go_wp2_with fail
  refine (depart1 I7.out.nic).mono ?_
  rintro e w8 ⟨gd, rfl, hx8, hn8, hd8, ho8⟩
  have I8 := hid ((I7.out.step hx8 ho8).add gd LX hd8 (I7.out.not (by have := I7.out.top; omega)))
  have HR8 := hid (HR7.out.keep (w' := w8) fun b hb => by
    simp [Value.ownBlock] at hb
    subst hb
    exact ho8.block _ HNB.out (HR7.out.lt rfl))
  clear I7 HR7 hx8 hn8 hd8 ho8
  go_wp2_with fail
  refine (arrive1 I8.out.nic HR8.out).mono ?_
  rintro e w9 ⟨rfl, hx9, ho9⟩
  have I9 := hid (I8.out.step hx9 ho9)
  have HR9 := hid (HR8.out.keep (w' := w9) fun b hb => by
    simp [Value.ownBlock] at hb
    subst hb
    exact ho9.block _ HNB.out (HR8.out.lt rfl))
  clear I8 HR8 hx9 ho9
  go_wp2_with fail
  refine (poll1 I9.out.nic).mono ?_
  rintro e w10 ⟨gl, cl, rfl, hx10, hk10, hl10, hn10, hc10, ho10⟩
  have I10 := hid (I9.out.step hx10 ho10)
  have HR10 := hid (HR9.out.keep (w' := w10) fun b hb => by
    simp [Value.ownBlock] at hb
    subst hb
    exact ho10.block _ HNB.out (HR9.out.lt rfl))
  have HK10 := hid hk10
  have hc10' : (1 : Int) ≤ cl := by omega
  clear I9 HR9 hx10 ho10 hk10 hn10
  go_wp2_with fail
  refine (stats11 I10.out.nic).mono ?_
  rintro e w11 ⟨rfl, hb11⟩
  have I11 := hid (I10.out.below hb11)
  have HR11 := hid (HR10.out.below hb11)
  have hk11 : w11.cell? ⟨gl, 12, none⟩ = some (.int .i64 2054) := cell_below hb11 HK10.out
  have hl11 : gl < w11.heap.size := by have := hb11.size; omega
  have ha11 : ∀ o, w11.cell? ⟨w.heap.size, o, none⟩ = (#[.int .u8 2, .int .u8 0, .int .u8 0, .int .u8 0, .int .u8 0, .int .u8 10] : Array Value)[o]? := fun o => cell_of_heap (I11.out.ho.at 3 _ _ rfl) o
  have hw11 : w.heap.size < w11.heap.size := heap_lt (I11.out.ho.at 3 _ _ rfl)
  have hb12 : ∀ o, w11.cell? ⟨w4.heap.size, o, none⟩ = (#[.int .u8 2, .int .u8 0, .int .u8 0, .int .u8 0, .int .u8 0, .int .u8 10] : Array Value)[o]? := fun o => cell_of_heap (I11.out.ho.at 2 _ _ rfl) o
  have hw12 : w4.heap.size < w11.heap.size := heap_lt (I11.out.ho.at 2 _ _ rfl)
  have k1 : ∀ ob, (convert 43 9 (.slice (some ⟨gd, 0, none⟩) 60 60)).run Try.prog (w11.alloc ob) = .ok (.string (strOfNums LB)) (w11.alloc ob) := fun ob => conv_part ⟨some ⟨gd, 0, none⟩, 60, LB⟩ _ (Part.of_row ((I11.out.below (balloc w11 ob)).ho.at 0 _ _ rfl) (by rw [LB_len]; omega) LB_bd)
  have k2 : ∀ ob, (convert 43 9 (.slice (some ⟨gb, 0, none⟩) 60 cb)).run Try.prog (w11.alloc ob) = .ok (.string (strOfNums LB)) (w11.alloc ob) := fun ob => (HR11.out.below (balloc w11 ob)).conv0 LB_bd
  have q1 := mac_eq aM aM aM_ok aM_ok
  rw [decide_eq_true rfl] at q1
  simp only [Mac.val, aM] at q1
  have st : (strOfNums LB == strOfNums LB) = true := by
    cases strOfNums LB with | mk d => show (d == d) = true; simp
  generalize strOfNums LB = SX at *
  clear I10 HR10 HK10 hb11
  go_wp2_with fail
  go_ret
  exact ⟨rfl, bpush I11.out.bel _⟩
end Go.Proofs.Ytddcmholjhkmbaa
