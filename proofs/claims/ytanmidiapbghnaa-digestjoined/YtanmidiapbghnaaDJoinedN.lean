/-
  The walk of the statement DigestJoined.
-/
import Derived.Test.YtanmidiapbghnaaDJoinK
import Derived.Deep.DeepCutAuto
namespace Go.Proofs.Ytanmidiapbghnaa
open Go.RowKit
set_option linter.unusedVariables false
set_option linter.unusedSimpArgs false


set_option maxRecDepth 20000 in
set_option maxHeartbeats 1000000 in
theorem joined_nv (OK : World → Prop) (off : Nat → Prop) (a0 a1 a2 a3 : Option Addr) (L l1 l2 l3 c0 c1 c2 c3 I K : Nat) (H0 H1 H2 H3 : Array Value) (A C M : List Int) (J : Hid (JC OK off a0 a1 a2 a3 L l1 l2 l3 c0 c1 c2 c3 I K H0 H1 H2 H3 A C M))
    (i k : Int) (d : List Int) (s : ByteArray) (w : World) (hok : OK w) (hd : isSha d) (hs : s.size ≤ maxLen) (hi : i < 0) (htd : (L : Int).tdiv 2 = (I : Int)) (hib : (I : Int) ≤ 2147483647) (hil : (I : Int) ≤ (L : Int)) (hk0 : ¬ (K : Int) < (I : Int)) (hk1 : ¬ (L : Int) < (K : Int)) :
    Calls Try.prog 7 #[.slice a0 L c0, .int .i64 i, .int .i64 (K : Int), .agg (u8s d).toArray, .string s] w fun e w' => e = .returned (.bool true) ∧ Below w.heap.size w w' := by
  have HOK : Hid (OK w) := hok
  have HD : Hid (isSha d) := hd
  have HSM : Hid (s.size ≤ maxLen) := hs
  have hlD : (u8s d).length = 32 := by rw [u8s_len, hd.1]
  have hlA : (u8s A).length = 32 := by rw [u8s_len, J.out.shA.1]
  have hlC : (u8s C).length = 32 := by rw [u8s_len, J.out.shC.1]
  have hzl := z32_len
  have HUX := hid (unhex_back d hd)
  have HUS := hid (unhex_some s hs)
  have hsD := store_new 26 (u8s d) 32 size32 hlD (u8s_one d)
  have eqA := eq_same A J.out.shA
  have eqC := eq_same C J.out.shC
  have eqD := eq_same d hd
  have hsA := store_new 26 (u8s A) 32 size32 hlA (u8s_one A)
  have hsC := store_new 26 (u8s C) 32 size32 hlC (u8s_one C)
  have HH0 : Hid (Holds (w.alloc (.cells (u8s d).toArray 26)) _) := (Holds.nil w).push (.cells (u8s d).toArray 26)
  have HB0 : Hid (Below w.heap.size w (w.alloc (.cells (u8s d).toArray 26))) := bpush (Below.refl _ _) _
  clear hok hd hs
  go_enter Try.func7, Try.ntmps7
  go_wp2_with fail
  refine (live_any _).mono ?_
  rintro e w1 ⟨rfl, hb1⟩
  have HH1 : Hid (Holds w1 _) := HH0.out.below hb1
  have HB1 : Hid (Below w.heap.size w w1) := bstep HB0.out hb1
  clear hb1 HH0 HB0
  go_wp2_with fail
  refine (J.out.bey _ _ (cell_one w1 _ _)).mono ?_
  rintro e w1' ⟨rfl, rfl⟩
  go_wp2_with fail
  refine (J.out.s1 _ _ (J.out.okb _ _ HOK.out (bpush (bpush HB1.out _) _)) (cell_one' w1 _ _ _)).mono ?_
  rintro e w2 ⟨rfl, hb2⟩
  have HH2 : Hid (Holds (w2.alloc (.cells (u8s A).toArray 26)) _) := (((HH1.out.more _).more _).below hb2).push (.cells (u8s A).toArray 26)
  have HB2 : Hid (Below w.heap.size w (w2.alloc (.cells (u8s A).toArray 26))) := bpush (bstep (bpush (bpush HB1.out _) _) hb2) _
  clear hb2 HH1 HB1
  have sl1 := J.out.to
  have sl2 := J.out.mid
  have sl3 := J.out.fr
  --S1
  go_upto_region 12 with fail
  go_cut [14] (fun s14 wx => ∃ g3, s14 = .pointer (some ⟨g3, 0, none⟩) ∧ Holds wx ((g3, .cells (u8s A).toArray 26) :: (w2.heap.size, .cells (u8s A).toArray 26) :: (w.heap.size, .cells (u8s d).toArray 26) :: []) ∧ Below w.heap.size w wx)
  case first =>
    go_region_with (first
      | (go_at_call 11
         refine (J.out.s4 _ _ ?_ ?_).mono ?_
         · first
           | exact J.out.okb _ _ HOK.out (bpush HB2.out _).drew
           | exact J.out.okb _ _ HOK.out (bpush (bpush HB2.out _) _).drew
         · first
           | exact heap_two w2 _ _
           | exact heap_mid w2 _ _ _
           | exact heap_three w2 _ _ _
         rintro en w3 ⟨rfl, hb3⟩
         have HB3 := hid hb3
         first
         | (have hst := store_kept A J.out.shA.1 (w2.heap.size + 1) _ (by rfl) (heap_mid w2 _ _ _) hb3; clear hb3)
         | (have hst := store_kept A J.out.shA.1 (w2.heap.size + 2) _ (by rfl) (heap_three w2 _ _ _) hb3; clear hb3)
         | clear hb3))
    all_goals (go_wp2_with fail; go_meet)
    all_goals first
      | exact ⟨_, rfl, meet_new HH2.out HB2.out (bpush (Below.refl _ _) _).drew HB3.out _⟩
      | exact ⟨_, rfl, meet_kept HH2.out HB2.out (bpush (bpush (Below.refl _ _) _) _).drew HB3.out (w2.heap.size + 1) _ _ _ (heap_mid w2 _ _ _) (by simp)⟩
      | exact ⟨_, rfl, meet_kept HH2.out HB2.out (bpush (bpush (Below.refl _ _) _) _).drew HB3.out (w2.heap.size + 2) _ _ _ (heap_three w2 _ _ _) (by simp)⟩
  case rest =>
  obtain ⟨g3, rfl, hh3, hb3⟩ := hcut
  have HH3 := hid hh3
  have HB3 := hid hb3
  clear hh3 hb3 HH2 HB2
  generalize w2.heap.size = g2 at *
  --S3
  go_wp2_with fail
  refine (J.out.nw _).mono ?_
  rintro e w4 ⟨rfl, rfl⟩
  have HH4 : Hid (Holds (wc.alloc (.cells H0 56)) _) := HH3.out.more (.cells H0 56)
  have HX4 : Hid ((wc.alloc (.cells H0 56)).heap[wc.heap.size]? = some (.cells H0 56)) := heap_alloc_new _ _
  have HB4 : Hid (Below w.heap.size w (wc.alloc (.cells H0 56))) := bpush HB3.out _
  have HG : Hid (w.heap.size ≤ wc.heap.size) := HB3.out.size
  have HOF : Hid (off wc.heap.size) := J.out.offn _ _ HOK.out HB3.out.size
  have HNE := hid (lt_off HH3.out)
  clear HB3 HH3
  --S4
  go_wp2_with fail
  refine (J.out.w1 _ _ (J.out.okb _ _ HOK.out HB4.out) HOF.out HX4.out).mono ?_
  rintro e w5 ⟨rfl, hx5, hb5⟩
  have HX5 := hid hx5
  have HH5 := hid (HH4.out.but hb5 HNE.out)
  have HB5 := hid (bbut HB4.out hb5 HG.out)
  generalize wc.heap.size = gH at *
  clear hx5 hb5 HX4 HH4 HB4
  go_wp2_with fail
  refine (J.out.h1 _ _ HX5.out).mono ?_
  rintro e w6 ⟨rfl, hb6⟩
  have HX6 := hid (keep_new HX5.out hb6 (.cells (u8s C).toArray 26))
  have HH6 := hid ((HH5.out.below hb6).push (.cells (u8s C).toArray 26))
  have HB6 := hid (bpush (bstep HB5.out hb6) (.cells (u8s C).toArray 26))
  have HNE6 := hid (off_cons HNE.out (.cells (u8s C).toArray 26) (new_off HX5.out hb6))
  clear hb6 HX5 HH5 HB5 HNE
  go_wp2_with fail
  refine (J.out.w2 _ _ (J.out.okb _ _ HOK.out HB6.out) HOF.out HX6.out).mono ?_
  rintro e w7 ⟨rfl, hx7, hb7⟩
  have HX7 := hid hx7
  have HH7 := hid (HH6.out.but hb7 HNE6.out)
  have HB7 := hid (bbut HB6.out hb7 HG.out)
  generalize w6.heap.size = g6 at *
  clear hx7 hb7 HX6 HH6 HB6
  go_wp2_with fail
  refine (J.out.wn _ _ HX7.out).mono ?_
  rintro e w8 ⟨rfl, hx8, hb8⟩
  have HX8 := hid hx8
  have HH8 := hid (HH7.out.but hb8 HNE6.out)
  have HB8 := hid (bbut HB7.out hb8 HG.out)
  clear hx8 hb8 HX7 HH7 HB7
  go_wp2_with fail
  refine (J.out.h2 _ _ HX8.out).mono ?_
  rintro e w9 ⟨rfl, hb9⟩
  have HX9 := hid (kept_at HX8.out hb9)
  have HH9 := hid (HH8.out.below hb9)
  have HB9 := hid (bstep HB8.out hb9)
  clear hb9 HX8 HH8 HB8
  go_wp2_with fail
  refine (J.out.w3 _ _ (J.out.okb _ _ HOK.out HB9.out) HOF.out HX9.out).mono ?_
  rintro e w10 ⟨rfl, hx10, hb10⟩
  have HX10 := hid hx10
  have HH10 := hid (HH9.out.but hb10 HNE6.out)
  have HB10 := hid (bbut HB9.out hb10 HG.out)
  clear hx10 hb10 HX9 HH9 HB9
  go_wp2_with fail
  refine (J.out.h3 _ _ HX10.out).mono ?_
  rintro e w11 ⟨rfl, hb11⟩
  have HX11 := hid (keep_new HX10.out hb11 (.cells (u8s A).toArray 26))
  have HH11 := hid ((HH10.out.below hb11).push (.cells (u8s A).toArray 26))
  have HB11 := hid (bpush (bstep HB10.out hb11) (.cells (u8s A).toArray 26))
  clear hb11 HX10 HH10 HB10 HNE6
  --S5
  go_wp2_with fail
  refine (J.out.s1i _ _ (J.out.okb _ _ HOK.out (bpush HB11.out _)) (cell_one' w11 _ _ _)).mono ?_
  rintro e w12 ⟨rfl, hb12⟩
  have HX12 := hid (keep_new (keep_new HX11.out (Below.refl _ _) _) hb12 (.cells (u8s C).toArray 26))
  have HH12 := hid (((HH11.out.more _).below hb12).push (.cells (u8s C).toArray 26))
  have HB12 := hid (bpush (bstep (bpush HB11.out _) hb12) (.cells (u8s C).toArray 26))
  generalize w11.heap.size = g11 at *
  clear hb12 HX11 HH11 HB11
  go_wp2_with fail
  refine (J.out.ln _ _ HX12.out).mono ?_
  rintro e w12' ⟨rfl, rfl⟩
  --S6
  go_wp2_with (first
    | (refine wpList_load_w (by rfl) 26 _ rfl g2 rfl 26 (u8s A).toArray (0, 0) _ (HH12.out.at 4 _ _ rfl) Try.underlying26 rfl (by rw [size32]; simp [hlA]) ?_)
    | (refine wpList_load_w (by rfl) 26 _ rfl g3 rfl 26 (u8s A).toArray (0, 0) _ (HH12.out.at 3 _ _ rfl) Try.underlying26 rfl (by rw [size32]; simp [hlA]) ?_)
    | (refine wpList_load_w (by rfl) 26 _ rfl g11 rfl 26 (u8s A).toArray (0, 0) _ (HH12.out.at 1 _ _ rfl) Try.underlying26 rfl (by rw [size32]; simp [hlA]) ?_)
    | (refine wpList_load_w (by rfl) 26 _ rfl g6 rfl 26 (u8s C).toArray (0, 0) _ (HH12.out.at 2 _ _ rfl) Try.underlying26 rfl (by rw [size32]; simp [hlC]) ?_)
    | (refine wpList_load_w (by rfl) 26 _ rfl w12.heap.size rfl 26 (u8s C).toArray (0, 0) _ (HH12.out.at 0 _ _ rfl) Try.underlying26 rfl (by rw [size32]; simp [hlC]) ?_)
    | (refine wpList_load_row rfl 26 _ rfl w.heap.size rfl 26 (u8s d).toArray (0, 0) _ (HH12.out.at 5 _ _ rfl) Try.underlying26 rfl (by rw [size32]; simp [hlD]) ?_))
  refine (hex_any d _ HD.out.1 HD.out.2).mono ?_
  rintro e w13 ⟨rfl, hb13⟩
  have HH13 := hid (HH12.out.below hb13)
  have HB13 := hid (bstep HB12.out hb13)
  clear hb13 HH12 HB12 HX12
  --S7
  go_wp2_with fail
  refine (HUX.out _).mono ?_
  rintro e w14 ⟨rfl, hb14⟩
  have HH14 := hid ((HH13.out.below hb14).push (.cells (u8s d).toArray 26))
  have HB14 := hid (bpush (bstep HB13.out hb14) (.cells (u8s d).toArray 26))
  clear hb14 HH13 HB13
  --S8
  obtain ⟨S, f, hS, hf, hu⟩ := HUS.out
  have HS := hid hS
  have HF := hid hf
  have HU := hid hu
  have hlS : (u8s S).length = 32 := by rw [u8s_len, hS.1]
  have hsS := store_new 26 (u8s S) 32 size32 hlS (u8s_one S)
  clear hS hf hu
  go_wp2_with fail
  refine (HU.out _).mono ?_
  rintro e w15 ⟨rfl, hb15⟩
  have HH15 := hid ((HH14.out.below hb15).push (.cells (u8s S).toArray 26))
  have HB15 := hid (bpush (bstep HB14.out hb15) (.cells (u8s S).toArray 26))
  generalize w14.heap.size = g14 at *
  clear hb15 HH14 HB14
  --S9
  rcases HF.out with ⟨rfl, hx⟩ | rfl
  · go_wp2_with (first
      | (refine wpList_load_row rfl 26 _ rfl w15.heap.size rfl 26 (u8s S).toArray (0, 0) _ (HH15.out.at 0 _ _ rfl) Try.underlying26 rfl (by rw [size32]; simp [hlS]) ?_))
    refine (hex_any S _ HS.out.1 HS.out.2).mono ?_
    rintro e w16 ⟨rfl, hb16⟩
    rw [hx]
    have HH16 := hid (HH15.out.below hb16)
    have HB16 := hid (bstep HB15.out hb16)
    clear hb16 HH15 HB15 hx
    go_wp2_with (first
      | (refine wpList_load_w (by rfl) 26 _ rfl g14 rfl 26 (u8s d).toArray (0, 0) _ (HH16.out.at 1 _ _ rfl) Try.underlying26 rfl (by rw [size32]; simp [hlD]) ?_)
      | (refine wpList_load_w (by rfl) 26 _ rfl w.heap.size rfl 26 (u8s d).toArray (0, 0) _ (HH16.out.at 7 _ _ rfl) Try.underlying26 rfl (by rw [size32]; simp [hlD]) ?_))
    go_ret
    exact ⟨rfl, HB16.out⟩
  · go_wp2_with (first
      | (refine wpList_load_w (by rfl) 26 _ rfl g14 rfl 26 (u8s d).toArray (0, 0) _ (HH15.out.at 1 _ _ rfl) Try.underlying26 rfl (by rw [size32]; simp [hlD]) ?_)
      | (refine wpList_load_w (by rfl) 26 _ rfl w.heap.size rfl 26 (u8s d).toArray (0, 0) _ (HH15.out.at 7 _ _ rfl) Try.underlying26 rfl (by rw [size32]; simp [hlD]) ?_))
    go_ret
    exact ⟨rfl, HB15.out⟩


set_option maxRecDepth 20000 in
set_option maxHeartbeats 1000000 in
theorem joined_nn (OK : World → Prop) (off : Nat → Prop) (a0 a1 a2 a3 : Option Addr) (L l1 l2 l3 c0 c1 c2 c3 I : Nat) (H0 H1 H2 H3 : Array Value) (A C M : List Int) (J : Hid (JC OK off a0 a1 a2 a3 L l1 l2 l3 c0 c1 c2 c3 I I H0 H1 H2 H3 A C M))
    (i k : Int) (d : List Int) (s : ByteArray) (w : World) (hok : OK w) (hd : isSha d) (hs : s.size ≤ maxLen) (hi : i < 0) (htd : (L : Int).tdiv 2 = (I : Int)) (hib : (I : Int) ≤ 2147483647) (hil : (I : Int) ≤ (L : Int)) (hk : k < (I : Int)) :
    Calls Try.prog 7 #[.slice a0 L c0, .int .i64 i, .int .i64 k, .agg (u8s d).toArray, .string s] w fun e w' => e = .returned (.bool true) ∧ Below w.heap.size w w' := by
  have HOK : Hid (OK w) := hok
  have HD : Hid (isSha d) := hd
  have HSM : Hid (s.size ≤ maxLen) := hs
  have hlD : (u8s d).length = 32 := by rw [u8s_len, hd.1]
  have hlA : (u8s A).length = 32 := by rw [u8s_len, J.out.shA.1]
  have hlC : (u8s C).length = 32 := by rw [u8s_len, J.out.shC.1]
  have hzl := z32_len
  have HUX := hid (unhex_back d hd)
  have HUS := hid (unhex_some s hs)
  have hsD := store_new 26 (u8s d) 32 size32 hlD (u8s_one d)
  have eqA := eq_same A J.out.shA
  have eqC := eq_same C J.out.shC
  have eqD := eq_same d hd
  have hsA := store_new 26 (u8s A) 32 size32 hlA (u8s_one A)
  have hsC := store_new 26 (u8s C) 32 size32 hlC (u8s_one C)
  have HH0 : Hid (Holds (w.alloc (.cells (u8s d).toArray 26)) _) := (Holds.nil w).push (.cells (u8s d).toArray 26)
  have HB0 : Hid (Below w.heap.size w (w.alloc (.cells (u8s d).toArray 26))) := bpush (Below.refl _ _) _
  clear hok hd hs
  go_enter Try.func7, Try.ntmps7
  go_wp2_with fail
  refine (live_any _).mono ?_
  rintro e w1 ⟨rfl, hb1⟩
  have HH1 : Hid (Holds w1 _) := HH0.out.below hb1
  have HB1 : Hid (Below w.heap.size w w1) := bstep HB0.out hb1
  clear hb1 HH0 HB0
  go_wp2_with fail
  refine (J.out.bey _ _ (cell_one w1 _ _)).mono ?_
  rintro e w1' ⟨rfl, rfl⟩
  go_wp2_with fail
  refine (J.out.s1 _ _ (J.out.okb _ _ HOK.out (bpush (bpush HB1.out _) _)) (cell_one' w1 _ _ _)).mono ?_
  rintro e w2 ⟨rfl, hb2⟩
  have HH2 : Hid (Holds (w2.alloc (.cells (u8s A).toArray 26)) _) := (((HH1.out.more _).more _).below hb2).push (.cells (u8s A).toArray 26)
  have HB2 : Hid (Below w.heap.size w (w2.alloc (.cells (u8s A).toArray 26))) := bpush (bstep (bpush (bpush HB1.out _) _) hb2) _
  clear hb2 HH1 HB1
  have sl1 := J.out.to
  have sl2 := J.out.mid
  have sl3 := J.out.fr
  --S1
  go_upto_region 12 with fail
  go_cut [14] (fun s14 wx => ∃ g3, s14 = .pointer (some ⟨g3, 0, none⟩) ∧ Holds wx ((g3, .cells (u8s A).toArray 26) :: (w2.heap.size, .cells (u8s A).toArray 26) :: (w.heap.size, .cells (u8s d).toArray 26) :: []) ∧ Below w.heap.size w wx)
  case first =>
    go_region_with (first
      | (go_at_call 11
         refine (J.out.s4 _ _ ?_ ?_).mono ?_
         · first
           | exact J.out.okb _ _ HOK.out (bpush HB2.out _).drew
           | exact J.out.okb _ _ HOK.out (bpush (bpush HB2.out _) _).drew
         · first
           | exact heap_two w2 _ _
           | exact heap_mid w2 _ _ _
           | exact heap_three w2 _ _ _
         rintro en w3 ⟨rfl, hb3⟩
         have HB3 := hid hb3
         first
         | (have hst := store_kept A J.out.shA.1 (w2.heap.size + 1) _ (by rfl) (heap_mid w2 _ _ _) hb3; clear hb3)
         | (have hst := store_kept A J.out.shA.1 (w2.heap.size + 2) _ (by rfl) (heap_three w2 _ _ _) hb3; clear hb3)
         | clear hb3))
    all_goals (go_wp2_with fail; go_meet)
    all_goals first
      | exact ⟨_, rfl, meet_new HH2.out HB2.out (bpush (Below.refl _ _) _).drew HB3.out _⟩
      | exact ⟨_, rfl, meet_kept HH2.out HB2.out (bpush (bpush (Below.refl _ _) _) _).drew HB3.out (w2.heap.size + 1) _ _ _ (heap_mid w2 _ _ _) (by simp)⟩
      | exact ⟨_, rfl, meet_kept HH2.out HB2.out (bpush (bpush (Below.refl _ _) _) _).drew HB3.out (w2.heap.size + 2) _ _ _ (heap_three w2 _ _ _) (by simp)⟩
  case rest =>
  obtain ⟨g3, rfl, hh3, hb3⟩ := hcut
  have HH3 := hid hh3
  have HB3 := hid hb3
  clear hh3 hb3 HH2 HB2
  generalize w2.heap.size = g2 at *
  --S3
  go_wp2_with fail
  refine (J.out.nw _).mono ?_
  rintro e w4 ⟨rfl, rfl⟩
  have HH4 : Hid (Holds (wc.alloc (.cells H0 56)) _) := HH3.out.more (.cells H0 56)
  have HX4 : Hid ((wc.alloc (.cells H0 56)).heap[wc.heap.size]? = some (.cells H0 56)) := heap_alloc_new _ _
  have HB4 : Hid (Below w.heap.size w (wc.alloc (.cells H0 56))) := bpush HB3.out _
  have HG : Hid (w.heap.size ≤ wc.heap.size) := HB3.out.size
  have HOF : Hid (off wc.heap.size) := J.out.offn _ _ HOK.out HB3.out.size
  have HNE := hid (lt_off HH3.out)
  clear HB3 HH3
  --S4
  go_wp2_with fail
  refine (J.out.w1 _ _ (J.out.okb _ _ HOK.out HB4.out) HOF.out HX4.out).mono ?_
  rintro e w5 ⟨rfl, hx5, hb5⟩
  have HX5 := hid hx5
  have HH5 := hid (HH4.out.but hb5 HNE.out)
  have HB5 := hid (bbut HB4.out hb5 HG.out)
  generalize wc.heap.size = gH at *
  clear hx5 hb5 HX4 HH4 HB4
  go_wp2_with fail
  refine (J.out.h1 _ _ HX5.out).mono ?_
  rintro e w6 ⟨rfl, hb6⟩
  have HX6 := hid (keep_new HX5.out hb6 (.cells (u8s C).toArray 26))
  have HH6 := hid ((HH5.out.below hb6).push (.cells (u8s C).toArray 26))
  have HB6 := hid (bpush (bstep HB5.out hb6) (.cells (u8s C).toArray 26))
  have HNE6 := hid (off_cons HNE.out (.cells (u8s C).toArray 26) (new_off HX5.out hb6))
  clear hb6 HX5 HH5 HB5 HNE
  go_wp2_with fail
  refine (J.out.w2 _ _ (J.out.okb _ _ HOK.out HB6.out) HOF.out HX6.out).mono ?_
  rintro e w7 ⟨rfl, hx7, hb7⟩
  have HX7 := hid hx7
  have HH7 := hid (HH6.out.but hb7 HNE6.out)
  have HB7 := hid (bbut HB6.out hb7 HG.out)
  generalize w6.heap.size = g6 at *
  clear hx7 hb7 HX6 HH6 HB6
  go_wp2_with fail
  refine (J.out.wn _ _ HX7.out).mono ?_
  rintro e w8 ⟨rfl, hx8, hb8⟩
  have HX8 := hid hx8
  have HH8 := hid (HH7.out.but hb8 HNE6.out)
  have HB8 := hid (bbut HB7.out hb8 HG.out)
  clear hx8 hb8 HX7 HH7 HB7
  go_wp2_with fail
  refine (J.out.h2 _ _ HX8.out).mono ?_
  rintro e w9 ⟨rfl, hb9⟩
  have HX9 := hid (kept_at HX8.out hb9)
  have HH9 := hid (HH8.out.below hb9)
  have HB9 := hid (bstep HB8.out hb9)
  clear hb9 HX8 HH8 HB8
  go_wp2_with fail
  refine (J.out.w3 _ _ (J.out.okb _ _ HOK.out HB9.out) HOF.out HX9.out).mono ?_
  rintro e w10 ⟨rfl, hx10, hb10⟩
  have HX10 := hid hx10
  have HH10 := hid (HH9.out.but hb10 HNE6.out)
  have HB10 := hid (bbut HB9.out hb10 HG.out)
  clear hx10 hb10 HX9 HH9 HB9
  go_wp2_with fail
  refine (J.out.h3 _ _ HX10.out).mono ?_
  rintro e w11 ⟨rfl, hb11⟩
  have HX11 := hid (keep_new HX10.out hb11 (.cells (u8s A).toArray 26))
  have HH11 := hid ((HH10.out.below hb11).push (.cells (u8s A).toArray 26))
  have HB11 := hid (bpush (bstep HB10.out hb11) (.cells (u8s A).toArray 26))
  clear hb11 HX10 HH10 HB10 HNE6
  --S5
  go_wp2_with fail
  refine (J.out.s1i _ _ (J.out.okb _ _ HOK.out (bpush HB11.out _)) (cell_one' w11 _ _ _)).mono ?_
  rintro e w12 ⟨rfl, hb12⟩
  have HX12 := hid (keep_new (keep_new HX11.out (Below.refl _ _) _) hb12 (.cells (u8s C).toArray 26))
  have HH12 := hid (((HH11.out.more _).below hb12).push (.cells (u8s C).toArray 26))
  have HB12 := hid (bpush (bstep (bpush HB11.out _) hb12) (.cells (u8s C).toArray 26))
  generalize w11.heap.size = g11 at *
  clear hb12 HX11 HH11 HB11
  go_wp2_with fail
  refine (J.out.ln _ _ HX12.out).mono ?_
  rintro e w12' ⟨rfl, rfl⟩
  --S6
  go_wp2_with (first
    | (refine wpList_load_w (by rfl) 26 _ rfl g2 rfl 26 (u8s A).toArray (0, 0) _ (HH12.out.at 4 _ _ rfl) Try.underlying26 rfl (by rw [size32]; simp [hlA]) ?_)
    | (refine wpList_load_w (by rfl) 26 _ rfl g3 rfl 26 (u8s A).toArray (0, 0) _ (HH12.out.at 3 _ _ rfl) Try.underlying26 rfl (by rw [size32]; simp [hlA]) ?_)
    | (refine wpList_load_w (by rfl) 26 _ rfl g11 rfl 26 (u8s A).toArray (0, 0) _ (HH12.out.at 1 _ _ rfl) Try.underlying26 rfl (by rw [size32]; simp [hlA]) ?_)
    | (refine wpList_load_w (by rfl) 26 _ rfl g6 rfl 26 (u8s C).toArray (0, 0) _ (HH12.out.at 2 _ _ rfl) Try.underlying26 rfl (by rw [size32]; simp [hlC]) ?_)
    | (refine wpList_load_w (by rfl) 26 _ rfl w12.heap.size rfl 26 (u8s C).toArray (0, 0) _ (HH12.out.at 0 _ _ rfl) Try.underlying26 rfl (by rw [size32]; simp [hlC]) ?_)
    | (refine wpList_load_row rfl 26 _ rfl w.heap.size rfl 26 (u8s d).toArray (0, 0) _ (HH12.out.at 5 _ _ rfl) Try.underlying26 rfl (by rw [size32]; simp [hlD]) ?_))
  refine (hex_any d _ HD.out.1 HD.out.2).mono ?_
  rintro e w13 ⟨rfl, hb13⟩
  have HH13 := hid (HH12.out.below hb13)
  have HB13 := hid (bstep HB12.out hb13)
  clear hb13 HH12 HB12 HX12
  --S7
  go_wp2_with fail
  refine (HUX.out _).mono ?_
  rintro e w14 ⟨rfl, hb14⟩
  have HH14 := hid ((HH13.out.below hb14).push (.cells (u8s d).toArray 26))
  have HB14 := hid (bpush (bstep HB13.out hb14) (.cells (u8s d).toArray 26))
  clear hb14 HH13 HB13
  --S8
  obtain ⟨S, f, hS, hf, hu⟩ := HUS.out
  have HS := hid hS
  have HF := hid hf
  have HU := hid hu
  have hlS : (u8s S).length = 32 := by rw [u8s_len, hS.1]
  have hsS := store_new 26 (u8s S) 32 size32 hlS (u8s_one S)
  clear hS hf hu
  go_wp2_with fail
  refine (HU.out _).mono ?_
  rintro e w15 ⟨rfl, hb15⟩
  have HH15 := hid ((HH14.out.below hb15).push (.cells (u8s S).toArray 26))
  have HB15 := hid (bpush (bstep HB14.out hb15) (.cells (u8s S).toArray 26))
  generalize w14.heap.size = g14 at *
  clear hb15 HH14 HB14
  --S9
  rcases HF.out with ⟨rfl, hx⟩ | rfl
  · go_wp2_with (first
      | (refine wpList_load_row rfl 26 _ rfl w15.heap.size rfl 26 (u8s S).toArray (0, 0) _ (HH15.out.at 0 _ _ rfl) Try.underlying26 rfl (by rw [size32]; simp [hlS]) ?_))
    refine (hex_any S _ HS.out.1 HS.out.2).mono ?_
    rintro e w16 ⟨rfl, hb16⟩
    rw [hx]
    have HH16 := hid (HH15.out.below hb16)
    have HB16 := hid (bstep HB15.out hb16)
    clear hb16 HH15 HB15 hx
    go_wp2_with (first
      | (refine wpList_load_w (by rfl) 26 _ rfl g14 rfl 26 (u8s d).toArray (0, 0) _ (HH16.out.at 1 _ _ rfl) Try.underlying26 rfl (by rw [size32]; simp [hlD]) ?_)
      | (refine wpList_load_w (by rfl) 26 _ rfl w.heap.size rfl 26 (u8s d).toArray (0, 0) _ (HH16.out.at 7 _ _ rfl) Try.underlying26 rfl (by rw [size32]; simp [hlD]) ?_))
    go_ret
    exact ⟨rfl, HB16.out⟩
  · go_wp2_with (first
      | (refine wpList_load_w (by rfl) 26 _ rfl g14 rfl 26 (u8s d).toArray (0, 0) _ (HH15.out.at 1 _ _ rfl) Try.underlying26 rfl (by rw [size32]; simp [hlD]) ?_)
      | (refine wpList_load_w (by rfl) 26 _ rfl w.heap.size rfl 26 (u8s d).toArray (0, 0) _ (HH15.out.at 7 _ _ rfl) Try.underlying26 rfl (by rw [size32]; simp [hlD]) ?_))
    go_ret
    exact ⟨rfl, HB15.out⟩


set_option maxRecDepth 20000 in
set_option maxHeartbeats 1000000 in
theorem joined_no (OK : World → Prop) (off : Nat → Prop) (a0 a1 a2 a3 : Option Addr) (L l1 l2 l3 c0 c1 c2 c3 I : Nat) (H0 H1 H2 H3 : Array Value) (A C M : List Int) (J : Hid (JC OK off a0 a1 a2 a3 L l1 l2 l3 c0 c1 c2 c3 I I H0 H1 H2 H3 A C M))
    (i k : Int) (d : List Int) (s : ByteArray) (w : World) (hok : OK w) (hd : isSha d) (hs : s.size ≤ maxLen) (hi : i < 0) (htd : (L : Int).tdiv 2 = (I : Int)) (hib : (I : Int) ≤ 2147483647) (hil : (I : Int) ≤ (L : Int)) (hk0 : ¬ k < (I : Int)) (hk : (L : Int) < k) :
    Calls Try.prog 7 #[.slice a0 L c0, .int .i64 i, .int .i64 k, .agg (u8s d).toArray, .string s] w fun e w' => e = .returned (.bool true) ∧ Below w.heap.size w w' := by
  have HOK : Hid (OK w) := hok
  have HD : Hid (isSha d) := hd
  have HSM : Hid (s.size ≤ maxLen) := hs
  have hlD : (u8s d).length = 32 := by rw [u8s_len, hd.1]
  have hlA : (u8s A).length = 32 := by rw [u8s_len, J.out.shA.1]
  have hlC : (u8s C).length = 32 := by rw [u8s_len, J.out.shC.1]
  have hzl := z32_len
  have HUX := hid (unhex_back d hd)
  have HUS := hid (unhex_some s hs)
  have hsD := store_new 26 (u8s d) 32 size32 hlD (u8s_one d)
  have eqA := eq_same A J.out.shA
  have eqC := eq_same C J.out.shC
  have eqD := eq_same d hd
  have hsA := store_new 26 (u8s A) 32 size32 hlA (u8s_one A)
  have hsC := store_new 26 (u8s C) 32 size32 hlC (u8s_one C)
  have HH0 : Hid (Holds (w.alloc (.cells (u8s d).toArray 26)) _) := (Holds.nil w).push (.cells (u8s d).toArray 26)
  have HB0 : Hid (Below w.heap.size w (w.alloc (.cells (u8s d).toArray 26))) := bpush (Below.refl _ _) _
  clear hok hd hs
  go_enter Try.func7, Try.ntmps7
  go_wp2_with fail
  refine (live_any _).mono ?_
  rintro e w1 ⟨rfl, hb1⟩
  have HH1 : Hid (Holds w1 _) := HH0.out.below hb1
  have HB1 : Hid (Below w.heap.size w w1) := bstep HB0.out hb1
  clear hb1 HH0 HB0
  go_wp2_with fail
  refine (J.out.bey _ _ (cell_one w1 _ _)).mono ?_
  rintro e w1' ⟨rfl, rfl⟩
  go_wp2_with fail
  refine (J.out.s1 _ _ (J.out.okb _ _ HOK.out (bpush (bpush HB1.out _) _)) (cell_one' w1 _ _ _)).mono ?_
  rintro e w2 ⟨rfl, hb2⟩
  have HH2 : Hid (Holds (w2.alloc (.cells (u8s A).toArray 26)) _) := (((HH1.out.more _).more _).below hb2).push (.cells (u8s A).toArray 26)
  have HB2 : Hid (Below w.heap.size w (w2.alloc (.cells (u8s A).toArray 26))) := bpush (bstep (bpush (bpush HB1.out _) _) hb2) _
  clear hb2 HH1 HB1
  have sl1 := J.out.to
  have sl2 := J.out.mid
  have sl3 := J.out.fr
  --S1
  go_upto_region 12 with fail
  go_cut [14] (fun s14 wx => ∃ g3, s14 = .pointer (some ⟨g3, 0, none⟩) ∧ Holds wx ((g3, .cells (u8s A).toArray 26) :: (w2.heap.size, .cells (u8s A).toArray 26) :: (w.heap.size, .cells (u8s d).toArray 26) :: []) ∧ Below w.heap.size w wx)
  case first =>
    go_region_with (first
      | (go_at_call 11
         refine (J.out.s4 _ _ ?_ ?_).mono ?_
         · first
           | exact J.out.okb _ _ HOK.out (bpush HB2.out _).drew
           | exact J.out.okb _ _ HOK.out (bpush (bpush HB2.out _) _).drew
         · first
           | exact heap_two w2 _ _
           | exact heap_mid w2 _ _ _
           | exact heap_three w2 _ _ _
         rintro en w3 ⟨rfl, hb3⟩
         have HB3 := hid hb3
         first
         | (have hst := store_kept A J.out.shA.1 (w2.heap.size + 1) _ (by rfl) (heap_mid w2 _ _ _) hb3; clear hb3)
         | (have hst := store_kept A J.out.shA.1 (w2.heap.size + 2) _ (by rfl) (heap_three w2 _ _ _) hb3; clear hb3)
         | clear hb3))
    all_goals (go_wp2_with fail; go_meet)
    all_goals first
      | exact ⟨_, rfl, meet_new HH2.out HB2.out (bpush (Below.refl _ _) _).drew HB3.out _⟩
      | exact ⟨_, rfl, meet_kept HH2.out HB2.out (bpush (bpush (Below.refl _ _) _) _).drew HB3.out (w2.heap.size + 1) _ _ _ (heap_mid w2 _ _ _) (by simp)⟩
      | exact ⟨_, rfl, meet_kept HH2.out HB2.out (bpush (bpush (Below.refl _ _) _) _).drew HB3.out (w2.heap.size + 2) _ _ _ (heap_three w2 _ _ _) (by simp)⟩
  case rest =>
  obtain ⟨g3, rfl, hh3, hb3⟩ := hcut
  have HH3 := hid hh3
  have HB3 := hid hb3
  clear hh3 hb3 HH2 HB2
  generalize w2.heap.size = g2 at *
  --S3
  go_wp2_with fail
  refine (J.out.nw _).mono ?_
  rintro e w4 ⟨rfl, rfl⟩
  have HH4 : Hid (Holds (wc.alloc (.cells H0 56)) _) := HH3.out.more (.cells H0 56)
  have HX4 : Hid ((wc.alloc (.cells H0 56)).heap[wc.heap.size]? = some (.cells H0 56)) := heap_alloc_new _ _
  have HB4 : Hid (Below w.heap.size w (wc.alloc (.cells H0 56))) := bpush HB3.out _
  have HG : Hid (w.heap.size ≤ wc.heap.size) := HB3.out.size
  have HOF : Hid (off wc.heap.size) := J.out.offn _ _ HOK.out HB3.out.size
  have HNE := hid (lt_off HH3.out)
  clear HB3 HH3
  --S4
  go_wp2_with fail
  refine (J.out.w1 _ _ (J.out.okb _ _ HOK.out HB4.out) HOF.out HX4.out).mono ?_
  rintro e w5 ⟨rfl, hx5, hb5⟩
  have HX5 := hid hx5
  have HH5 := hid (HH4.out.but hb5 HNE.out)
  have HB5 := hid (bbut HB4.out hb5 HG.out)
  generalize wc.heap.size = gH at *
  clear hx5 hb5 HX4 HH4 HB4
  go_wp2_with fail
  refine (J.out.h1 _ _ HX5.out).mono ?_
  rintro e w6 ⟨rfl, hb6⟩
  have HX6 := hid (keep_new HX5.out hb6 (.cells (u8s C).toArray 26))
  have HH6 := hid ((HH5.out.below hb6).push (.cells (u8s C).toArray 26))
  have HB6 := hid (bpush (bstep HB5.out hb6) (.cells (u8s C).toArray 26))
  have HNE6 := hid (off_cons HNE.out (.cells (u8s C).toArray 26) (new_off HX5.out hb6))
  clear hb6 HX5 HH5 HB5 HNE
  go_wp2_with fail
  refine (J.out.w2 _ _ (J.out.okb _ _ HOK.out HB6.out) HOF.out HX6.out).mono ?_
  rintro e w7 ⟨rfl, hx7, hb7⟩
  have HX7 := hid hx7
  have HH7 := hid (HH6.out.but hb7 HNE6.out)
  have HB7 := hid (bbut HB6.out hb7 HG.out)
  generalize w6.heap.size = g6 at *
  clear hx7 hb7 HX6 HH6 HB6
  go_wp2_with fail
  refine (J.out.wn _ _ HX7.out).mono ?_
  rintro e w8 ⟨rfl, hx8, hb8⟩
  have HX8 := hid hx8
  have HH8 := hid (HH7.out.but hb8 HNE6.out)
  have HB8 := hid (bbut HB7.out hb8 HG.out)
  clear hx8 hb8 HX7 HH7 HB7
  go_wp2_with fail
  refine (J.out.h2 _ _ HX8.out).mono ?_
  rintro e w9 ⟨rfl, hb9⟩
  have HX9 := hid (kept_at HX8.out hb9)
  have HH9 := hid (HH8.out.below hb9)
  have HB9 := hid (bstep HB8.out hb9)
  clear hb9 HX8 HH8 HB8
  go_wp2_with fail
  refine (J.out.w3 _ _ (J.out.okb _ _ HOK.out HB9.out) HOF.out HX9.out).mono ?_
  rintro e w10 ⟨rfl, hx10, hb10⟩
  have HX10 := hid hx10
  have HH10 := hid (HH9.out.but hb10 HNE6.out)
  have HB10 := hid (bbut HB9.out hb10 HG.out)
  clear hx10 hb10 HX9 HH9 HB9
  go_wp2_with fail
  refine (J.out.h3 _ _ HX10.out).mono ?_
  rintro e w11 ⟨rfl, hb11⟩
  have HX11 := hid (keep_new HX10.out hb11 (.cells (u8s A).toArray 26))
  have HH11 := hid ((HH10.out.below hb11).push (.cells (u8s A).toArray 26))
  have HB11 := hid (bpush (bstep HB10.out hb11) (.cells (u8s A).toArray 26))
  clear hb11 HX10 HH10 HB10 HNE6
  --S5
  go_wp2_with fail
  refine (J.out.s1i _ _ (J.out.okb _ _ HOK.out (bpush HB11.out _)) (cell_one' w11 _ _ _)).mono ?_
  rintro e w12 ⟨rfl, hb12⟩
  have HX12 := hid (keep_new (keep_new HX11.out (Below.refl _ _) _) hb12 (.cells (u8s C).toArray 26))
  have HH12 := hid (((HH11.out.more _).below hb12).push (.cells (u8s C).toArray 26))
  have HB12 := hid (bpush (bstep (bpush HB11.out _) hb12) (.cells (u8s C).toArray 26))
  generalize w11.heap.size = g11 at *
  clear hb12 HX11 HH11 HB11
  go_wp2_with fail
  refine (J.out.ln _ _ HX12.out).mono ?_
  rintro e w12' ⟨rfl, rfl⟩
  --S6
  go_wp2_with (first
    | (refine wpList_load_w (by rfl) 26 _ rfl g2 rfl 26 (u8s A).toArray (0, 0) _ (HH12.out.at 4 _ _ rfl) Try.underlying26 rfl (by rw [size32]; simp [hlA]) ?_)
    | (refine wpList_load_w (by rfl) 26 _ rfl g3 rfl 26 (u8s A).toArray (0, 0) _ (HH12.out.at 3 _ _ rfl) Try.underlying26 rfl (by rw [size32]; simp [hlA]) ?_)
    | (refine wpList_load_w (by rfl) 26 _ rfl g11 rfl 26 (u8s A).toArray (0, 0) _ (HH12.out.at 1 _ _ rfl) Try.underlying26 rfl (by rw [size32]; simp [hlA]) ?_)
    | (refine wpList_load_w (by rfl) 26 _ rfl g6 rfl 26 (u8s C).toArray (0, 0) _ (HH12.out.at 2 _ _ rfl) Try.underlying26 rfl (by rw [size32]; simp [hlC]) ?_)
    | (refine wpList_load_w (by rfl) 26 _ rfl w12.heap.size rfl 26 (u8s C).toArray (0, 0) _ (HH12.out.at 0 _ _ rfl) Try.underlying26 rfl (by rw [size32]; simp [hlC]) ?_)
    | (refine wpList_load_row rfl 26 _ rfl w.heap.size rfl 26 (u8s d).toArray (0, 0) _ (HH12.out.at 5 _ _ rfl) Try.underlying26 rfl (by rw [size32]; simp [hlD]) ?_))
  refine (hex_any d _ HD.out.1 HD.out.2).mono ?_
  rintro e w13 ⟨rfl, hb13⟩
  have HH13 := hid (HH12.out.below hb13)
  have HB13 := hid (bstep HB12.out hb13)
  clear hb13 HH12 HB12 HX12
  --S7
  go_wp2_with fail
  refine (HUX.out _).mono ?_
  rintro e w14 ⟨rfl, hb14⟩
  have HH14 := hid ((HH13.out.below hb14).push (.cells (u8s d).toArray 26))
  have HB14 := hid (bpush (bstep HB13.out hb14) (.cells (u8s d).toArray 26))
  clear hb14 HH13 HB13
  --S8
  obtain ⟨S, f, hS, hf, hu⟩ := HUS.out
  have HS := hid hS
  have HF := hid hf
  have HU := hid hu
  have hlS : (u8s S).length = 32 := by rw [u8s_len, hS.1]
  have hsS := store_new 26 (u8s S) 32 size32 hlS (u8s_one S)
  clear hS hf hu
  go_wp2_with fail
  refine (HU.out _).mono ?_
  rintro e w15 ⟨rfl, hb15⟩
  have HH15 := hid ((HH14.out.below hb15).push (.cells (u8s S).toArray 26))
  have HB15 := hid (bpush (bstep HB14.out hb15) (.cells (u8s S).toArray 26))
  generalize w14.heap.size = g14 at *
  clear hb15 HH14 HB14
  --S9
  rcases HF.out with ⟨rfl, hx⟩ | rfl
  · go_wp2_with (first
      | (refine wpList_load_row rfl 26 _ rfl w15.heap.size rfl 26 (u8s S).toArray (0, 0) _ (HH15.out.at 0 _ _ rfl) Try.underlying26 rfl (by rw [size32]; simp [hlS]) ?_))
    refine (hex_any S _ HS.out.1 HS.out.2).mono ?_
    rintro e w16 ⟨rfl, hb16⟩
    rw [hx]
    have HH16 := hid (HH15.out.below hb16)
    have HB16 := hid (bstep HB15.out hb16)
    clear hb16 HH15 HB15 hx
    go_wp2_with (first
      | (refine wpList_load_w (by rfl) 26 _ rfl g14 rfl 26 (u8s d).toArray (0, 0) _ (HH16.out.at 1 _ _ rfl) Try.underlying26 rfl (by rw [size32]; simp [hlD]) ?_)
      | (refine wpList_load_w (by rfl) 26 _ rfl w.heap.size rfl 26 (u8s d).toArray (0, 0) _ (HH16.out.at 7 _ _ rfl) Try.underlying26 rfl (by rw [size32]; simp [hlD]) ?_))
    go_ret
    exact ⟨rfl, HB16.out⟩
  · go_wp2_with (first
      | (refine wpList_load_w (by rfl) 26 _ rfl g14 rfl 26 (u8s d).toArray (0, 0) _ (HH15.out.at 1 _ _ rfl) Try.underlying26 rfl (by rw [size32]; simp [hlD]) ?_)
      | (refine wpList_load_w (by rfl) 26 _ rfl w.heap.size rfl 26 (u8s d).toArray (0, 0) _ (HH15.out.at 7 _ _ rfl) Try.underlying26 rfl (by rw [size32]; simp [hlD]) ?_))
    go_ret
    exact ⟨rfl, HB15.out⟩

end Go.Proofs.Ytanmidiapbghnaa
