/-
  WheelOnce, walked.
-/
import Derived.Test.YthgcjocjkeieaaaWOncX
namespace Go.Proofs.Ythgcjocjkeieaaa
open Go.RowKit
set_option linter.all false

theorem OnT.form {w0 w : World} {i b : Nat} {now : Int} {many : Nat} {av tv : Value} {N : Nat} (h : OnT w0 w i b now many av tv N) : Below w0.heap.size w0 w ∧ many ≤ 1024 ∧ (0 ≤ now ∧ now ≤ 1125899906842624) ∧ (N : Int) ≤ i + 1 ∧ ∃ ga ca gt ct, av = .slice (some ⟨ga, 0, none⟩) N ca ∧ tv = .slice (some ⟨gt, 0, none⟩) N ct ∧ ∃ last T A B, OnS w0 w i b now last T (.slice (some ⟨ga, 0, none⟩) A.length ca) (.slice (some ⟨gt, 0, none⟩) A.length ct) A B ∧ T.length = many ∧ A.length = N := by
  obtain ⟨last, T, A, B, h1, rfl, rfl⟩ := h.ex
  have hA := h1.m.lenA
  have hB := h1.m.lenB
  have h0 := h1.l0
  have hle := h1.le
  obtain ⟨r1, r2, _⟩ := h1.on.rows
  obtain ⟨ga, ca, e1, _⟩ := r1.formI (by omega)
  obtain ⟨gt, ct, e2, _⟩ := r2.formI (by omega)
  rw [hB] at e2
  subst e1
  subst e2
  exact ⟨h1.on.below, h1.len, h1.high, by omega, ga, ca, gt, ct, rfl, rfl, last, T, A, B, h1, rfl, rfl⟩
/-- a new wheel, and the two lists. -/
theorem once_start {w0 w : World} {b : Nat} (h : LV w0 w b 0 0 []) : OnT w0 ((w.alloc (.cells #[.int .i64 0] 3)).alloc (.cells #[.int .i64 0] 3)) 0 b 0 0 (.slice (some ⟨w.heap.size, 0, none⟩) 1 1) (.slice (some ⟨w.heap.size + 1, 0, none⟩) 1 1) 1 := by
  obtain ⟨m, K, x, hk, hb⟩ := h.ex
  have hb1 := balloc w (.cells #[.int .i64 0] 3)
  have hb2 := balloc (w.alloc (.cells #[.int .i64 0] 3)) (.cells #[.int .i64 0] 3)
  have hs1 : (w.alloc (.cells #[.int .i64 0] 3)).heap.size = w.heap.size + 1 := by simp
  have n1 : ((w.alloc (.cells #[.int .i64 0] 3)).alloc (.cells #[.int .i64 0] 3)).heap[w.heap.size]? = some (.cells #[.int .i64 0] 3 (0, 0)) := (hb2.block _ (by simp)).trans (heap_new w _)
  have n2 : ((w.alloc (.cells #[.int .i64 0] 3)).alloc (.cells #[.int .i64 0] 3)).heap[w.heap.size + 1]? = some (.cells #[.int .i64 0] 3 (0, 0)) := by rw [← hs1]; exact heap_new _ _
  have hB : Below w.heap.size w ((w.alloc (.cells #[.int .i64 0] 3)).alloc (.cells #[.int .i64 0] 3)) := hb1.trans (hb2.mono hb1.size)
  have hsz : ((w.alloc (.cells #[.int .i64 0] 3)).alloc (.cells #[.int .i64 0] 3)).heap.size = w.heap.size + 2 := by simp
  have hws := hb.size
  refine ⟨0, [], [0], [0], OnS.of (P := []) (gv := .slice none 0 0) (G := []) ⟨fun j k => (j = 0 ∧ K k) ∨ (j = 1 ∧ k = w.heap.size) ∨ (j = 2 ∧ k = w.heap.size + 1), ⟨?_, ?_, ?_, bstep hb hB⟩, ⟨m, ?_⟩, Row.of_heap (vs := [.int .i64 0]) n1 (by unfold maxLen; simp), ?_, Row.of_heap (vs := [.int .i64 0]) n2 (by unfold maxLen; simp), ?_, Holds.nil _, by simp, RowS.nil _ _ _, fun k hk => absurd hk (blk_nil k)⟩ OnM.start (by omega), rfl, rfl⟩
  · rintro j k (⟨_, h1⟩ | ⟨_, rfl⟩ | ⟨_, rfl⟩)
    · have := x.lt h1; omega
    · omega
    · omega
  · rintro j k (⟨_, h1⟩ | ⟨_, rfl⟩ | ⟨_, rfl⟩)
    · exact hk k h1
    · omega
    · omega
  · rintro i j k hne (⟨rfl, h1⟩ | ⟨rfl, rfl⟩ | ⟨rfl, rfl⟩) (⟨h3, h2⟩ | ⟨h3, h2⟩ | ⟨h3, h2⟩)
    all_goals first | omega | (have := x.lt h1; omega) | (have := x.lt h2; omega)
  · have : (fun k => (0 = 0 ∧ K k) ∨ (0 = 1 ∧ k = w.heap.size) ∨ (0 = 2 ∧ k = w.heap.size + 1)) = K := by
      funext k
      simp
    show WA _ b m 0 0 [] (fun k => (0 = 0 ∧ K k) ∨ (0 = 1 ∧ k = w.heap.size) ∨ (0 = 2 ∧ k = w.heap.size + 1))
    rw [this]
    exact x.below hB
  · intro k hk
    simp [blkOf, Value.ownBlock] at hk
    exact Or.inr (Or.inl ⟨rfl, hk.symm⟩)
  · intro k hk
    simp [blkOf, Value.ownBlock] at hk
    exact Or.inr (Or.inr ⟨rfl, hk.symm⟩)
set_option maxRecDepth 20000 in
set_option maxHeartbeats 16000000 in
theorem wheelOnce_walk (xs : List OpW) (ao : Option Addr) (co : Nat) (w : World) (hx : OpsAt w ao xs) (hsx : xs.length * 24 ≤ 140737488351232) :
    Calls Try.prog 5 #[.slice ao xs.length co] w fun e w' => e = .returned (.bool true) ∧ Below w.heap.size w w' := by
  have HL := hid (live_any w)
  have HN1 := hid lv_new
  have HX := hid hx
  obtain ⟨N, hN⟩ : ∃ N, N = xs.length := ⟨_, rfl⟩
  have HN := hid hN
  rw [← hN]
  have HNS : Hid ((N : Int) * 24 ≤ 140737488351232) := by unfold Hid; omega
  have hNi : (N : Int) ≤ 140737488351232 := by omega
  clear hx hsx hN
  go_enter Try.func5, Try.ntmps5
  go_wp2_with (first
    | (go_at_call 7; refine HL.out.mono ?_; go_loud (rintro e w1 ⟨rfl, hb⟩; have HB := hid hb; clear hb HL))
    | (go_at_call 8; refine (HN1.out w1).mono ?_; go_loud (rintro e w2 ⟨b, rfl, HV⟩; have HT := hid (once_start HV.out); clear HV HN1))
    | fail)
  go_loopw [5, 6, 7, 8, 9, 10, 11, 12, 13, 14, 15, 16, 17, 18, 19, 20] (fun av tv mv nv iv _ _ _ _ _ _ _ _ _ _ _ wr => ∃ (i : Nat) (now : Int) (many : Nat) (an : Nat) (a1 a2 : Option Addr) (c1 c2 : Nat), av = .slice a1 an c1 ∧ tv = .slice a2 an c2 ∧ mv = .int .i64 many ∧ nv = .int .i64 now ∧ iv = .int .i64 i ∧ Hid (i ≤ N) ∧ Hid (OnT w1 wr i b now many (.slice a1 an c1) (.slice a2 an c2) an)) (fun _ _ _ _ iv _ _ _ _ _ _ _ _ _ _ _ _ => N - (intOf iv).toNat)
  case atStart => exact ⟨0, 0, 0, 1, _, _, 1, 1, rfl, rfl, rfl, rfl, rfl, Nat.zero_le _, HT⟩
  case round =>
    clear HT
    obtain ⟨i, now, many, an, a1, a2, c1, c2, rfl, rfl, rfl, rfl, rfl, HI, HT⟩ := hrel
    obtain ⟨hbT, hml, hnow, hani, ga, ca, gt, ct, e1, e2, last, T, A, B, hS, hTm, hAn⟩ := HT.out.form
    simp only [Value.slice.injEq] at e1 e2
    obtain ⟨rfl, _, rfl⟩ := e1
    obtain ⟨rfl, _, rfl⟩ := e2
    have HBT := hid hbT
    clear hbT
    by_cases hi : i < N
    · have hi2 : (i : Int) < N := by omega
      have hix : i < xs.length := by rw [← HN.out]; exact hi
      have hi24 : (i : Int) * 24 ≤ 140737488351232 := by have := HNS.out; omega
      obtain ⟨ob, oo, hoa, k1, k2, k3, kk⟩ := HX.out i hix
      have hbw : Below w.heap.size w wr := bstep HB.out HBT.out
      have hcell : ∀ p u, w.cell? p = some u → wr.cell? p = some u := fun p u h => by rw [hbw.cell (World.block_lt_of_cell? w p h)]; exact h
      have o1 := hcell _ _ k1
      have o2 := hcell _ _ k2
      have o3 := hcell _ _ k3
      subst hoa
      have HS := hid hS
      have HTM := hid hTm
      have HAN := hid hAn
      have HFA := hid kk.2.1
      have hmi : (many : Int) ≤ 1024 := by omega
      have hanb : (an : Int) ≤ 140737488351233 := by omega
      clear k1 k2 k3 kk hcell hbw hix hS hTm hAn HT
      generalize (xs.getD i OpW.nil).k = k at *
      generalize (xs.getD i OpW.nil).a = a at *
      generalize (xs.getD i OpW.nil).g = g at *
      by_cases h1 : k = 1
      · subst h1
        by_cases hr : many < 1024
        · as_aux_lemma =>
            have HA := hid (HS.out.arm hi24 (by have := HTM.out; omega) (.cells #[.int .i64 1, .int .i64 a, .int .i64 g] 34) a g)
            rw [HAN.out, HTM.out] at HA
            clear HS HTM HAN HFA
            have hr2 : (many : Int) < 1024 := by omega
            go_wp2_with (first
              | (go_at_call 12; refine HA.out.mono ?_; go_loud (rintro e wa ⟨rfl, hh, wb, ad2, cap2, hr1, wc, ad3, cap3, hr2', HT2⟩; have d1 := cellHeap hh 1 rfl; have HR1 := hid hr1; have HR2 := hid hr2'; have HLn := hid HT2.out.len; have HNw := hid HT2.out.now; clear hh hr1 hr2' HA))
              | (at_builtin; refine wpList_append_run _ rfl _ _ _ _ rfl _ _ rfl rfl HR1.out ?_; clear HR1)
              | (at_builtin; refine wpList_append_run _ rfl _ _ _ _ rfl _ _ rfl rfl HR2.out ?_; clear HR2)
              | (go_at_call 16; refine HLn.out.mono ?_; go_loud (rintro e wd ⟨rfl, hw⟩; subst wd))
              | (go_at_call 17; refine HNw.out.mono ?_; go_loud (rintro e wd ⟨rfl, hw⟩; subst wd))
              | fail)
            go_roundw
            case rel => exact ⟨i + 1, now, many + 1, an + 1, ad2, ad3, cap2, cap3, rfl, rfl, by go_num, rfl, by go_num, by unfold Hid; omega, HT2⟩
            case measure => simp [intOf]; omega
        · as_aux_lemma =>
            have HA := hid (HS.out.full hi24 (by have := HTM.out; omega) (.cells #[.int .i64 1, .int .i64 a, .int .i64 g] 34) a g)
            have hm : many = 1024 := by omega
            rw [HAN.out] at HA
            clear HS HTM HAN HFA
            subst hm
            go_wp2_with (first
              | (go_at_call 12; refine HA.out.mono ?_; go_loud (rintro e wa ⟨rfl, HT2⟩; have HLn := hid HT2.out.len; have HNw := hid HT2.out.now; clear HA))
              | (go_at_call 16; refine HLn.out.mono ?_; go_loud (rintro e wd ⟨rfl, hw⟩; subst wd))
              | (go_at_call 17; refine HNw.out.mono ?_; go_loud (rintro e wd ⟨rfl, hw⟩; subst wd))
              | fail)
            go_roundw
            case rel => exact ⟨i + 1, now, 1024, an, _, _, _, _, rfl, rfl, rfl, rfl, by go_num, by unfold Hid; omega, HT2⟩
            case measure => simp [intOf]; omega
      · by_cases h2 : k = 2
        · subst h2
          have hS := HS.out
          have hrB := hS.on.rows.2.1.below (balloc wr (.cells #[.int .i64 2, .int .i64 a, .int .i64 g] 34))
          have hlB := hS.m.lenB
          by_cases ha : hasT T a = true
          · as_aux_lemma =>
              obtain ⟨q1, q2, q3⟩ := (hS.m.is hS.ids a).2 ha
              obtain ⟨ac, rfl⟩ : ∃ ac : Nat, a = ac := ⟨a.toNat, by omega⟩
              obtain ⟨hal, hT0, hC⟩ := hS.cancel hi24 (.cells #[.int .i64 2, .int .i64 ac, .int .i64 g] 34) ac ha
              have hcB := hrB.nthCell (j := ac) (by omega)
              rw [Int.toNat_natCast] at q3
              rw [q3] at hcB
              have HC := hid hC
              rw [HAN.out, HTM.out] at HC
              have q4 : (ac : Int) < an := by have := HAN.out; omega
              have q5 : ac < an := by omega
              have hm1 : (many : Int) - 1 = ((many - 1 : Nat) : Int) := by have := HTM.out; omega
              have hm2 : ((many - 1 : Nat) : Int) ≤ 1024 := by omega
              clear HS HTM HAN HFA hS hrB hlB hC hal hT0 q2 q3 ha
              generalize many - 1 = many' at *
              go_wp2_with (first
                | (go_at_call 13; refine HC.out.mono ?_; go_loud (rintro e wa ⟨rfl, hh, ⟨u, hu⟩, hfz, HT2⟩; have d1 := cellHeap hh 1 rfl; have HLn := hid HT2.out.len; have HNw := hid HT2.out.now; clear hh HC hcB))
                | (go_at_call 16; refine HLn.out.mono ?_; go_loud (rintro e wd ⟨rfl, hw⟩; subst wd))
                | (go_at_call 17; refine HNw.out.mono ?_; go_loud (rintro e wd ⟨rfl, hw⟩; subst wd))
                | fail)
              go_roundw
              case rel => exact ⟨i + 1, now, many', an, _, _, _, _, rfl, rfl, by first | rfl | go_num, rfl, by go_num, by unfold Hid; omega, HT2⟩
              case measure => simp [intOf]; omega
          · have ha2 : hasT T a = false := by simpa using ha
            have HC := hid (hS.cancel0 hi24 (.cells #[.int .i64 2, .int .i64 a, .int .i64 g] 34) a HFA.out ha2)
            rw [HAN.out, HTM.out] at HC
            by_cases q1 : 0 < a
            · obtain ⟨ac, rfl⟩ : ∃ ac : Nat, a = ac := ⟨a.toNat, by omega⟩
              by_cases q2 : ac < an
              · as_aux_lemma =>
                  have q4 : (ac : Int) < an := by omega
                  have hcB := hrB.nthCell (j := ac) (by have := HAN.out; omega)
                  have q3 : nth B ac = 0 := by rw [hS.m.there ac (by have := HAN.out; omega), ha2]; rfl
                  rw [q3] at hcB
                  clear HS HTM HAN HFA hS hrB hlB q3 ha ha2
                  go_wp2_with (first
                    | (go_at_call 13; refine HC.out.mono ?_; go_loud (rintro e wa ⟨rfl, HT2⟩; have HLn := hid HT2.out.len; have HNw := hid HT2.out.now; clear HC hcB))
                    | (go_at_call 16; refine HLn.out.mono ?_; go_loud (rintro e wd ⟨rfl, hw⟩; subst wd))
                    | (go_at_call 17; refine HNw.out.mono ?_; go_loud (rintro e wd ⟨rfl, hw⟩; subst wd))
                    | fail)
                  go_roundw
                  case rel => exact ⟨i + 1, now, many, an, _, _, _, _, rfl, rfl, rfl, rfl, by go_num, by unfold Hid; omega, HT2⟩
                  case measure => simp [intOf]; omega
              · as_aux_lemma =>
                  have q4 : ¬ (ac : Int) < an := by omega
                  have q5 : decide ((ac : Int) < an) = false := by simp; omega
                  have q6 : decide (ac < an) = false := by simp; omega
                  clear HS HTM HAN HFA hS hrB hlB ha ha2
                  go_wp2_with (first
                    | (go_at_call 13; refine HC.out.mono ?_; go_loud (rintro e wa ⟨rfl, HT2⟩; have HLn := hid HT2.out.len; have HNw := hid HT2.out.now; clear HC))
                    | (go_at_call 16; refine HLn.out.mono ?_; go_loud (rintro e wd ⟨rfl, hw⟩; subst wd))
                    | (go_at_call 17; refine HNw.out.mono ?_; go_loud (rintro e wd ⟨rfl, hw⟩; subst wd))
                    | fail)
                  go_roundw
                  case rel => exact ⟨i + 1, now, many, an, _, _, _, _, rfl, rfl, rfl, rfl, by go_num, by unfold Hid; omega, HT2⟩
                  case measure => simp [intOf]; omega
            · as_aux_lemma =>
                have q5 : decide (0 < a) = false := by simp; omega
                clear HS HTM HAN HFA hS hrB hlB ha ha2
                go_wp2_with (first
                  | (go_at_call 13; refine HC.out.mono ?_; go_loud (rintro e wa ⟨rfl, HT2⟩; have HLn := hid HT2.out.len; have HNw := hid HT2.out.now; clear HC))
                  | (go_at_call 16; refine HLn.out.mono ?_; go_loud (rintro e wd ⟨rfl, hw⟩; subst wd))
                  | (go_at_call 17; refine HNw.out.mono ?_; go_loud (rintro e wd ⟨rfl, hw⟩; subst wd))
                  | fail)
                go_roundw
                case rel => exact ⟨i + 1, now, many, an, _, _, _, _, rfl, rfl, rfl, rfl, by go_num, by unfold Hid; omega, HT2⟩
                case measure => simp [intOf]; omega
        · by_cases h3 : k = 3
          · subst h3
            have HA := hid (HS.out.adv hi24 (.cells #[.int .i64 3, .int .i64 a, .int .i64 g] 34) a)
            have HAL : Hid (∀ T' F wx e av gv j, OnL w1 wx i b e last T T' av gt c2 A gv F j → many = F.length + T'.length) := fun T' F wx e av gv j h => by rw [← HTM.out]; exact h.all
            clear HS HTM HFA
            go_wp2_with (first
              | (go_at_call 14; refine HA.out.mono ?_; go_loud (rintro e wa ⟨adl, cl, F, rfl, T', HOL, HFl⟩; clear HA))
              | fail)
            generalize min (max a now) 1125899906842624 = e at *
            obtain ⟨M, hM⟩ : ∃ M, M = F.length := ⟨_, rfl⟩
            have HM := hid hM
            have hall := HAL.out _ _ _ _ _ _ _ HOL.out
            have HALL := hid hall
            have hMb : M ≤ 1024 := by have := HFl.out; omega
            have hMi : (M : Int) ≤ 1024 := by omega
            rw [← hM] at HOL ⊢
            clear hM hall HAL HFl
            go_loopw [7, 17, 18] (fun mv jv _ wz => ∃ j : Nat, mv = .int .i64 ((many : Int) - j) ∧ jv = .int .i64 j ∧ Hid (j ≤ M) ∧ Hid (OnL w1 wz i b e last T T' (.slice (some ⟨ga, 0, none⟩) A.length c1) gt c2 A (.slice adl M cl) F j)) (fun _ jv _ _ => M - (intOf jv).toNat)
            case atStart => exact ⟨0, by simp, rfl, Nat.zero_le _, HOL⟩
            case round =>
              clear HOL
              obtain ⟨j, rfl, rfl, HJ, HOL⟩ := hrel
              by_cases hj : j < M
              · obtain ⟨x, xi, ga', gl, ca', cl', hC, hxe, hN2, hprev⟩ := HOL.out.at_ (by rw [← HM.out]; exact hj) (by rw [← HM.out]; exact hMb)
                have hav := hC.av
                have hgv := hC.gv
                simp only [Value.slice.injEq, Option.some.injEq, Addr.mk.injEq] at hav hgv
                obtain ⟨⟨rfl, -⟩, -, rfl⟩ := hav
                obtain ⟨rfl, -, rfl⟩ := hgv
                have cT := hC.cT
                have cI := hC.cI
                have cA := hC.cA
                have cB := hC.cB
                have fB := hC.fB
                have hx1 := hC.pos
                have hx2 : xi < an := by have := hC.lt; have := HAN.out; omega
                have hx3 : (xi : Int) < an := by omega
                have hx4 : ¬ (xi : Int) < 1 := by omega
                have hx5 : decide ((xi : Int) < 1) = false := by simp; omega
                have hx6 : ¬ (an : Int) ≤ xi := by omega
                have hx7 : decide ((an : Int) ≤ xi) = false := by simp; omega
                have hx8 : decide (an ≤ xi) = false := by simp; omega
                have hx9 : ¬ e < x.t := by omega
                have hx10 : decide (e < x.t) = false := by simp; omega
                have hx11 : decide (xi < 1) = false := by simp; omega
                have hj2 : (j : Int) < M := by omega
                have hmj : (many : Int) - j - 1 = (many : Int) - ((j + 1 : Nat) : Int) := by omega
                have hmj0 : (0 : Int) < (many : Int) - j := by have := HALL.out; have := HM.out; omega
                have HN2 := hid hN2
                have HHP := hid hprev
                clear hC hN2 hprev HOL HALL HM HAN
                generalize x.t = t at *
                by_cases hj0 : 0 < j
                · obtain ⟨yt, yi, p1, p2, p3⟩ := HHP.out hj0
                  obtain ⟨jp, hjp⟩ : ∃ jp, jp = j - 1 := ⟨_, rfl⟩
                  rw [← hjp] at p1 p2
                  have hj1 : (j : Int) - 1 = jp := by omega
                  have hj3 : (jp : Int) < M := by omega
                  have hj4 : jp < M := by omega
                  have hj5 : (0 : Int) < j := by omega
                  clear hjp HHP
                  rcases p3 with p3 | ⟨rfl, p4⟩
                  · as_aux_lemma =>
                      have p5 : ¬ t < yt := by omega
                      have p6 : decide (t < yt) = false := by simp; omega
                      have p7 : ¬ yt = t := by omega
                      have p8 : (yt == t) = false := by simp; omega
                      go_wp2_with fail
                      go_quiet (fail)
                      go_wp2_with fail
                      go_quiet (fail)
                      go_wp2
                      go_roundw
                      case rel => exact ⟨j + 1, congrArg (Value.int .i64) (by omega), by go_num, by unfold Hid; omega, HN2.out _⟩
                      case measure => simp [intOf]; omega
                  · as_aux_lemma =>
                      have p5 : ¬ xi ≤ yi := by omega
                      have p6 : decide (xi ≤ yi) = false := by simp; omega
                      have p7 : ¬ (xi : Int) ≤ yi := by omega
                      have p8 : decide ((xi : Int) ≤ yi) = false := by simp; omega
                      have p9 : ¬ yt < yt := by omega
                      go_wp2_with fail
                      go_quiet (fail)
                      go_wp2_with fail
                      go_quiet (fail)
                      go_wp2
                      go_roundw
                      case rel => exact ⟨j + 1, congrArg (Value.int .i64) (by omega), by go_num, by unfold Hid; omega, HN2.out _⟩
                      case measure => simp [intOf]; omega
                · as_aux_lemma =>
                    have hj3 : ¬ (0 : Int) < j := by omega
                    have hj4 : decide ((0 : Int) < j) = false := by simp; omega
                    have hj5 : decide (0 < j) = false := by simp; omega
                    clear HHP
                    go_wp2_with fail
                    go_quiet (fail)
                    go_wp2_with fail
                    go_quiet (fail)
                    go_wp2
                    go_roundw
                    case rel => exact ⟨j + 1, congrArg (Value.int .i64) (by omega), by go_num, by unfold Hid; omega, HN2.out _⟩
                    case measure => simp [intOf]; omega
              · have hje : j = M := by have := HJ.out; omega
                subst hje
                have HD := hid (HOL.out.done (by rw [← HM.out]; exact Nat.le_refl _) hi24)
                have hmm : (many : Int) - j = T'.length := by have := HALL.out; have := HM.out; omega
                have hTl : (T'.length : Int) ≤ 1024 := by omega
                rw [HAN.out] at HD
                clear HOL HALL HM HAN HJ hj
                by_cases h0 : 0 < T'.length
                · as_aux_lemma =>
                    have h01 : (0 : Int) < T'.length := by omega
                    generalize T'.length = tl at *
                    go_wp2_with (first
                      | (go_at_call 15; refine HD.out.mono ?_; go_loud (rintro en wb ⟨Mx, rfl, HMx, HT2⟩; have hMx := HMx.out h0; have HLn := hid HT2.out.len; have HNw := hid HT2.out.now; clear HD HMx))
                      | (go_at_call 16; refine HLn.out.mono ?_; go_loud (rintro en wd ⟨rfl, hw⟩; subst wd))
                      | (go_at_call 17; refine HNw.out.mono ?_; go_loud (rintro en wd ⟨rfl, hw⟩; subst wd))
                      | fail)
                    go_roundw
                    case rel => exact ⟨i + 1, e, tl, an, _, _, _, _, rfl, rfl, by first | rfl | rw [hmm], rfl, by go_num, by unfold Hid; omega, HT2⟩
                    case measure => simp [intOf]; omega
                · as_aux_lemma =>
                    have h00 : T'.length = 0 := by omega
                    rw [h00] at hmm HD
                    go_wp2_with (first
                      | (go_at_call 15; refine HD.out.mono ?_; go_loud (rintro en wb ⟨Mx, rfl, HMx, HT2⟩; have HLn := hid HT2.out.len; have HNw := hid HT2.out.now; clear HD HMx))
                      | (go_at_call 16; refine HLn.out.mono ?_; go_loud (rintro en wd ⟨rfl, hw⟩; subst wd))
                      | (go_at_call 17; refine HNw.out.mono ?_; go_loud (rintro en wd ⟨rfl, hw⟩; subst wd))
                      | fail)
                    go_roundw
                    case rel => exact ⟨i + 1, e, 0, an, _, _, _, _, rfl, rfl, by first | rfl | rw [hmm], rfl, by go_num, by unfold Hid; omega, HT2⟩
                    case measure => simp [intOf]; omega
          · as_aux_lemma =>
              have HT2 := hid (HS.out.idle (.cells #[.int .i64 k, .int .i64 a, .int .i64 g] 34))
              rw [HAN.out, HTM.out] at HT2
              have HLn := hid HT2.out.len
              have HNw := hid HT2.out.now
              clear HS HTM HAN HFA
              go_wp2_with (first
                | (go_at_call 16; refine HLn.out.mono ?_; go_loud (rintro e wd ⟨rfl, hw⟩; subst wd))
                | (go_at_call 17; refine HNw.out.mono ?_; go_loud (rintro e wd ⟨rfl, hw⟩; subst wd))
                | fail)
              go_roundw
              case rel => exact ⟨i + 1, now, many, an, _, _, _, _, rfl, rfl, rfl, rfl, by go_num, by unfold Hid; omega, HT2⟩
              case measure => simp [intOf]; omega
    · have hie : i = N := by have := HI.out; omega
      subst hie
      clear hS hi HI HX HT
      go_wp2
      go_ret
      exact ⟨rfl, bstep HB.out HBT.out⟩
end Go.Proofs.Ythgcjocjkeieaaa
