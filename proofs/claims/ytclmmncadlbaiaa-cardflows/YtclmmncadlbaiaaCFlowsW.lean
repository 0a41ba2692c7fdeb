/-
  The walk of the statement CardFlows.
-/
import Derived.Test.YtclmmncadlbaiaaCFlowsC
namespace Go.Proofs.Ytclmmncadlbaiaa
open Go.RowKit
set_option linter.all false

set_option maxRecDepth 20000 in
set_option maxHeartbeats 40000000 in
theorem flows_yes (n m : Nat) (a : Option Addr) (cc : Nat) (xs : List OpR) (w : World) (hn1 : 1 ≤ n) (hn : n ≤ 64) (hm1 : 1 ≤ m) (hm : m ≤ 64) (hops : OpsAt w a xs) (hsz : xs.length * 40 ≤ 140737488351232 ∧ ∀ i, i < xs.length → (xs.getD i OpR.nil).pt.zs.length ≤ 140737488351232) :
    Calls Try.prog 6 #[.int .i64 n, .int .i64 m, .slice a xs.length cc] w fun e w' => e = .returned (.bool true) ∧ Below w.heap.size w w' := by
  have HOPS := hid hops
  have HSZ := hid hsz.2
  have hN0 : xs.length ≤ 3518437208780 := by omega
  obtain ⟨N, hN⟩ : ∃ N, N = xs.length := ⟨_, rfl⟩
  have HN := hid hN
  rw [← hN] at hN0 ⊢
  clear hops hsz hN
  go_enter Try.func6, Try.ntmps6
  go_wp2_with (first
    | (go_at_call 7; refine (live_any w).mono ?_; rintro e w1 ⟨rfl, hb1⟩; have HB1 := hid hb1; clear hb1)
    | (go_at_call 8; refine (new_yes n m w1 hn1 hn hm1 hm).mono ?_; rintro e w2 ⟨c, g, h, rfl, hx, hk, hb⟩; have HX := hid hx; have HK := hid hk; have HB2 := hid hb; clear hx hk hb))
  have HFC : Hid (FlowC w2 n m c g h (CS.new n m) [] [] 0 0 0) := ⟨HX.out, Win.new n false (by omega), Win.new m true (by omega), by simp [CS.new], by simp [CS.new], rfl, rfl, by simp [CS.new], by simp, by simp⟩
  have HFR : Hid (FlowR w w2 c g h (.slice none 0 0) (.slice none 0 0) [] []) := ⟨Row.nil _ _, Row.nil _ _, by simp [Value.ownBlock], by simp [Value.ownBlock], by simp [Value.ownBlock], fun k hk => ⟨by have := HK.out k hk; have := HB1.out.size; omega, HX.out.lt k hk⟩, bstep HB1.out HB2.out⟩
  clear HX HK HB1 HB2
  go_loopw [9, 10, 11, 12, 13, 14, 15] (fun cv lv gt gn r t i wr => ∃ (k got gone : Nat) (S : CS) (came laid : List (List Int)) (ac : Option Addr) (pc : Nat) (al : Option Addr) (pl : Nat), k ≤ N ∧ i = .int .i64 k ∧ gt = .int .i64 got ∧ gn = .int .i64 gone ∧ r = .int .i64 (got % n : Nat) ∧ t = .int .i64 (laid.length % m : Nat) ∧ cv = .slice ac came.length pc ∧ lv = .slice al laid.length pl ∧ Hid (FlowC wr n m c g h S came laid got gone k) ∧ Hid (FlowR w wr c g h (.slice ac came.length pc) (.slice al laid.length pl) came laid)) (fun _ _ _ _ _ _ i _ => N - (intOf i).toNat)
  case atStart => exact ⟨0, 0, 0, _, [], [], none, 0, none, 0, by omega, rfl, rfl, rfl, by simp, by simp, rfl, rfl, HFC, HFR⟩
  case round =>
    obtain ⟨k, got, gone, S, came, laid, ac, pc, al, pl, hk, rfl, rfl, rfl, rfl, rfl, rfl, rfl, HC, HR⟩ := hrel
    clear HFC HFR
    by_cases hlt : k < N
    · have hlt2 : (k : Int) < N := by omega
      obtain ⟨b, o, ha, e1, e2, e3, ok⟩ := HOPS.out k (by rw [← HN.out]; exact hlt)
      have hzl := HSZ.out k (by rw [← HN.out]; exact hlt)
      subst ha
      generalize xs.getD k OpR.nil = qq at e1 e2 e3 ok hzl
      obtain ⟨kd, ki, pt⟩ := qq
      simp only at e1 e2 e3 hzl ok
      have HOKW := hid ok.2.2
      have HOK : Hid (pt.ok wr) := Part.ok_below ok.2.2 HR.out.bel
      replace e1 := cell_below HR.out.bel e1
      replace e2 := cell_below HR.out.bel e2
      replace e3 := cell_below HR.out.bel e3
      obtain ⟨l, hl⟩ : ∃ l, pt.zs.length = l := ⟨_, rfl⟩
      replace e3 := cell_val e3 hl
      have HL := hid hl
      rw [hl] at hzl
      clear ok hl
      have hcl := HC.out.cl
      have hll := HC.out.ll
      have hlo := HC.out.rx.lo1
      have hlo2 := HC.out.tx.lo1
      have HC1 : Hid (∀ ob, FlowC (wr.alloc ob) n m c g h S came laid got gone k) := fun ob => HC.out.below (balloc wr ob)
      have HR1 : Hid (∀ ob, FlowR w (wr.alloc ob) c g h (.slice ac came.length pc) (.slice al laid.length pl) came laid) := fun ob => HR.out.below (balloc wr ob)
      have HOK1 : Hid (∀ ob, pt.ok (wr.alloc ob)) := fun ob => Part.ok_below HOK.out (balloc wr ob)
      by_cases k1 : kd = 1
      · subst k1
        by_cases hw : l = 0 ∨ 1514 < l
        · as_aux_lemma =>
              have hroom := Classical.em ((came.length : Int) - got < n)
              rcases hw with hw | hw
              · subst hw
                have HW : Hid ((0 : Nat) = 0 ∨ 1514 < 0) := Or.inl rfl
                rcases hroom with hroom | hroom
                all_goals
                  go_wp2_with (first | (go_at_call 15; refine (arr_len c pt _ HL.out _ HW.out hzl).mono ?_; rintro e w' ⟨rfl, hw'⟩; rw [hw']; clear hw'))
                  go_roundw
                  case rel => exact ⟨k + 1, got, gone, S, came, laid, ac, pc, al, pl, by omega, by go_num, rfl, rfl, rfl, rfl, rfl, rfl, (HC1.out _).next, HR1.out _⟩
                  case measure => simp [intOf]; omega
              · have hw2 : (0 : Int) < l := by omega
                have hw3 : ¬ (l : Int) ≤ 1514 := by omega
                have HW : Hid (l = 0 ∨ 1514 < l) := Or.inr hw
                rcases hroom with hroom | hroom
                all_goals
                  go_wp2_with (first | (go_at_call 15; refine (arr_len c pt _ HL.out _ HW.out hzl).mono ?_; rintro e w' ⟨rfl, hw'⟩; rw [hw']; clear hw'))
                  go_roundw
                  case rel => exact ⟨k + 1, got, gone, S, came, laid, ac, pc, al, pl, by omega, by go_num, rfl, rfl, rfl, rfl, rfl, rfl, (HC1.out _).next, HR1.out _⟩
                  case measure => simp [intOf]; omega
        · have hw2 : (0 : Int) < l := by omega
          have hw3 : (l : Int) ≤ 1514 := by omega
          by_cases hr : came.length < got + n
          · as_aux_lemma =>
                have hroom : (came.length : Int) - got < n := by omega
                go_wp2_with (first
                  | (go_at_call 15; refine (arr_yes (HC1.out _) hr (by omega) pt (HOK1.out _) l HL.out (by omega) (by omega)).mono ?_; rintro e w3 ⟨rfl, S3, hc3, ho3⟩; have hr3 := (HR1.out _).only ho3; have HOK3 : Hid (pt.ok w3) := Part.ok_below HOKW.out hr3.bel; have hq2 : w3.cell? ⟨wr.heap.size, 2, none⟩ = some (.slice pt.a l pt.c) := cellHeap ((ho3.block wr.heap.size (fun hk => by have := (HR.out.kin _ hk).2; omega) (by simp)).trans (heap_new wr _)) 2 rfl; have hcv : (convert 43 9 (.slice pt.a l pt.c)).run Try.prog w3 = .ok (.string (strOfNums pt.zs)) w3 := (by have := conv_part pt w3 HOK3.out; rw [part_val, HL.out] at this; exact this); obtain ⟨gv, cap, w4, hrun, hr4, hk4⟩ := hr3.push pt.zs (by omega); have HRUN := hid hrun; have HC4 := hid (hc3.keep hk4); have HR4 := hid hr4; clear hrun hr4 hk4 hc3 hr3 ho3)
                  | (at_builtin; refine wpList_append_run _ rfl (.tmp 97) (.tmp 101) 36 36 rfl _ _ rfl rfl HRUN.out ?_))
                go_roundw
                case rel => exact ⟨k + 1, got, gone, S3, came ++ [pt.zs], laid, _, cap, al, pl, by omega, by go_num, rfl, rfl, rfl, rfl, by simp; rfl, rfl, HC4, by unfold Hid; have := HR4.out; simpa using this⟩
                case measure => simp [intOf]; omega
          · as_aux_lemma =>
                have hroom : ¬ (came.length : Int) - got < n := by omega
                go_wp2_with (first
                  | (go_at_call 15; refine (arr_full (HC1.out _) hr (by omega) pt l HL.out (by omega) (by omega)).mono ?_; rintro e w3 ⟨rfl, S3, hc3, ho3⟩; have HR3 := hid ((HR1.out _).only ho3); have HC3 := hid hc3; clear hc3 ho3))
                go_roundw
                case rel => exact ⟨k + 1, got, gone, S3, came, laid, ac, pc, al, pl, by omega, by go_num, rfl, rfl, rfl, rfl, rfl, rfl, HC3, HR3⟩
                case measure => simp [intOf]; omega
      · by_cases k5 : kd = 5
        · subst k5
          clear k1
          by_cases hr : got < came.length
          · as_aux_lemma =>
                have hne : ¬ (got : Int) = came.length := by omega
                have hne2 : ((got : Int) == (came.length : Int)) = false := by simpa using hne
                have hq : ((got % n : Nat) : Int) + 1 = ((got % n + 1 : Nat) : Int) := rfl
                have hmo : (((got % n + 1 : Nat) : Int)).tmod n = ((got + 1) % n : Nat) := by rw [Int.tmod_eq_emod_of_nonneg (by omega), ← Int.natCast_emod, succ_mod _ _ (by omega)]
                have hmo2 : (((got % n + 1 : Nat) : Int)) % (n : Int) = ((got + 1) % n : Nat) := by rw [← Int.natCast_emod, succ_mod _ _ (by omega)]
                have hqb := Nat.mod_lt got (show 0 < n by omega)
                obtain ⟨q, hqq⟩ : ∃ q, q = got % n := ⟨_, rfl⟩
                have HQ := hid hqq
                rw [← hqq] at hq hmo hmo2 hqb ⊢
                obtain ⟨q1, hq1⟩ : ∃ q1 : Nat, q1 = (got + 1) % n := ⟨_, rfl⟩
                have HQ1 := hid hq1
                rw [← hq1] at hmo hmo2
                have hmo3 : ((q : Int) + 1).tmod n = q1 := hmo
                have hmo4 : ((q : Int) + 1) % n = q1 := hmo2
                clear hqq hq1 hmo hmo2 hq
                have hn0 : ¬ n = 0 := by omega
                go_wp2_with (first
                  | (go_at_call 16; refine (rx_used (HC1.out _) hr q HQ.out).mono ?_; rintro e w3 ⟨g', l', rfl, HL', HG', HV', HZ', HB'⟩; have HC3 : Hid (∀ ob, FlowC (w3.alloc ob) n m c g h S came laid got gone k) := (fun ob => ((HC1.out _).below HB'.out).below (balloc w3 ob)); have HR3 : Hid (∀ ob, FlowR w (w3.alloc ob) c g h (.slice ac came.length pc) (.slice al laid.length pl) came laid) := (fun ob => ((HR1.out _).below HB'.out).below (balloc w3 ob)); have HK3 : Hid (∀ k, CardK c g h k → k < wr.heap.size) := (fun k hk => (HR.out.kin k hk).2); have HS3 : Hid (wr.heap.size + 1 ≤ w3.heap.size) := (by have := HB'.out.size; simp at this; exact this))
                  | (go_at_call 17; refine (give_flow (HC3.out _) hr q HQ.out).mono ?_; rintro e w5 ⟨rfl, S5, hc5, ho5⟩; have HC5 := hid hc5; have HR5 := hid ((HR3.out _).only ho5); have bx : w5.heap[w3.heap.size]? = _ := (ho5.block w3.heap.size (fun hk => by have := HK3.out _ hk; have := HS3.out; omega) (by simp)).trans (heap_new w3 _); have y0 := cellHeap bx 0 rfl; have y1 : w5.cell? ⟨w3.heap.size, 1, none⟩ = some (.slice (some ⟨g', 0, none⟩) l' l') := cellHeap bx 1 rfl; have gx : w5.heap[g']? = some (.cells (u8s (came.getD got [])).toArray 5 (0, 0)) := (ho5.block g' (fun hk => by have := HK3.out _ hk; have := HG'.out; simp at this; omega) (by have := heap_lt HV'.out; simp; omega)).trans ((heap_old _ _ (heap_lt HV'.out)).trans HV'.out); have hcv : ∀ z, (convert 43 9 (.slice (some ⟨g', 0, none⟩) l' l')).run Try.prog (w5.drewN z) = .ok (.string (strOfNums (came.getD got []))) (w5.drewN z) := (fun z => by have := conv_part ⟨some ⟨g', 0, none⟩, l', came.getD got []⟩ (w5.drewN z) (Part.ok_drewN (Part.of_row gx (by rw [HL'.out]; exact Nat.le_refl _) HZ'.out) z); rw [part_val] at this; simp only [← HL'.out] at this; exact this); obtain ⟨gv, hac, hcc⟩ := HR5.out.at got hr; have HAC := hid hac; subst hac; have hcc2 : w5.cell? ⟨gv, got, none⟩ = some (.string (strOfNums (came.getD got []))) := hcc; clear hcc bx gx hc5 ho5; generalize strOfNums (came.getD got []) = SX at hcv hcc2))
                go_quiet (fail)
                go_wp2
                go_roundw
                case rel => exact ⟨k + 1, got + 1, gone, S5, came, laid, _, pc, al, pl, by omega, by go_num, by go_num, rfl, by rw [HQ1.out], rfl, rfl, rfl, HC5.out.below (drewN_below _ _), HR5.out.below (drewN_below _ _)⟩
                case measure => simp [intOf]; omega
          · as_aux_lemma =>
                have heq : (got : Int) = came.length := by omega
                have heq2 : ((got : Int) == (came.length : Int)) = true := by simpa using heq
                have HEQ := hid heq
                obtain ⟨q, hqq⟩ : ∃ q, q = got % n := ⟨_, rfl⟩
                have HQ := hid hqq
                rw [← hqq]
                clear hqq heq
                go_wp2_with (first
                  | (go_at_call 16; refine (rx_free (HC1.out _) hr q HQ.out).mono ?_; rintro e w3 ⟨g', l', c', rfl, hb⟩; have HC3 : Hid (∀ ob, FlowC (w3.alloc ob) n m c g h S came laid got gone k) := (fun ob => ((HC1.out _).below hb).below (balloc w3 ob)); have HR3 : Hid (∀ ob, FlowR w (w3.alloc ob) c g h (.slice ac came.length pc) (.slice al laid.length pl) came laid) := (fun ob => ((HR1.out _).below hb).below (balloc w3 ob)); clear hb))
                go_roundw
                case rel => exact ⟨k + 1, got, gone, S, came, laid, ac, pc, al, pl, by omega, by go_num, rfl, rfl, by rw [HQ.out], rfl, rfl, rfl, (HC3.out _).next, HR3.out _⟩
                case measure => simp [intOf]; omega
        · by_cases k6 : kd = 6
          · subst k6
            clear k1 k5
            have hqb := Nat.mod_lt laid.length (show 0 < m by omega)
            have hmo : (((laid.length % m + 1 : Nat) : Int)).tmod m = ((laid.length + 1) % m : Nat) := by rw [Int.tmod_eq_emod_of_nonneg (by omega), ← Int.natCast_emod, succ_mod _ _ (by omega)]
            have hmo2 : (((laid.length % m + 1 : Nat) : Int)) % (m : Int) = ((laid.length + 1) % m : Nat) := by rw [← Int.natCast_emod, succ_mod _ _ (by omega)]
            obtain ⟨q, hqq⟩ : ∃ q, q = laid.length % m := ⟨_, rfl⟩
            have HQ := hid hqq
            rw [← hqq] at hmo hmo2 hqb ⊢
            obtain ⟨q1, hq1⟩ : ∃ q1 : Nat, q1 = (laid.length + 1) % m := ⟨_, rfl⟩
            have HQ1 := hid hq1
            rw [← hq1] at hmo hmo2
            have hmo3 : ((q : Int) + 1).tmod m = q1 := hmo
            have hmo4 : ((q : Int) + 1) % m = q1 := hmo2
            clear hqq hq1 hmo hmo2
            have hm0 : ¬ m = 0 := by omega
            by_cases hs : l < 60
            · as_aux_lemma =>
                  have hs2 : ¬ (60 : Int) ≤ l := by omega
                  have hroom := Classical.em ((laid.length : Int) - gone < m)
                  rcases hroom with hroom | hroom
                  all_goals
                    go_wp2_with (first
                      | (go_at_call 18; refine (lay_wrong (HC1.out _) q HQ.out pt l (Or.inl hs) hzl).mono ?_; rintro e w3 ⟨z, rfl, hz, hb⟩; have hz2 : (z == (0 : Int)) = false := (by simpa using hz); have HC3 := hid ((HC1.out _).below hb); have HR3 := hid ((HR1.out _).below hb); clear hb))
                    go_roundw
                    case rel => exact ⟨k + 1, got, gone, S, came, laid, ac, pc, al, pl, by omega, by go_num, rfl, rfl, rfl, by rw [HQ.out], rfl, rfl, HC3.out.next, HR3⟩
                    case measure => simp [intOf]; omega
            · by_cases hb : 1514 < l
              · as_aux_lemma =>
                    have hs2 : (60 : Int) ≤ l := by omega
                    have hs3 : ¬ (l : Int) ≤ 1514 := by omega
                    have hroom := Classical.em ((laid.length : Int) - gone < m)
                    rcases hroom with hroom | hroom
                    all_goals
                      go_wp2_with (first
                        | (go_at_call 18; refine (lay_wrong (HC1.out _) q HQ.out pt l (Or.inr hb) hzl).mono ?_; rintro e w3 ⟨z, rfl, hz, hb⟩; have hz2 : (z == (0 : Int)) = false := (by simpa using hz); have HC3 := hid ((HC1.out _).below hb); have HR3 := hid ((HR1.out _).below hb); clear hb))
                      go_roundw
                      case rel => exact ⟨k + 1, got, gone, S, came, laid, ac, pc, al, pl, by omega, by go_num, rfl, rfl, rfl, by rw [HQ.out], rfl, rfl, HC3.out.next, HR3⟩
                      case measure => simp [intOf]; omega
              · have hs2 : (60 : Int) ≤ l := by omega
                have hs3 : (l : Int) ≤ 1514 := by omega
                by_cases hr : laid.length < gone + m
                · as_aux_lemma =>
                      have hroom : (laid.length : Int) - gone < m := by omega
                      go_wp2_with (first
                        | (go_at_call 18; refine (lay_flow (HC1.out _) hr q HQ.out pt (HOK1.out _) l HL.out (by omega) (by omega)).mono ?_; rintro e w3 ⟨rfl, S3, hc3, ho3⟩; have hr3 := (HR1.out _).only ho3; have HOK3 : Hid (pt.ok w3) := Part.ok_below HOKW.out hr3.bel; have hq2 : w3.cell? ⟨wr.heap.size, 2, none⟩ = some (.slice pt.a l pt.c) := cellHeap ((ho3.block wr.heap.size (fun hk => by have := (HR.out.kin _ hk).2; omega) (by simp)).trans (heap_new wr _)) 2 rfl; have hcv : (convert 43 9 (.slice pt.a l pt.c)).run Try.prog w3 = .ok (.string (strOfNums pt.zs)) w3 := (by have := conv_part pt w3 HOK3.out; rw [part_val, HL.out] at this; exact this); obtain ⟨gv, cap, w4, hrun, hr4, hk4⟩ := hr3.swap.push pt.zs (by omega); have HRUN := hid hrun; have HC4 := hid (hc3.keep hk4); have HR4 := hid hr4.swap; clear hrun hr4 hk4 hc3 hr3 ho3)
                        | (at_builtin; refine wpList_append_run _ rfl (.tmp 178) (.tmp 182) 36 36 rfl _ _ rfl rfl HRUN.out ?_))
                      go_roundw
                      case rel => exact ⟨k + 1, got, gone, S3, came, laid ++ [pt.zs], ac, pc, _, cap, by omega, by go_num, rfl, rfl, rfl, by simp only [List.length_append, List.length_cons, List.length_nil]; rw [HQ1.out], rfl, by simp; rfl, HC4, by unfold Hid; have := HR4.out; simpa using this⟩
                      case measure => simp [intOf]; omega
                · as_aux_lemma =>
                      have hroom : ¬ (laid.length : Int) - gone < m := by omega
                      go_wp2_with (first
                        | (go_at_call 18; refine (lay_full (HC1.out _) hr q HQ.out pt l (by omega) (by omega)).mono ?_; rintro e w3 ⟨z, rfl, hz, hb⟩; have hz2 : (z == (0 : Int)) = false := (by simpa using hz); have HC3 := hid ((HC1.out _).below hb); have HR3 := hid ((HR1.out _).below hb); clear hb))
                      go_roundw
                      case rel => exact ⟨k + 1, got, gone, S, came, laid, ac, pc, al, pl, by omega, by go_num, rfl, rfl, rfl, by rw [HQ.out], rfl, rfl, HC3.out.next, HR3⟩
                      case measure => simp [intOf]; omega
          · by_cases k2 : kd = 2
            · subst k2
              clear k1 k5 k6
              by_cases hr : gone < laid.length
              · as_aux_lemma =>
                    have hr2 : (gone : Int) < laid.length := by omega
                    have hr3 : decide ((gone : Int) < laid.length) = true := by simpa using hr2
                    go_wp2_with (first
                      | (go_at_call 19; refine (dep_flow (HC1.out _) hr (by omega)).mono ?_; rintro e w5 ⟨g', l', rfl, HL', HV', HZ', S5, HC5, HO5⟩; have HR5 := hid ((HR1.out _).only HO5.out); have hcv : ∀ z, (convert 43 9 (.slice (some ⟨g', 0, none⟩) l' l')).run Try.prog (w5.drewN z) = .ok (.string (strOfNums (laid.getD gone []))) (w5.drewN z) := (fun z => by have := conv_part ⟨some ⟨g', 0, none⟩, l', laid.getD gone []⟩ (w5.drewN z) (Part.ok_drewN (Part.of_row HV'.out (by rw [HL'.out]; exact Nat.le_refl _) HZ'.out) z); rw [part_val] at this; simp only [← HL'.out] at this; exact this); obtain ⟨gv, hac, hcc⟩ := HR5.out.swap.at gone hr; subst hac; have hcc2 : w5.cell? ⟨gv, gone, none⟩ = some (.string (strOfNums (laid.getD gone []))) := hcc; clear hcc; generalize strOfNums (laid.getD gone []) = SX at hcv hcc2))
                    go_quiet (fail)
                    go_wp2
                    go_roundw
                    case rel => exact ⟨k + 1, got, gone + 1, S5, came, laid, ac, pc, _, pl, by omega, by go_num, rfl, by go_num, rfl, rfl, rfl, rfl, HC5.out.below (drewN_below _ _), HR5.out.below (drewN_below _ _)⟩
                    case measure => simp [intOf]; omega
              · as_aux_lemma =>
                    have hr2 : ¬ (gone : Int) < laid.length := by omega
                    have hr3 : decide ((gone : Int) < laid.length) = false := by simpa using hr2
                    go_wp2_with (first
                      | (go_at_call 19; refine (dep_none (HC1.out _) hr).mono ?_; rintro e w5 ⟨rfl, hb⟩; have HC5 := hid ((HC1.out _).below hb); have HR5 := hid ((HR1.out _).below hb); clear hb))
                    go_quiet (fail)
                    go_wp2
                    go_roundw
                    case rel => exact ⟨k + 1, got, gone, S, came, laid, ac, pc, al, pl, by omega, by go_num, rfl, rfl, rfl, rfl, rfl, rfl, (HC5.out.below (drewN_below _ _)).next, HR5.out.below (drewN_below _ _)⟩
                    case measure => simp [intOf]; omega
            · as_aux_lemma =>
                  go_wp2
                  go_roundw
                  case rel => exact ⟨k + 1, got, gone, S, came, laid, ac, pc, al, pl, by omega, by go_num, rfl, rfl, rfl, rfl, rfl, rfl, (HC1.out _).next, HR1.out _⟩
                  case measure => simp [intOf]; omega
    · as_aux_lemma =>
          have hge : ¬ (k : Int) < N := by omega
          have hci : (S.ci : Int) = came.length := by have := HC.out.ci; omega
          have hco : (S.co : Int) = gone := by have := HC.out.co; omega
          go_wp2_with (first | (go_at_call 11; refine (counts_any c g h S wr HC.out.card).mono ?_; rintro e w' ⟨rfl, hb⟩; have HB := hid hb; clear hb))
          go_ret
          exact ⟨rfl, bpush (bstep HR.out.bel HB.out) _⟩
end Go.Proofs.Ytclmmncadlbaiaa
