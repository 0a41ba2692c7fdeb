/-
  The document's Decode. Written by mkbord.py.
-/
import Derived.Test.YtoifblndpcelkaaBoRfT
import Derived.Test.YtoifblndpcelkaaBoDecW
import Derived.Test.YtoifblndpcelkaaOFrJ
import Derived.Test.YtoifblndpcelkaaORPw
import Derived.Test.YtoifblndpcelkaaBoAsk
namespace Go.Proofs.Ytoifblndpcelkaa
open Go.RowKit
set_option linter.all false

theorem ov_cases {g : List Opt} (h : Took g) : (findO g 52 = none ∧ ovG g = (0, 0)) ∨ (∃ zs', findO g 52 = some zs' ∧ zs'.length ≠ 1 ∧ ovG g = (0, 162)) ∨ (∃ q : Nat, findO g 52 = some [(q : Int)] ∧ q ≤ 255 ∧ (((q = 0 ∨ 3 < q) ∧ ovG g = (0, 162)) ∨ (1 ≤ q ∧ q ≤ 3 ∧ ovG g = ((q : Int), 0)))) := by
  have hany : ∀ L : List Opt, L.any (fun o => o.1 == 52) = (findO L 52).isSome := fun L => by
    unfold findO
    induction L with
    | nil => rfl
    | cons o L ih =>
      simp only [List.any_cons, List.find?_cons]
      cases o.1 == 52 <;> simp_all
  unfold ovG
  rw [hany]
  cases hf : findO g 52 with
  | none => exact Or.inl ⟨rfl, rfl⟩
  | some zs' =>
    simp only [Option.isSome_some, if_true, Option.getD_some]
    have hz : ∀ z ∈ zs', 0 ≤ z ∧ z ≤ 255 := fun z hz => by
      unfold findO at hf
      cases hq : g.find? (fun o => o.1 == 52) with
      | none => rw [hq] at hf; simp at hf
      | some o =>
        rw [hq] at hf
        simp only [Option.map_some, Option.some.injEq] at hf
        exact h.oks o (List.mem_of_find?_eq_some hq) z (by rw [hf]; exact hz)
    match zs' with
    | [] => exact Or.inr (Or.inl ⟨[], rfl, by simp, by simp [exN]⟩)
    | a :: b :: r => exact Or.inr (Or.inl ⟨a :: b :: r, rfl, by simp, by simp [exN]⟩)
    | [q] =>
      have hq := hz q (by simp)
      obtain ⟨q, rfl⟩ : ∃ k : Nat, q = (k : Int) := ⟨q.toNat, by omega⟩
      refine Or.inr (Or.inr ⟨q, rfl, by omega, ?_⟩)
      have e : exN [(q : Int)] 1 = (q : Int) := by simp [exN, getTo]
      rw [e]
      by_cases hb : q = 0 ∨ 3 < q
      · refine Or.inl ⟨hb, ?_⟩
        rw [if_pos (by omega)]
      · refine Or.inr ⟨by omega, by omega, ?_⟩
        rw [if_neg (by omega)]
def badZ (z0 z1 z2 : Int) : Bool := decide (¬ ((z0 = 1 ∨ z0 = 2) ∧ z1 = 1 ∧ z2 = 6))
theorem bad_unR {zs : List Int} (hz : ∀ z ∈ zs, 0 ≤ z ∧ z ≤ 255) (h : 240 ≤ zs.length) (hb : badZ (zs.getD 0 0) (zs.getD 1 0) (zs.getD 2 0) = true) : unR zs = 160 := by
  have h1 := getD_mem_bd hz 1
  have h2 := getD_mem_bd hz 2
  unfold unR
  rw [if_neg (by omega), if_pos]
  intro ⟨a, b⟩
  have hg : getTo zs 1 2 = zs.getD 1 0 * 256 + zs.getD 2 0 := by simp [getTo]
  rw [hg] at b
  have := of_decide_eq_true hb
  exact this ⟨a, by omega, by omega⟩
theorem good_unR {zs : List Int} (hz : ∀ z ∈ zs, 0 ≤ z ∧ z ≤ 255) (h : 240 ≤ zs.length) (hb : badZ (zs.getD 0 0) (zs.getD 1 0) (zs.getD 2 0) = false) : unR zs = if getTo zs 236 4 = 1669485411 then 0 else 161 := by
  have h3 := of_decide_eq_false hb
  simp only [Decidable.not_not] at h3
  have hg : getTo zs 1 2 = zs.getD 1 0 * 256 + zs.getD 2 0 := by simp [getTo]
  unfold unR
  rw [if_neg (by omega), if_neg (by rw [hg]; simp only [Decidable.not_not]; exact ⟨h3.1, by omega⟩)]
  by_cases e : getTo zs 236 4 = 1669485411
  · rw [if_neg (by simpa using e), if_pos e]
  · rw [if_pos e, if_neg e]
/-- the rooms' row, the answer's box. -/
structure DQ (w : World) (ps : List Part) (v : Value) (W : World) : Prop where
  row : Row W 33 v (ps.map Part.val)
  low : ∀ b, v.ownBlock = some b → w.heap.size ≤ b
  res : W.heap[w.heap.size]? = some (.cells zeroC 28 (0, 0))
  below : Below w.heap.size w W
theorem DQ.keep {w W W' : World} {ps : List Part} {v : Value} (h : DQ w ps v W) (hb : Below W.heap.size W W') : DQ w ps v W' := ⟨h.row.below hb, h.low, kept h.res hb, bstep h.below hb⟩
theorem DQ.but {w W W' : World} {ps : List Part} {v : Value} {gm : Nat} {X : Array Value} (h : DQ w ps v W) (hb : But gm W W') (hs : DcS w gm X W) : DQ w ps v W' :=
  ⟨h.row.keep fun b hb' => hb.block b (fun e => by
    subst e
    obtain ⟨cur, f, e⟩ := h.row.obj hb'
    rw [hs.box] at e
    simp at e) (h.row.lt hb'), h.low, keptBut h.res hb hs.ne, bbut h.below hb hs.low⟩
theorem DcS.row {w W W' : World} {gm : Nat} {X : Array Value} {v : Value} {vs : List Value} (h : DcS w gm X W) (hr : Row W 33 v vs) (hk : Stays W W' v) (hb : Below w.heap.size W W') : DcS w gm X W' := by
  have ne : ∀ g Y, W.heap[g]? = some (.cells Y 28 (0, 0)) → v.ownBlock ≠ some g := fun g Y hg e => by
    obtain ⟨cur, f, e2⟩ := hr.obj e
    rw [hg] at e2
    simp at e2
  exact ⟨(hk _ (heap_lt h.res) (ne _ _ h.res)).trans h.res, (hk _ (heap_lt h.box) (ne _ _ h.box)).trans h.box, h.ne, h.low, h.below.trans hb⟩
theorem room_app2 {w : World} {v : Value} {vs : List Value} (B : Nat) (h : Row w 33 v vs) (x : Value) (hx : x.oneCell' = true) (hB : B ≤ w.heap.size) (hf : ∀ b, v.ownBlock = some b → B ≤ b) (hl : vs.length ≤ 5) :
    ∃ a n c w', (Builtin.append_ #[39, 39] 39 #[v, .slice (some ⟨w.heap.size, 0, none⟩) 1 1]).run Try.prog (w.alloc (.cells #[x] 33)) = .ok (.slice a n c) w' ∧ Row w' 33 (.slice a n c) (vs ++ [x]) ∧ (∀ b, (Value.slice a n c).ownBlock = some b → B ≤ b) ∧ Stays w w' v ∧ Below B w w' := by
  have ha := h.below (bpush (Below.refl _ w) (.cells #[x] 33))
  obtain ⟨v', w1, h1, h2, h3, h4⟩ := append_one 39 39 33 _ 24 Try.underlying39 infoSl rfl ha x hx w.heap.size (0, 0) (heap_new w _) (by unfold maxLen; omega) (by omega)
  obtain ⟨a, c, e, _⟩ := h2.form
  rw [e] at h1 h2
  refine ⟨a, _, c, w1, h1, h2, ?_, fun b hb hv => ?_, ((bpush (Below.refl _ w) _).mono hB).trans (grown_from h3 hf (Nat.le_trans hB (by simp)))⟩
  · rw [← e]
    intro b hb
    rcases h4 with ⟨g, cap, e1, e2⟩ | ⟨g, cap, e1, e2, _⟩
    · rw [e2] at hb
      refine hf b ?_
      rw [e1]
      exact hb
    · rw [e1] at hb
      simp only [Value.ownBlock, Option.some.injEq] at hb
      subst hb
      simp at e2
      omega
  · rw [h3.block b (by simp; omega) (fun e => hv e.symm), heap_old _ _ hb]
theorem filt_codes : ∀ E : List (Opt × Value), codes (E.filter fun p => p.1.1 != 52) = (codes E).filter fun o => o.1 != 52
  | [] => rfl
  | p :: E => by
    have := filt_codes E
    simp only [codes] at this ⊢
    by_cases h : p.1.1 = 52
    · simp [h, this]
    · simp [h, this]
/-- the mac's bytes, one by one. -/
def macX (X : Array Value) (zs : List Int) : Nat → Array Value
  | 0 => X
  | k + 1 => (macX X zs k).setIfInBounds (9 + k) (.int .u8 (zs.getD (28 + k) 0))
theorem macX_size (X : Array Value) (zs : List Int) : ∀ k, (macX X zs k).size = X.size
  | 0 => rfl
  | k + 1 => by rw [macX, Array.size_setIfInBounds, macX_size X zs k]
set_option maxRecDepth 20000 in
set_option maxHeartbeats 8000000 in
theorem refDecode_any (pt : Part) (w : World) (hok : pt.ok w) (hl : pt.zs.length ≤ 140737488351232) :
    Calls Try.prog 18 #[pt.val] w fun e w' => DecP w (decR pt.zs) e w' := by
  obtain ⟨pa, c, zs⟩ := pt
  simp only [Part.val] at *
  obtain ⟨R, hR⟩ : ∃ R, R = decR zs := ⟨_, rfl⟩
  have HRR := hid hR
  rw [← hR]
  clear hR
  have HPE : Hid (∀ E w', R = .error E → Below w.heap.size w w' → DecP w R (.returned (.tuple #[.agg zeroC, .int .i64 E])) w') := fun E w' e hb => by rw [e]; exact decP_err w E w' hb
  obtain ⟨n, hn⟩ : ∃ n, n = zs.length := ⟨_, rfl⟩
  have HN := hid hn
  rw [← hn] at hl ⊢
  have HL := hid hl
  have HOK := hid hok
  have hcap : n ≤ c := by rw [hn]; exact hok.2.1
  clear hok hn
  obtain ⟨w1, hw1⟩ : ∃ w1, w1 = w.alloc (.cells zeroC 28) := ⟨_, rfl⟩
  have HR1 : Hid (w1.heap[w.heap.size]? = some (.cells zeroC 28 (0, 0))) := by rw [hw1]; exact heap_new _ _
  have HB1 : Hid (Below w.heap.size w w1) := by unfold Hid; rw [hw1]; exact bpush (Below.refl _ _) _
  have HZ1 : Hid (w1.heap.size = w.heap.size + 1) := hid (by rw [hw1]; simp)
  go_enter Try.func18, Try.ntmps18
  go_upto_region 1 with (first
    | (refine wpList_alloc_to rfl 28 rfl zeroC (by kernel_rfl) ?_; rw [← hw1]; clear hw1)
    | fail)
  by_cases hs : n < 240
  · have hs' : (n : Int) < 240 := by omega
    have HE : Hid (R = .error 5) := hid (by
      rw [HRR.out]
      unfold decR unR
      rw [if_pos (show zs.length < 240 by rw [← HN.out]; exact hs), if_pos (by omega)])
    go_wp2_with (first
      | (refine wpList_build_to rfl 28 _ rfl zeroC (by kernel_rfl) ?_)
      | (refine wpList_store_row rfl 28 _ _ rfl w.heap.size zeroC rfl rfl 28 _ HR1.out (by kernel_rfl) rfl (by kernel_rfl) ?_)
      | fail)
    all_goals
      refine bodyPost_ret (v := .tuple #[.agg zeroC, .int .i64 5]) ?_ (by rfl) (HPE.out _ _ HE.out (bbut HB1.out (But.setRow _ _ _) (Nat.le_refl _)))
      exact results_row2 Try.results18 _ _ w.heap.size 28 _ (0, 0) _ _ rfl rfl (setRow_heap _ _ _ _ _ _ HR1.out) Try.underlying28 rfl (by kernel_rfl)
  · have hs' : ¬ (n : Int) < 240 := by omega
    obtain ⟨b, o, ha⟩ : ∃ b o, pa = some ⟨b, o, none⟩ := by
      rcases HOK.out.2.2 with h | ⟨b, o, ha, hc⟩
      · have h2 := HN.out
        simp only at h
        rw [h] at h2
        simp at h2
        omega
      · exact ⟨b, o, ha⟩
    subst ha
    have HC : Hid (∀ W, Below w.heap.size w W → ∀ j, j < n → W.cell? ⟨b, o + j, none⟩ = some (.int .u8 (zs.getD j 0))) := fun W hb j hj => by
      rcases (Part.ok_below HOK.out hb).2.2 with h | ⟨b', o', ha, hc⟩
      · have h2 := HN.out
        simp only at h
        rw [h] at h2
        simp at h2
        omega
      · simp only [Option.some.injEq, Addr.mk.injEq] at ha
        obtain ⟨rfl, rfl, _⟩ := ha
        exact hc j (by rw [← HN.out]; exact hj)
    have HBD : Hid (∀ z ∈ zs, 0 ≤ z ∧ z ≤ 255) := HOK.out.1
    have n0 : (0 : Int) < (n : Int) := by omega
    have n1 : (1 : Int) < (n : Int) := by omega
    have n2 : (2 : Int) < (n : Int) := by omega
    have c0 := HC.out _ HB1.out 0 (by omega)
    have c1 := HC.out _ HB1.out 1 (by omega)
    have c2 := HC.out _ HB1.out 2 (by omega)
    rw [Nat.add_zero] at c0
    obtain ⟨B, hB⟩ : ∃ B, B = badZ (zs.getD 0 0) (zs.getD 1 0) (zs.getD 2 0) := ⟨_, rfl⟩
    have HB := hid hB
    clear hB
    have HBB : Hid (B = badZ (zs.getD 0 0) (zs.getD 1 0) (zs.getD 2 0)) := HB
    generalize zs.getD 0 0 = z0 at c0 HBB
    generalize zs.getD 1 0 = z1 at c1 HBB
    generalize zs.getD 2 0 = z2 at c2 HBB
    go_upto_region 3 with fail
    go_cut [24, 25, 26, 27, 28, 29, 30, 31, 32, 33, 34, 35, 36, 37, 38, 39, 40, 41, 42, 43, 44, 45, 46] (fun _ _ _ _ _ _ _ _ _ _ _ _ _ _ _ _ _ _ _ _ _ _ v wx => v = .bool B ∧ w1 = wx)
    case first =>
      have HV : ∀ x : Bool, badZ z0 z1 z2 = x → Hid (B = x) := fun x h => hid (HBB.out.trans h)
      by_cases a1 : z0 = 1
      · have g1 : (z0 != 1) = false := by simp [a1]
        by_cases a3 : z1 = 1
        · have g3 : (z1 != 1) = false := by simp [a3]
          by_cases a4 : z2 = 6
          · have g4 : (z2 != 6) = false := by simp [a4]
            have HV := HV false (by simp [badZ, a1, a3, a4])
            clear a4 a3 a1
            go_wp2_with fail
            go_meet
            case rel => exact ⟨by rw [HV.out], rfl⟩
          · have g4 : (z2 != 6) = true := by simpa using a4
            have HV := HV true (by simp [badZ, a1, a3, a4])
            clear a4 a3 a1
            go_wp2_with fail
            go_meet
            case rel => exact ⟨by rw [HV.out], rfl⟩
        · have g3 : (z1 != 1) = true := by simpa using a3
          have HV := HV true (by simp [badZ, a1, a3])
          clear a3 a1
          go_wp2_with fail
          go_meet
          case rel => exact ⟨by rw [HV.out], rfl⟩
      · have g1 : (z0 != 1) = true := by simpa using a1
        by_cases a2 : z0 = 2
        · have g2 : (z0 != 2) = false := by simp [a2]
          by_cases a3 : z1 = 1
          · have g3 : (z1 != 1) = false := by simp [a3]
            by_cases a4 : z2 = 6
            · have g4 : (z2 != 6) = false := by simp [a4]
              have HV := HV false (by simp [badZ, a2, a3, a4])
              clear a4 a3 a1 a2
              go_wp2_with fail
              go_meet
              case rel => exact ⟨by rw [HV.out], rfl⟩
            · have g4 : (z2 != 6) = true := by simpa using a4
              have HV := HV true (by simp [badZ, a2, a3, a4])
              clear a4 a3 a1 a2
              go_wp2_with fail
              go_meet
              case rel => exact ⟨by rw [HV.out], rfl⟩
          · have g3 : (z1 != 1) = true := by simpa using a3
            have HV := HV true (by simp [badZ, a2, a3])
            clear a3 a1 a2
            go_wp2_with fail
            go_meet
            case rel => exact ⟨by rw [HV.out], rfl⟩
        · have g2 : (z0 != 2) = true := by simpa using a2
          have HV := HV true (by simp [badZ, a1, a2])
          clear a1 a2
          go_wp2_with fail
          go_meet
          case rel => exact ⟨by rw [HV.out], rfl⟩
    case rest =>
      obtain ⟨rfl, rfl⟩ := hcut
      clear c0 c1 c2 HBB
      cases B with
      | true =>
        have HE : Hid (R = .error 160) := hid (by
          rw [HRR.out]
          unfold decR
          rw [bad_unR HBD.out (by rw [← HN.out]; omega) HB.out.symm, if_pos (by omega)])
        go_wp2_with (first
          | (refine wpList_build_to rfl 28 _ rfl zeroC (by kernel_rfl) ?_)
          | (refine wpList_store_row rfl 28 _ _ rfl w.heap.size zeroC rfl rfl 28 _ HR1.out (by kernel_rfl) rfl (by kernel_rfl) ?_)
          | fail)
        all_goals
          refine bodyPost_ret (v := .tuple #[.agg zeroC, .int .i64 160]) ?_ (by rfl) (HPE.out _ _ HE.out (bbut HB1.out (But.setRow _ _ _) (Nat.le_refl _)))
          exact results_row2 Try.results18 _ _ w.heap.size 28 _ (0, 0) _ _ rfl rfl (setRow_heap _ _ _ _ _ _ HR1.out) Try.underlying28 rfl (by kernel_rfl)
      | false =>
        have HUN : Hid (unR zs = if getTo zs 236 4 = 1669485411 then 0 else 161) := hid (good_unR HBD.out (by rw [← HN.out]; omega) HB.out.symm)
        have HNA236 : Hid (∀ W, Below w.heap.size w W → Calls Try.prog 46 #[.slice (some ⟨b, o, none⟩) n c, .int .i64 236, .int .i64 4] W fun e w' => e = .returned (.int .u64 (getTo zs 236 4)) ∧ w' = W) := fun W hW => by
          have h := refNumAt_any ⟨some ⟨b, o, none⟩, c, zs⟩ 236 4 W (Part.ok_below HOK.out hW) (by have := HL.out; have := HN.out; simp only; omega) (by omega) (by omega) (by have := HN.out; simp only; omega)
          simp only [Part.val, ← HN.out] at h
          exact h
        generalize hmk : getTo zs 236 4 = mk at HUN HNA236
        clear hmk
        go_upto_region 6 with (first
          | (go_at_call 46; refine (HNA236.out _ HB1.out).mono ?_; rintro e wx ⟨rfl, hw⟩; subst wx)
          | fail)
        clear HNA236
        by_cases hmk : mk = 1669485411
        · have g1 : (mk != 1669485411) = false := by simp [hmk]
          have HU0 : Hid (unR zs = 0) := hid (by rw [HUN.out, if_pos hmk])
          clear HUN hmk
          obtain ⟨R1, e1⟩ : ∃ R1, R1 = parseG [] [zs.drop 240] := ⟨_, rfl⟩
          have HE1 := hid e1
          have HRD : Hid (R = dec1 zs R1) := hid (by
            rw [HRR.out]
            unfold decR
            rw [if_neg (by rw [HU0.out]; simp), e1])
          have HT1 : Hid (Took (okL R1) ∧ sumO (okL R1) ≤ 140737488353280) := hid (by
            rw [e1]
            have := okL_took (ps := [zs.drop 240]) (fun p hp z hzp => by simp at hp; subst hp; exact HBD.out z (List.mem_of_mem_drop hzp))
            exact ⟨this.1, Nat.le_trans this.2 (by have := HL.out; have := HN.out; simp [sumB]; omega)⟩)
          have HRV : Hid ((rm0 b o c zs).val = .slice (if c = 240 then some ⟨b, o, none⟩ else some ⟨b, o + 240, none⟩) (n - 240) (c - 240)) := hid (by simp [rm0, Part.val, HN.out])
          go_upto_region 8 with fail
          go_cut [0, 5, 53, 54, 55] (fun v0 v5 _ _ _ wx => v0 = .slice (some ⟨b, o, none⟩) n c ∧ ∃ (wy : World) (A : Option Addr) (m : Nat), wy = wx ∧ v5 = .slice (some ⟨w1.heap.size, 0, none⟩) 1 1 ∧ Hid (wy = w1.alloc (.cells #[.slice A (n - 240) m] 33) ∧ .slice A (n - 240) m = (rm0 b o c zs).val))
          case first =>
            have q1 : (240 : Int) ≤ (n : Int) := by omega
            have q2 : (240 : Int) ≤ (c : Int) := by omega
            by_cases hc : c = 240
            · go_wp2_with fail
              go_meet
              case rel => exact ⟨by first | rfl | simp [hc], _, _, _, rfl, rfl, rfl, by rw [HRV.out]; simp [hc]⟩
            · go_wp2_with fail
              go_meet
              case rel => exact ⟨rfl, _, _, _, rfl, rfl, rfl, by rw [HRV.out]; simp [hc]⟩
          case rest =>
          obtain ⟨rfl, w2, A, m, rfl, rfl, HW2⟩ := hcut
          have HP1 : Hid (Calls Try.prog 47 #[.slice (some ⟨w1.heap.size, 0, none⟩) 1 1] w2 fun e w' => ∃ ax nx cx, e = .returned (.tuple #[.slice ax nx cx, .int .i64 (exR R1)]) ∧ Hid (OptI w w' (.slice ax nx cx) (okL R1) ∧ DQ w [rm0 b o c zs] (.slice (some ⟨w1.heap.size, 0, none⟩) 1 1) w')) := by
            rw [HW2.out.1, HW2.out.2]
            have hb := bpush (Below.refl _ w1) (.cells #[(rm0 b o c zs).val] 33)
            have hrow : Row (w1.alloc (.cells #[(rm0 b o c zs).val] 33)) 33 (.slice (some ⟨w1.heap.size, 0, none⟩) 1 1) ([rm0 b o c zs].map Part.val) := Row.of_heap (heap_new w1 _) (by unfold maxLen; simp)
            have hv := (PV.of_row hrow (fun p hp => by simp only [List.mem_singleton] at hp; subst hp; exact rm0_ok (Part.ok_below HOK.out (bstep HB1.out hb)) (by have := HN.out; omega))).1
            have := refParse_any (some ⟨w1.heap.size, 0, none⟩) 1 [rm0 b o c zs] _ hv (by simp) (by have := HN.out; have := HL.out; simp [partsZ, sumB, rm0]; omega)
            rw [show partsZ [rm0 b o c zs] = [zs.drop 240] from rfl, ← e1] at this
            refine this.mono ?_
            rintro e w' ⟨ax, n', cx, rfl, HI⟩
            obtain ⟨p1, p2⟩ := parse_opt (w := w) HI.out (Nat.le_trans HB1.out.size hb.size)
            exact ⟨ax, n', cx, rfl, p1, ⟨hrow.below p2, fun b' hb' => by
              have : w1.heap.size = b' := by simpa [Value.ownBlock] using hb'
              have := HB1.out.size
              omega, kept HR1.out (bstep hb p2), bstep HB1.out (bstep hb p2)⟩⟩
          have HNE1 : Hid (R1 ≠ .error 0) := hid (by rw [e1]; exact bparse_err _ _)
          clear e1 HRR HU0 HB HRV HW2
          by_cases x1 : exR R1 = 0
          · obtain ⟨g, eg⟩ := exR_ok HNE1.out x1
            subst eg
            rw [x1] at HP1
            clear x1 HNE1
            simp only [okL] at HP1 HT1
            go_upto_region 10 with (first
              | (go_at_call 47; refine HP1.out.mono ?_; rintro e w3 ⟨ax, nx, cx, rfl, HQ3⟩)
              | fail)
            clear HP1
            obtain ⟨D, hD⟩ : ∃ D, D = findO g 52 := ⟨_, rfl⟩
            have HD := hid hD
            have HFD : Hid (Calls Try.prog 48 #[.slice ax nx cx, .int .i64 52] w3 fun e w' => ∃ ay cy, e = .returned (.tuple #[.slice ay (D.getD []).length cy, .bool D.isSome]) ∧ Hid (Ans w3 w' (D.getD []) ay (D.getD []).length cy)) := by
              obtain ⟨E1, o1, ec1⟩ := HQ3.out.1
              have hv := opt_view o1 ec1 HT1.out.1 HT1.out.2
              have := refFind_any ax cx (E1.map ptOf) 52 w3 hv.1
              have e2 : (fstP (E1.map ptOf) 52).zs = D.getD [] := by
                have h1 := find_abs (E1.map ptOf) 52
                rw [ptOf_abs, show E1.map Prod.fst = g from ec1, ← hD] at h1
                rw [h1]
                unfold fstP
                cases fst? (E1.map ptOf) 52 <;> rfl
              have e3 : fstB (E1.map ptOf) 52 = D.isSome := by
                have h1 := find_abs (E1.map ptOf) 52
                rw [ptOf_abs, show E1.map Prod.fst = g from ec1, ← hD] at h1
                rw [h1]
                unfold fstB
                cases fst? (E1.map ptOf) 52 <;> rfl
              rw [List.length_map, ← hv.2, e2, e3] at this
              exact this
            have HOV := hid (ov_cases HT1.out.1)
            rw [← hD] at HOV
            clear hD
            have HQ := hid HQ3.out.2
            have HE0 : Hid (ovG g = (0, 162) → R = .error 162) := fun h => by rw [HRD.out]; show (if (ovG g).2 ≠ 0 then _ else _) = _; rw [h, if_pos (by simp)]
            by_cases hgood : D = none ∨ ∃ q : Nat, D = some [(q : Int)] ∧ 1 ≤ q ∧ q ≤ 3
            · have HH : Hid (∃ h : Int, ovG g = (h, 0) ∧ (h = 0 ∨ h = 1 ∨ h = 2 ∨ h = 3) ∧ ((D = none ∧ h = 0) ∨ ∃ q : Nat, D = some [(q : Int)] ∧ 1 ≤ q ∧ q ≤ 3 ∧ h = q)) := hid (by
                rcases HOV.out with ⟨d1, d2⟩ | ⟨z', d1, d2, d3⟩ | ⟨q, d1, d2, ⟨d3, d4⟩ | ⟨d3, d4, d5⟩⟩
                · exact ⟨0, d2, Or.inl rfl, Or.inl ⟨d1, rfl⟩⟩
                · rcases hgood with h | ⟨q, h, _⟩
                  · rw [h] at d1; simp at d1
                  · rw [h] at d1; simp only [Option.some.injEq] at d1; rw [← d1] at d2; simp at d2
                · rcases hgood with h | ⟨q', h, h1, h2⟩
                  · rw [h] at d1; simp at d1
                  · rw [h] at d1; simp only [Option.some.injEq, List.cons.injEq, and_true] at d1; omega
                · exact ⟨q, d5, by omega, Or.inr ⟨q, d1, d3, d4, rfl⟩⟩)
              clear hgood HOV
              obtain ⟨h, hov, hh, hD⟩ := HH.out
              have HHH := hid hh
              have HOV := hid hov
              have HDD := hid hD
              clear HH hov hh hD HE0
              obtain ⟨sd, hsd⟩ : ∃ sd, sd = D.getD [] := ⟨_, rfl⟩
              have HSD := hid hsd
              rw [← hsd] at HFD
              obtain ⟨Bi, hBi⟩ : ∃ Bi, Bi = D.isSome := ⟨_, rfl⟩
              have HBI := hid hBi
              rw [← hBi] at HFD
              obtain ⟨sn, hsn⟩ : ∃ sn, sn = sd.length := ⟨_, rfl⟩
              have HSN := hid hsn
              rw [← hsn] at HFD
              clear hsd hBi hsn
              go_upto_region 14 with (first
                | (go_at_call 48; refine HFD.out.mono ?_; rintro e w4 ⟨ay, cy, rfl, HA4⟩)
                | fail)
              clear HFD
              have HQ4 := hid (HQ.out.keep HA4.out.2.2)
              go_upto_if 70 with fail
              go_cut [10, 71, 72, 73, 74, 75, 76, 77, 78, 79, 80, 81, 82, 83, 84, 85, 86, 87, 88, 89, 90] (fun v _ _ _ _ _ _ _ _ _ _ _ _ _ _ _ _ _ _ _ _ wx => v = .int .i64 h ∧ w4 = wx)
              case first =>
                cases Bi with
                | false =>
                  have hh0 : Hid (h = 0) := hid (by
                    rcases HDD.out with ⟨_, h0⟩ | ⟨q, h1, _⟩
                    · exact h0
                    · have := HBI.out; rw [h1] at this; simp at this)
                  go_wp2_with fail
                  go_meet
                  case rel => exact ⟨by rw [hh0.out], rfl⟩
                | true =>
                  obtain ⟨q, hq⟩ : ∃ q : Nat, Hid (D = some [(q : Int)] ∧ 1 ≤ q ∧ q ≤ 3 ∧ h = q) := by
                    rcases HDD.out with ⟨h0, _⟩ | ⟨q, h1⟩
                    · have := HBI.out; rw [h0] at this; simp at this
                    · exact ⟨q, h1⟩
                  have hsn1 : Hid (sn = 1) := hid (by rw [HSN.out, HSD.out, hq.out.1]; rfl)
                  obtain ⟨gy, c2, hay, hcell⟩ : ∃ gy c2, Hid (ay = some ⟨gy, 0, none⟩ ∧ cy = c2) ∧ w4.cell? ⟨gy, 0, none⟩ = some (.int .u8 q) := by
                    obtain ⟨g', cap, e, hc⟩ := HA4.out.1.cell 0 (by rw [u8s_len, HSD.out, hq.out.1]; simp)
                    simp only [Value.slice.injEq] at e
                    refine ⟨g', cap, ⟨e.1, e.2.2⟩, ?_⟩
                    rw [hc]
                    have e2 : sd = [(q : Int)] := by rw [HSD.out, hq.out.1]; rfl
                    simp [e2, u8s]
                  have hn1 : ((sn : Int) != 1) = false := by rw [hsn1.out]; rfl
                  have hn2 : (0 : Int) < (sn : Int) := by rw [hsn1.out]; decide
                  have hn3 : 0 < sn := by rw [hsn1.out]; decide
                  have hq1 : ¬ (q : Int) < 1 := by have := hq.out; omega
                  have hq3 : ¬ (3 : Int) < (q : Int) := by have := hq.out; omega
                  obtain ⟨ha1, ha2⟩ := hay.out
                  subst ha1
                  subst ha2
                  go_wp2_with fail
                  go_meet
                  case rel => exact ⟨by rw [hq.out.2.2.2], rfl⟩
              case rest =>
              obtain ⟨rfl, rfl⟩ := hcut
              have HRH : Hid (R = dec2 zs h (parseG [] (roomsZ zs h))) := hid (by
                rw [HRD.out]
                show (if (ovG g).2 ≠ 0 then _ else dec2 zs (ovG g).1 (if (ovG g).1 = 0 then .ok g else parseG [] (roomsZ zs (ovG g).1))) = _
                rw [HOV.out, if_neg (by simp)]
                by_cases h0 : h = 0
                · rw [if_pos h0, HE1.out, h0]
                  simp [roomsZ]
                · rw [if_neg h0])
              clear HRD HOV HDD HSD HBI HSN HA4 HQ HT1 HE1
              as_aux_lemma =>
                have HY : Hid (∃ y0 y3 y10 : Int, (y0 = zs.getD 0 0 ∧ y3 = zs.getD 3 0 ∧ y10 = zs.getD 10 0) ∧ ∀ W, Below w.heap.size w W → W.cell? ⟨b, o, none⟩ = some (.int .u8 y0) ∧ W.cell? ⟨b, o + 3, none⟩ = some (.int .u8 y3) ∧ W.cell? ⟨b, o + 10, none⟩ = some (.int .u8 y10)) := ⟨_, _, _, ⟨rfl, rfl, rfl⟩, fun W hW => ⟨by simpa using HC.out W hW 0 (by omega), HC.out W hW 3 (by omega), HC.out W hW 10 (by omega)⟩⟩
                obtain ⟨y0, y3, y10, hy, hys⟩ := HY.out
                have HYE := hid hy
                have HYS := hid hys
                have by0 : 0 ≤ y0 ∧ y0 ≤ 255 := by rw [hy.1]; exact getD_mem_bd HBD.out 0
                have by3 : 0 ≤ y3 ∧ y3 ≤ 255 := by rw [hy.2.1]; exact getD_mem_bd HBD.out 3
                have by10 : 0 ≤ y10 ∧ y10 ≤ 255 := by rw [hy.2.2]; exact getD_mem_bd HBD.out 10
                clear HY hy hys
                have ew0 : IntKind.i64.wrap y0 = y0 := by simp only [IntKind.wrap_i64]; omega
                have ew3 : IntKind.i64.wrap y3 = y3 := by simp only [IntKind.wrap_i64]; omega
                have nz : ¬ n = 0 := by omega
                have n3 : (3 : Int) < (n : Int) := by omega
                have n10 : (10 : Int) < (n : Int) := by omega
                have HB4d : Hid (Below w.heap.size w w4.drew) := HQ4.out.below.drew
                have HQd := hid (HQ4.out.keep (Below.refl _ w4).drew)
                go_upto_region 18 with fail
                refine wp_region_noPanic ?_
                refine wp_region_held_drew (S := fun W => W.cell? ⟨b, o, none⟩ = some (.int .u8 y0) ∧ W.cell? ⟨b, o + 3, none⟩ = some (.int .u8 y3) ∧ W.cell? ⟨b, o + 10, none⟩ = some (.int .u8 y10)) (by kernel_rfl) (HYS.out _ HB4d.out) (fun hHeld => ?_)
                refine wpAnyH_take (i := 0) (oi := { dst := some 91, op := .move (.tmp 0), type := _, pos := _, after := _, guard := none }) (v := .slice (some ⟨b, o, none⟩) n c) rfl (by kernel_rfl) (by kernel_rfl) (by kernel_rfl) (fun _ _ _ h => h) (Or.inl ⟨by rfl, fun wq hSw => by (try dsimp only at hSw); (try obtain ⟨s0, s3, s10⟩ := hSw); go_simp⟩) (by assumption) ?_
                try simp only [Act.put, List.setIfInBounds_toArray, List.set_cons_zero, List.set_cons_succ]
                refine wpAnyH_take (i := 1) (oi := { dst := some 92, op := .indexAddr 33 (.tmp 91) (.const (.int .i64 0)), type := _, pos := _, after := _, guard := none }) (v := .pointer (some ⟨b, o, none⟩)) rfl (by kernel_rfl) (by kernel_rfl) (by kernel_rfl) (fun _ _ _ h => h) (Or.inl ⟨by rfl, fun wq hSw => by (try dsimp only at hSw); (try obtain ⟨s0, s3, s10⟩ := hSw); go_simp⟩) (by assumption) ?_
                try simp only [Act.put, List.setIfInBounds_toArray, List.set_cons_zero, List.set_cons_succ]
                refine wpAnyH_take (i := 2) (oi := { dst := some 93, op := .load 5 (.tmp 92), type := _, pos := _, after := _, guard := none }) (v := .int .u8 y0) rfl (by kernel_rfl) (by kernel_rfl) (by kernel_rfl) (fun _ _ _ h => h) (Or.inl ⟨by rfl, fun wq hSw => by (try dsimp only at hSw); (try obtain ⟨s0, s3, s10⟩ := hSw); go_simp⟩) (by assumption) ?_
                try simp only [Act.put, List.setIfInBounds_toArray, List.set_cons_zero, List.set_cons_succ]
                refine wpAnyH_take (i := 3) (oi := { dst := some 94, op := .convert 5 3 (.tmp 93), type := _, pos := _, after := _, guard := none }) (v := .int .i64 y0) rfl (by kernel_rfl) (by kernel_rfl) (by kernel_rfl) (fun _ _ _ h => h) (Or.inl ⟨by rfl, fun wq hSw => by (try dsimp only at hSw); (try obtain ⟨s0, s3, s10⟩ := hSw); go_simp⟩) (by assumption) ?_
                try simp only [Act.put, List.setIfInBounds_toArray, List.set_cons_zero, List.set_cons_succ]
                refine wpAnyH_take (i := 4) (oi := { dst := some 95, op := .move (.tmp 0), type := _, pos := _, after := _, guard := none }) (v := .slice (some ⟨b, o, none⟩) n c) rfl (by kernel_rfl) (by kernel_rfl) (by kernel_rfl) (fun _ _ _ h => h) (Or.inl ⟨by rfl, fun wq hSw => by (try dsimp only at hSw); (try obtain ⟨s0, s3, s10⟩ := hSw); go_simp⟩) (by assumption) ?_
                try simp only [Act.put, List.setIfInBounds_toArray, List.set_cons_zero, List.set_cons_succ]
                refine wpAnyH_take (i := 5) (oi := { dst := some 96, op := .indexAddr 33 (.tmp 95) (.const (.int .i64 3)), type := _, pos := _, after := _, guard := none }) (v := .pointer (some ⟨b, o + 3, none⟩)) rfl (by kernel_rfl) (by kernel_rfl) (by kernel_rfl) (fun _ _ _ h => h) (Or.inl ⟨by rfl, fun wq hSw => by (try dsimp only at hSw); (try obtain ⟨s0, s3, s10⟩ := hSw); go_simp⟩) (by assumption) ?_
                try simp only [Act.put, List.setIfInBounds_toArray, List.set_cons_zero, List.set_cons_succ]
                refine wpAnyH_take (i := 6) (oi := { dst := some 97, op := .load 5 (.tmp 96), type := _, pos := _, after := _, guard := none }) (v := .int .u8 y3) rfl (by kernel_rfl) (by kernel_rfl) (by kernel_rfl) (fun _ _ _ h => h) (Or.inl ⟨by rfl, fun wq hSw => by (try dsimp only at hSw); (try obtain ⟨s0, s3, s10⟩ := hSw); go_simp⟩) (by assumption) ?_
                try simp only [Act.put, List.setIfInBounds_toArray, List.set_cons_zero, List.set_cons_succ]
                refine wpAnyH_take (i := 7) (oi := { dst := some 98, op := .convert 5 3 (.tmp 97), type := _, pos := _, after := _, guard := none }) (v := .int .i64 y3) rfl (by kernel_rfl) (by kernel_rfl) (by kernel_rfl) (fun _ _ _ h => h) (Or.inl ⟨by rfl, fun wq hSw => by (try dsimp only at hSw); (try obtain ⟨s0, s3, s10⟩ := hSw); go_simp⟩) (by assumption) ?_
                try simp only [Act.put, List.setIfInBounds_toArray, List.set_cons_zero, List.set_cons_succ]
                refine wpAnyH_take (i := 8) (oi := { dst := some 99, op := .move (.tmp 0), type := _, pos := _, after := _, guard := none }) (v := .slice (some ⟨b, o, none⟩) n c) rfl (by kernel_rfl) (by kernel_rfl) (by kernel_rfl) (fun _ _ _ h => h) (Or.inl ⟨by rfl, fun wq hSw => by (try dsimp only at hSw); (try obtain ⟨s0, s3, s10⟩ := hSw); go_simp⟩) (by assumption) ?_
                try simp only [Act.put, List.setIfInBounds_toArray, List.set_cons_zero, List.set_cons_succ]
                refine wpAnyH_take (i := 9) (oi := { dst := some 100, op := .indexAddr 33 (.tmp 99) (.const (.int .i64 10)), type := _, pos := _, after := _, guard := none }) (v := .pointer (some ⟨b, o + 10, none⟩)) rfl (by kernel_rfl) (by kernel_rfl) (by kernel_rfl) (fun _ _ _ h => h) (Or.inl ⟨by rfl, fun wq hSw => by (try dsimp only at hSw); (try obtain ⟨s0, s3, s10⟩ := hSw); go_simp⟩) (by assumption) ?_
                try simp only [Act.put, List.setIfInBounds_toArray, List.set_cons_zero, List.set_cons_succ]
                refine wpAnyH_take (i := 10) (oi := { dst := some 101, op := .load 5 (.tmp 100), type := _, pos := _, after := _, guard := none }) (v := .int .u8 y10) rfl (by kernel_rfl) (by kernel_rfl) (by kernel_rfl) (fun _ _ _ h => h) (Or.inl ⟨by rfl, fun wq hSw => by (try dsimp only at hSw); (try obtain ⟨s0, s3, s10⟩ := hSw); go_simp⟩) (by assumption) ?_
                try simp only [Act.put, List.setIfInBounds_toArray, List.set_cons_zero, List.set_cons_succ]
                refine wpAnyH_take (i := 11) (oi := { dst := some 102, op := .binOp .gtr 5 (.tmp 101) (.const (.int .u8 127)) 5, type := _, pos := _, after := _, guard := none }) (v := .bool (decide (127 < y10))) rfl (by kernel_rfl) (by kernel_rfl) (by kernel_rfl) (fun _ _ _ h => h) (Or.inl ⟨by rfl, fun wq hSw => by (try dsimp only at hSw); (try obtain ⟨s0, s3, s10⟩ := hSw); go_simp⟩) (by assumption) ?_
                try simp only [Act.put, List.setIfInBounds_toArray, List.set_cons_zero, List.set_cons_succ]
                refine wpAnyH_take (i := 12) (oi := { dst := some 103, op := .build 28 #[(0, .tmp 94), (1, .tmp 98), (4, .tmp 102)], type := _, pos := _, after := _, guard := none }) (v := .agg #[.int .i64 y0, .int .i64 y3, .int .u32 0, .int .i64 0, .bool (decide (127 < y10)), .int .u32 0, .int .u32 0, .int .u32 0, .int .u32 0, .int .u8 0, .int .u8 0, .int .u8 0, .int .u8 0, .int .u8 0, .int .u8 0, .string noText, .string noText, .slice none 0 0]) rfl (by kernel_rfl) (by kernel_rfl) (by kernel_rfl) (fun _ _ _ h => h) (Or.inl ⟨by rfl, fun wq hSw => by (try dsimp only at hSw); (try obtain ⟨s0, s3, s10⟩ := hSw); (go_simp; try rfl)⟩) (by assumption) ?_
                try simp only [Act.put, List.setIfInBounds_toArray, List.set_cons_zero, List.set_cons_succ]
                refine wpAnyH_ready (rs := [13]) (by kernel_rfl) (by simp) ?_
                refine AllReadyH.cons (o := { dst := some 11, op := .alloc 28, type := _, pos := _, after := _, guard := none }) rfl (fun K hK => ?_) AllReadyH.nil
                refine step_alloc_to rfl 28 rfl zeroC (by kernel_rfl) ?_
                refine hK.out _ _ (HYS.out _ (bpush HB4d.out _)) (fun hHeld => ?_)
                clear hK
                try simp only [Act.put, List.setIfInBounds_toArray, List.set_cons_zero, List.set_cons_succ]
                have HD5 := hid (DcS.new HQd.out.res HQd.out.below (W' := w4.drew.alloc (.cells zeroC 28)) rfl)
                have HQ5 := hid (HQd.out.keep (bpush (Below.refl _ _) (.cells zeroC 28)))
                obtain ⟨gm, hgm⟩ : ∃ gm, gm = w4.drew.heap.size := ⟨_, rfl⟩
                rw [← hgm] at HD5 ⊢
                clear hgm HQd HB4d HQ4
                generalize w4.drew.alloc (.cells zeroC 28) = w5 at *
                refine wpAnyH_ready (rs := [14]) (by kernel_rfl) (by simp) ?_
                refine AllReadyH.cons (o := { dst := none, op := .store 28 (.tmp 11) (.tmp 103), type := _, pos := _, after := _, guard := none }) rfl (fun K hK => ?_) AllReadyH.nil
                refine step_store_row rfl 28 _ _ rfl gm #[.int .i64 y0, .int .i64 y3, .int .u32 0, .int .i64 0, .bool (decide (127 < y10)), .int .u32 0, .int .u32 0, .int .u32 0, .int .u32 0, .int .u8 0, .int .u8 0, .int .u8 0, .int .u8 0, .int .u8 0, .int .u8 0, .string noText, .string noText, .slice none 0 0] rfl rfl 28 _ HD5.out.box sizeBp rfl (by simp [Value.oneCell']) ?_
                intro w6 hg6 hb6
                have HD6 := hid (HD5.out.next hb6.out hg6.out)
                have HQ6 := hid (HQ5.out.but hb6.out HD5.out)
                refine hK.out _ _ (HYS.out _ HD6.out.below) (fun hHeld => ?_)
                clear hK
                try simp only [Act.put, List.setIfInBounds_toArray, List.set_cons_zero, List.set_cons_succ]
                refine wpAnyH_done (by kernel_rfl) ?_ _
                refine NoPanic.normal ?_
                clear HD5 HQ5 hg6 hb6 hHeld HYS by0 by3 by10 ew0 ew3
                have HNA4 : Hid (∀ W, Below w.heap.size w W → Calls Try.prog 46 #[.slice (some ⟨b, o, none⟩) n c, .int .i64 4, .int .i64 4] W fun e w' => e = .returned (.int .u64 (getTo zs 4 4)) ∧ w' = W) := fun W hW => by
                  have h := refNumAt_any ⟨some ⟨b, o, none⟩, c, zs⟩ 4 4 W (Part.ok_below HOK.out hW) (by have := HL.out; have := HN.out; simp only; omega) (by omega) (by omega) (by have := HN.out; simp only; omega)
                  simp only [Part.val, ← HN.out] at h
                  exact h
                have HNA8 : Hid (∀ W, Below w.heap.size w W → Calls Try.prog 46 #[.slice (some ⟨b, o, none⟩) n c, .int .i64 8, .int .i64 2] W fun e w' => e = .returned (.int .u64 (getTo zs 8 2)) ∧ w' = W) := fun W hW => by
                  have h := refNumAt_any ⟨some ⟨b, o, none⟩, c, zs⟩ 8 2 W (Part.ok_below HOK.out hW) (by have := HL.out; have := HN.out; simp only; omega) (by omega) (by omega) (by have := HN.out; simp only; omega)
                  simp only [Part.val, ← HN.out] at h
                  exact h
                have HNA12 : Hid (∀ W, Below w.heap.size w W → Calls Try.prog 46 #[.slice (some ⟨b, o, none⟩) n c, .int .i64 12, .int .i64 4] W fun e w' => e = .returned (.int .u64 (getTo zs 12 4)) ∧ w' = W) := fun W hW => by
                  have h := refNumAt_any ⟨some ⟨b, o, none⟩, c, zs⟩ 12 4 W (Part.ok_below HOK.out hW) (by have := HL.out; have := HN.out; simp only; omega) (by omega) (by omega) (by have := HN.out; simp only; omega)
                  simp only [Part.val, ← HN.out] at h
                  exact h
                have HNA16 : Hid (∀ W, Below w.heap.size w W → Calls Try.prog 46 #[.slice (some ⟨b, o, none⟩) n c, .int .i64 16, .int .i64 4] W fun e w' => e = .returned (.int .u64 (getTo zs 16 4)) ∧ w' = W) := fun W hW => by
                  have h := refNumAt_any ⟨some ⟨b, o, none⟩, c, zs⟩ 16 4 W (Part.ok_below HOK.out hW) (by have := HL.out; have := HN.out; simp only; omega) (by omega) (by omega) (by have := HN.out; simp only; omega)
                  simp only [Part.val, ← HN.out] at h
                  exact h
                have HNA20 : Hid (∀ W, Below w.heap.size w W → Calls Try.prog 46 #[.slice (some ⟨b, o, none⟩) n c, .int .i64 20, .int .i64 4] W fun e w' => e = .returned (.int .u64 (getTo zs 20 4)) ∧ w' = W) := fun W hW => by
                  have h := refNumAt_any ⟨some ⟨b, o, none⟩, c, zs⟩ 20 4 W (Part.ok_below HOK.out hW) (by have := HL.out; have := HN.out; simp only; omega) (by omega) (by omega) (by have := HN.out; simp only; omega)
                  simp only [Part.val, ← HN.out] at h
                  exact h
                have HNA24 : Hid (∀ W, Below w.heap.size w W → Calls Try.prog 46 #[.slice (some ⟨b, o, none⟩) n c, .int .i64 24, .int .i64 4] W fun e w' => e = .returned (.int .u64 (getTo zs 24 4)) ∧ w' = W) := fun W hW => by
                  have h := refNumAt_any ⟨some ⟨b, o, none⟩, c, zs⟩ 24 4 W (Part.ok_below HOK.out hW) (by have := HL.out; have := HN.out; simp only; omega) (by omega) (by omega) (by have := HN.out; simp only; omega)
                  simp only [Part.val, ← HN.out] at h
                  exact h
                have HBG : Hid (∀ a k, 0 ≤ getTo zs a k ∧ getTo zs a k < 256 ^ k) := fun a k => getTo_bd zs (getD_mem_bd HBD.out) a k
                obtain ⟨x4, hx4⟩ : ∃ x, x = getTo zs 4 4 := ⟨_, rfl⟩
                have HX4 := hid hx4
                rw [← hx4] at HNA4
                have bx4 : 0 ≤ x4 ∧ x4 < 4294967296 := by rw [hx4]; exact HBG.out 4 4
                clear hx4
                have ew4 : IntKind.u32.wrap x4 = x4 := by simp only [IntKind.wrap_u32]; omega
                obtain ⟨x8, hx8⟩ : ∃ x, x = getTo zs 8 2 := ⟨_, rfl⟩
                have HX8 := hid hx8
                rw [← hx8] at HNA8
                have bx8 : 0 ≤ x8 ∧ x8 < 65536 := by rw [hx8]; exact HBG.out 8 2
                clear hx8
                have ew8 : IntKind.i64.wrap x8 = x8 := by simp only [IntKind.wrap_i64]; omega
                obtain ⟨x12, hx12⟩ : ∃ x, x = getTo zs 12 4 := ⟨_, rfl⟩
                have HX12 := hid hx12
                rw [← hx12] at HNA12
                have bx12 : 0 ≤ x12 ∧ x12 < 4294967296 := by rw [hx12]; exact HBG.out 12 4
                clear hx12
                have ew12 : IntKind.u32.wrap x12 = x12 := by simp only [IntKind.wrap_u32]; omega
                obtain ⟨x16, hx16⟩ : ∃ x, x = getTo zs 16 4 := ⟨_, rfl⟩
                have HX16 := hid hx16
                rw [← hx16] at HNA16
                have bx16 : 0 ≤ x16 ∧ x16 < 4294967296 := by rw [hx16]; exact HBG.out 16 4
                clear hx16
                have ew16 : IntKind.u32.wrap x16 = x16 := by simp only [IntKind.wrap_u32]; omega
                obtain ⟨x20, hx20⟩ : ∃ x, x = getTo zs 20 4 := ⟨_, rfl⟩
                have HX20 := hid hx20
                rw [← hx20] at HNA20
                have bx20 : 0 ≤ x20 ∧ x20 < 4294967296 := by rw [hx20]; exact HBG.out 20 4
                clear hx20
                have ew20 : IntKind.u32.wrap x20 = x20 := by simp only [IntKind.wrap_u32]; omega
                obtain ⟨x24, hx24⟩ : ∃ x, x = getTo zs 24 4 := ⟨_, rfl⟩
                have HX24 := hid hx24
                rw [← hx24] at HNA24
                have bx24 : 0 ≤ x24 ∧ x24 < 4294967296 := by rw [hx24]; exact HBG.out 24 4
                clear hx24
                have ew24 : IntKind.u32.wrap x24 = x24 := by simp only [IntKind.wrap_u32]; omega
                clear HBG
                go_upto_region 20 with (first
                  | (go_at_call 46; refine (HNA4.out _ HD6.out.below).mono ?_; rintro e wx ⟨rfl, hw⟩; subst wx)
                  | fail)
                go_upto_region 21 with (first
                  | (go_at_call 46; refine (HNA8.out _ HD6.out.below).mono ?_; rintro e wx ⟨rfl, hw⟩; subst wx)
                  | fail)
                go_upto_region 22 with (first
                  | (go_at_call 46; refine (HNA12.out _ HD6.out.below).mono ?_; rintro e wx ⟨rfl, hw⟩; subst wx)
                  | fail)
                go_upto_region 23 with (first
                  | (go_at_call 46; refine (HNA16.out _ HD6.out.below).mono ?_; rintro e wx ⟨rfl, hw⟩; subst wx)
                  | fail)
                go_upto_region 24 with (first
                  | (go_at_call 46; refine (HNA20.out _ HD6.out.below).mono ?_; rintro e wx ⟨rfl, hw⟩; subst wx)
                  | fail)
                go_upto_region 25 with (first
                  | (go_at_call 46; refine (HNA24.out _ HD6.out.below).mono ?_; rintro e wx ⟨rfl, hw⟩; subst wx)
                  | fail)
                have kc : w6.cell? ⟨gm, 2, none⟩ = some (.int .u32 0) := (cell_of_heap HD6.out.box 2).trans rfl
                have kf : w6.frozen? ⟨gm, 2, none⟩ = false := frozen_of_heap HD6.out.box _
                go_upto_region 26 with fail
                have HD7 : Hid (DcS w gm #[.int .i64 y0, .int .i64 y3, .int .u32 x4, .int .i64 0, .bool (decide (127 < y10)), .int .u32 0, .int .u32 0, .int .u32 0, .int .u32 0, .int .u8 0, .int .u8 0, .int .u8 0, .int .u8 0, .int .u8 0, .int .u8 0, .string noText, .string noText, .slice none 0 0] (w6.setCell ⟨gm, 2, none⟩ (.int .u32 x4))) := HD6.out.next (But.setCell gm w6 2 (.int .u32 x4)) (heap_setCell HD6.out.box)
                have HQ7 := hid (HQ6.out.but (But.setCell gm w6 2 (.int .u32 x4)) HD6.out)
                generalize w6.setCell ⟨gm, 2, none⟩ (.int .u32 x4) = w7 at *
                clear kc kf HD6 HQ6
                have kc : w7.cell? ⟨gm, 3, none⟩ = some (.int .i64 0) := (cell_of_heap HD7.out.box 3).trans rfl
                have kf : w7.frozen? ⟨gm, 3, none⟩ = false := frozen_of_heap HD7.out.box _
                go_upto_region 27 with fail
                have HD8 : Hid (DcS w gm #[.int .i64 y0, .int .i64 y3, .int .u32 x4, .int .i64 x8, .bool (decide (127 < y10)), .int .u32 0, .int .u32 0, .int .u32 0, .int .u32 0, .int .u8 0, .int .u8 0, .int .u8 0, .int .u8 0, .int .u8 0, .int .u8 0, .string noText, .string noText, .slice none 0 0] (w7.setCell ⟨gm, 3, none⟩ (.int .i64 x8))) := HD7.out.next (But.setCell gm w7 3 (.int .i64 x8)) (heap_setCell HD7.out.box)
                have HQ8 := hid (HQ7.out.but (But.setCell gm w7 3 (.int .i64 x8)) HD7.out)
                generalize w7.setCell ⟨gm, 3, none⟩ (.int .i64 x8) = w8 at *
                clear kc kf HD7 HQ7
                have kc : w8.cell? ⟨gm, 5, none⟩ = some (.int .u32 0) := (cell_of_heap HD8.out.box 5).trans rfl
                have kf : w8.frozen? ⟨gm, 5, none⟩ = false := frozen_of_heap HD8.out.box _
                go_upto_region 28 with fail
                have HD9 : Hid (DcS w gm #[.int .i64 y0, .int .i64 y3, .int .u32 x4, .int .i64 x8, .bool (decide (127 < y10)), .int .u32 x12, .int .u32 0, .int .u32 0, .int .u32 0, .int .u8 0, .int .u8 0, .int .u8 0, .int .u8 0, .int .u8 0, .int .u8 0, .string noText, .string noText, .slice none 0 0] (w8.setCell ⟨gm, 5, none⟩ (.int .u32 x12))) := HD8.out.next (But.setCell gm w8 5 (.int .u32 x12)) (heap_setCell HD8.out.box)
                have HQ9 := hid (HQ8.out.but (But.setCell gm w8 5 (.int .u32 x12)) HD8.out)
                generalize w8.setCell ⟨gm, 5, none⟩ (.int .u32 x12) = w9 at *
                clear kc kf HD8 HQ8
                have kc : w9.cell? ⟨gm, 6, none⟩ = some (.int .u32 0) := (cell_of_heap HD9.out.box 6).trans rfl
                have kf : w9.frozen? ⟨gm, 6, none⟩ = false := frozen_of_heap HD9.out.box _
                go_upto_region 29 with fail
                have HD10 : Hid (DcS w gm #[.int .i64 y0, .int .i64 y3, .int .u32 x4, .int .i64 x8, .bool (decide (127 < y10)), .int .u32 x12, .int .u32 x16, .int .u32 0, .int .u32 0, .int .u8 0, .int .u8 0, .int .u8 0, .int .u8 0, .int .u8 0, .int .u8 0, .string noText, .string noText, .slice none 0 0] (w9.setCell ⟨gm, 6, none⟩ (.int .u32 x16))) := HD9.out.next (But.setCell gm w9 6 (.int .u32 x16)) (heap_setCell HD9.out.box)
                have HQ10 := hid (HQ9.out.but (But.setCell gm w9 6 (.int .u32 x16)) HD9.out)
                generalize w9.setCell ⟨gm, 6, none⟩ (.int .u32 x16) = w10 at *
                clear kc kf HD9 HQ9
                have kc : w10.cell? ⟨gm, 7, none⟩ = some (.int .u32 0) := (cell_of_heap HD10.out.box 7).trans rfl
                have kf : w10.frozen? ⟨gm, 7, none⟩ = false := frozen_of_heap HD10.out.box _
                go_upto_region 30 with fail
                have HD11 : Hid (DcS w gm #[.int .i64 y0, .int .i64 y3, .int .u32 x4, .int .i64 x8, .bool (decide (127 < y10)), .int .u32 x12, .int .u32 x16, .int .u32 x20, .int .u32 0, .int .u8 0, .int .u8 0, .int .u8 0, .int .u8 0, .int .u8 0, .int .u8 0, .string noText, .string noText, .slice none 0 0] (w10.setCell ⟨gm, 7, none⟩ (.int .u32 x20))) := HD10.out.next (But.setCell gm w10 7 (.int .u32 x20)) (heap_setCell HD10.out.box)
                have HQ11 := hid (HQ10.out.but (But.setCell gm w10 7 (.int .u32 x20)) HD10.out)
                generalize w10.setCell ⟨gm, 7, none⟩ (.int .u32 x20) = w11 at *
                clear kc kf HD10 HQ10
                have kc : w11.cell? ⟨gm, 8, none⟩ = some (.int .u32 0) := (cell_of_heap HD11.out.box 8).trans rfl
                have kf : w11.frozen? ⟨gm, 8, none⟩ = false := frozen_of_heap HD11.out.box _
                go_upto_region 31 with fail
                have HD12 : Hid (DcS w gm #[.int .i64 y0, .int .i64 y3, .int .u32 x4, .int .i64 x8, .bool (decide (127 < y10)), .int .u32 x12, .int .u32 x16, .int .u32 x20, .int .u32 x24, .int .u8 0, .int .u8 0, .int .u8 0, .int .u8 0, .int .u8 0, .int .u8 0, .string noText, .string noText, .slice none 0 0] (w11.setCell ⟨gm, 8, none⟩ (.int .u32 x24))) := HD11.out.next (But.setCell gm w11 8 (.int .u32 x24)) (heap_setCell HD11.out.box)
                have HQ12 := hid (HQ11.out.but (But.setCell gm w11 8 (.int .u32 x24)) HD11.out)
                generalize w11.setCell ⟨gm, 8, none⟩ (.int .u32 x24) = w12 at *
                clear kc kf HD11 HQ11
                clear HNA4 bx4 ew4 HNA8 bx8 ew8 HNA12 bx12 ew12 HNA16 bx16 ew16 HNA20 bx20 ew20 HNA24 bx24 ew24
                obtain ⟨Xn, hXn⟩ : ∃ Xn : Array Value, Xn = #[.int .i64 y0, .int .i64 y3, .int .u32 x4, .int .i64 x8, .bool (decide (127 < y10)), .int .u32 x12, .int .u32 x16, .int .u32 x20, .int .u32 x24, .int .u8 0, .int .u8 0, .int .u8 0, .int .u8 0, .int .u8 0, .int .u8 0, .string noText, .string noText, .slice none 0 0] := ⟨_, rfl⟩
                have HXN := hid hXn
                rw [← hXn] at HD12
                have hsz : Xn.size = 18 := by rw [hXn]; rfl
                have HSZ := hid hsz
                clear hXn hsz
                go_wp2
                go_loopw [18] (fun i wr => ∃ k : Nat, k ≤ 6 ∧ i = .int .i64 k ∧ Hid (DcS w gm (macX Xn zs k) wr ∧ DQ w [rm0 b o c zs] (.slice (some ⟨w1.heap.size, 0, none⟩) 1 1) wr)) (fun i _ => 6 - (intOf i).toNat)
                case atStart => exact ⟨0, by omega, rfl, HD12.out, HQ12.out⟩
                case round =>
                  clear HD12 HQ12
                  obtain ⟨k, hk, rfl, HK⟩ := hrel
                  by_cases hk6 : k < 6
                  · have hk6' : (k : Int) < 6 := by omega
                    have q1 : (28 : Int) + (k : Int) < (n : Int) := by omega
                    have q2 : ((28 : Int) + (k : Int)).toNat = 28 + k := by omega
                    have q3 : IntKind.i64.wrap (28 + (k : Int)) = 28 + (k : Int) := by simp only [IntKind.wrap_i64]; omega
                    have q4 : (0 : Int) ≤ 28 + (k : Int) := by omega
                    have kb := HC.out wr HK.out.1.below (28 + k) (by omega)
                    obtain ⟨u, hu⟩ : ∃ u, wr.cell? ⟨gm, 9 + k, none⟩ = some u := by
                      rw [cell_of_heap HK.out.1.box, Array.getElem?_eq_getElem (by rw [macX_size, HSZ.out]; omega)]
                      exact ⟨_, rfl⟩
                    have hf : wr.frozen? ⟨gm, 9 + k, none⟩ = false := frozen_of_heap HK.out.1.box _
                    have HK2 : Hid (∀ z, z = zs.getD (28 + k) 0 → DcS w gm (macX Xn zs (k + 1)) (wr.setCell ⟨gm, 9 + k, none⟩ (.int .u8 z)) ∧ DQ w [rm0 b o c zs] (.slice (some ⟨w1.heap.size, 0, none⟩) 1 1) (wr.setCell ⟨gm, 9 + k, none⟩ (.int .u8 z))) := fun z hz => by
                      subst hz
                      exact ⟨HK.out.1.next (But.setCell gm wr (9 + k) _) (heap_setCell HK.out.1.box), HK.out.2.but (But.setCell gm wr (9 + k) _) HK.out.1⟩
                    obtain ⟨z, hz⟩ : ∃ z, z = zs.getD (28 + k) 0 := ⟨_, rfl⟩
                    rw [← hz] at kb
                    have HKZ := hid (HK2.out z hz)
                    clear hz HK2 HK
                    go_wp2
                    go_roundw
                    case rel => exact ⟨k + 1, by omega, by go_num, HKZ⟩
                    case measure => simp [intOf]; omega
                  · have hk6' : ¬ (k : Int) < 6 := by omega
                    have hk7 : Hid (k = 6) := hid (by omega)
                    have HD := hid HK.out.1
                    rw [hk7.out] at HD
                    have HQ := hid HK.out.2
                    clear HK hk hk6
                    have HM : Hid (macX Xn zs 6 = (fldB zs).cells (.slice none 0 0)) := hid (by
                      have t0 : getTo zs 0 1 = y0 := by rw [HYE.out.1]; simp [getTo]
                      have t3 : getTo zs 3 1 = y3 := by rw [HYE.out.2.1]; simp [getTo]
                      have t10 : decide (32768 ≤ getTo zs 10 2) = decide (127 < y10) := by
                        have e1 : getTo zs 10 2 = zs.getD 10 0 * 256 + zs.getD 11 0 := by simp [getTo]
                        have b1 := getD_mem_bd HBD.out 11
                        rw [HYE.out.2.2, e1]
                        exact decide_eq_decide.2 (by omega)
                      rw [HXN.out, HX4.out, HX8.out, HX12.out, HX16.out, HX20.out, HX24.out, ← t0, ← t3, ← t10]
                      rfl)
                    rw [HM.out] at HD
                    obtain ⟨XM, hXM⟩ : ∃ XM, XM = (fldB zs).cells (.slice none 0 0) := ⟨_, rfl⟩
                    have HXM := hid hXM
                    rw [← hXM] at HD
                    clear hXM HM HXN HYE HX4 HX8 HX12 HX16 HX20 HX24 HSZ
                    have e15 : Hid (XM[15]? = some (.string noText)) := by unfold Hid; rw [HXM.out]; rfl
                    have e16 : Hid (XM[16]? = some (.string noText)) := by unfold Hid; rw [HXM.out]; rfl
                    have e17 : Hid (XM[17]? = some (.slice none 0 0)) := by unfold Hid; rw [HXM.out]; rfl
                    have eSZ : Hid (XM.size = 18) := by unfold Hid; rw [HXM.out]; rfl
                    as_aux_lemma =>
                      obtain ⟨BF, hBF⟩ : ∃ BF, BF = decide (h = 1 ∨ h = 3) := ⟨_, rfl⟩
                      have HBF := hid hBF
                      obtain ⟨BS, hBS⟩ : ∃ BS, BS = decide (h = 2 ∨ h = 3) := ⟨_, rfl⟩
                      have HBS := hid hBS
                      clear hBF hBS
                      go_upto_region 35 with fail
                      go_cut [146, 147, 148, 149, 150, 151] (fun _ _ _ _ _ v wx => v = .bool BF ∧ wr = wx)
                      case first =>
                        rcases HHH.out with h0 | h0 | h0 | h0
                        · subst h0
                          go_wp2_with fail
                          go_meet
                          case rel => exact ⟨by rw [HBF.out]; rfl, rfl⟩
                        · subst h0
                          go_wp2_with fail
                          go_meet
                          case rel => exact ⟨by rw [HBF.out]; rfl, rfl⟩
                        · subst h0
                          go_wp2_with fail
                          go_meet
                          case rel => exact ⟨by rw [HBF.out]; rfl, rfl⟩
                        · subst h0
                          go_wp2_with fail
                          go_meet
                          case rel => exact ⟨by rw [HBF.out]; rfl, rfl⟩
                      case rest =>
                      obtain ⟨rfl, rfl⟩ := hcut
                      have r1 : (236 : Int) ≤ (c : Int) := by omega
                      have r2 : (108 : Int) ≤ (c : Int) := by omega
                      have r3 : ¬ c = 108 := by omega
                      have r4 : ¬ c = 44 := by omega
                      have HTF : Hid (∀ W, Below w.heap.size w W → Calls Try.prog 49 #[.slice (some ⟨b, o + 108, none⟩) 128 (c - 108)] W fun e w' => e = .returned (.string (flS zs)) ∧ Hid (Below W.heap.size W w')) := fun W hW => by
                        have h := refText_any (rmF b o c zs) W (rmF_ok (Part.ok_below HOK.out hW) (by have := HN.out; omega)) (by simp [rmF]; omega)
                        rw [show (rmF b o c zs).val = .slice (some ⟨b, o + 108, none⟩) 128 (c - 108) by have := HN.out; simp [rmF, Part.val]; omega] at h
                        exact h
                      have HTS : Hid (∀ W, Below w.heap.size w W → Calls Try.prog 49 #[.slice (some ⟨b, o + 44, none⟩) 64 (c - 44)] W fun e w' => e = .returned (.string (snS zs)) ∧ Hid (Below W.heap.size W w')) := fun W hW => by
                        have h := refText_any (rmS b o c zs) W (rmS_ok (Part.ok_below HOK.out hW) (by have := HN.out; omega)) (by simp [rmS]; omega)
                        rw [show (rmS b o c zs).val = .slice (some ⟨b, o + 44, none⟩) 64 (c - 44) by have := HN.out; simp [rmS, Part.val]; omega] at h
                        exact h
                      have HVF : Hid ((rmF b o c zs).val = .slice (some ⟨b, o + 108, none⟩) 128 (c - 108)) := hid (by have := HN.out; simp [rmF, Part.val]; omega)
                      have HVS : Hid ((rmS b o c zs).val = .slice (some ⟨b, o + 44, none⟩) 64 (c - 44)) := hid (by have := HN.out; simp [rmS, Part.val]; omega)
                      go_upto_if 151 with fail
                      go_cut [5, 152, 153, 154, 155, 156, 157, 158, 159, 160] (fun v5 _ _ _ _ _ _ _ _ _ wx => ∃ (wy : World) (a5 : Option Addr) (n5 c5 : Nat), wy = wx ∧ v5 = .slice a5 n5 c5 ∧ Hid (DQ w ([rm0 b o c zs] ++ if BF then [rmF b o c zs] else []) (.slice a5 n5 c5) wy ∧ DcS w gm (if BF then XM else XM.setIfInBounds 16 (.string (flS zs))) wy))
                      case first =>
                        cases BF with
                        | true =>
                          obtain ⟨a5, n5, c5, w9, ra, rr, rl, rk, rb⟩ := room_app2 w.heap.size HQ.out.row (rmF b o c zs).val rfl HQ.out.below.size HQ.out.low (by simp)
                          rw [HVF.out] at ra
                          have HRA := hid ra
                          have HQ9 : Hid (DQ w ([rm0 b o c zs] ++ [rmF b o c zs]) (.slice a5 n5 c5) w9 ∧ DcS w gm XM w9) := ⟨⟨by simpa using rr, rl, (HD.out.row HQ.out.row rk rb).res, HQ.out.below.trans rb⟩, HD.out.row HQ.out.row rk rb⟩
                          clear ra rr rl rk rb
                          go_wp2_with (first
                            | (at_builtin; refine wpList_append_run _ rfl _ _ _ _ rfl _ _ rfl rfl HRA.out ?_; clear HRA)
                            | fail)
                          go_meet
                          case rel => exact ⟨_, a5, n5, c5, rfl, rfl, by simpa using HQ9⟩
                        | false =>
                          go_upto_region 38 with (first
                            | (go_at_call 49; refine (HTF.out _ HD.out.below).mono ?_; rintro e w9 ⟨rfl, HB9⟩
                               have HD9 := hid (HD.out.keep HB9.out)
                               have HQ9 := hid (HQ.out.keep HB9.out)
                               have k16 : w9.cell? ⟨gm, 16, none⟩ = some (.string noText) := (cell_of_heap HD9.out.box 16).trans e16.out
                               have f16 : w9.frozen? ⟨gm, 16, none⟩ = false := frozen_of_heap HD9.out.box _)
                            | fail)
                          go_meet
                          case rel => exact ⟨_, _, _, _, rfl, rfl, by simpa using HQ9.out.but (But.setCell gm w9 16 (.string (flS zs))) HD9.out, by simpa using HD9.out.next (But.setCell gm w9 16 (.string (flS zs))) (heap_setCell HD9.out.box)⟩
                      case rest =>
                      obtain ⟨w10, a5, n5, c5, rfl, rfl, HDQ⟩ := hcut
                      clear HD HQ HTF HVF
                      as_aux_lemma =>
                        obtain ⟨ps1, hps1⟩ : ∃ ps1, ps1 = [rm0 b o c zs] ++ if BF then [rmF b o c zs] else [] := ⟨_, rfl⟩
                        have HPS1 := hid hps1
                        have hpl : ps1.length ≤ 3 := by rw [hps1]; cases BF <;> simp
                        obtain ⟨X1, hX1⟩ : ∃ X1, X1 = if BF then XM else XM.setIfInBounds 16 (.string (flS zs)) := ⟨_, rfl⟩
                        have HX1 := hid hX1
                        rw [← hps1, ← hX1] at HDQ
                        have e15b : Hid (X1[15]? = some (.string noText)) := hid (by
                          rw [hX1]
                          cases BF
                          · show (XM.setIfInBounds 16 _)[15]? = _
                            rw [Array.getElem?_setIfInBounds_ne (by omega)]
                            exact e15.out
                          · exact e15.out)
                        have HPL := hid hpl
                        clear hps1 hpl hX1 e15 e16
                        have HD := hid HDQ.out.2
                        have HQ := hid HDQ.out.1
                        clear HDQ
                        go_upto_region 38 with fail
                        go_cut [161, 162, 163, 164, 165, 166] (fun _ _ _ _ _ v wx => v = .bool BS ∧ w10 = wx)
                        case first =>
                          rcases HHH.out with h0 | h0 | h0 | h0
                          · subst h0
                            go_wp2_with fail
                            go_meet
                            case rel => exact ⟨by rw [HBS.out]; rfl, rfl⟩
                          · subst h0
                            go_wp2_with fail
                            go_meet
                            case rel => exact ⟨by rw [HBS.out]; rfl, rfl⟩
                          · subst h0
                            go_wp2_with fail
                            go_meet
                            case rel => exact ⟨by rw [HBS.out]; rfl, rfl⟩
                          · subst h0
                            go_wp2_with fail
                            go_meet
                            case rel => exact ⟨by rw [HBS.out]; rfl, rfl⟩
                        case rest =>
                        obtain ⟨rfl, rfl⟩ := hcut
                        go_upto_if 166 with fail
                        go_cut [5, 167, 168, 169, 170, 171, 172, 173, 174, 175] (fun v5 _ _ _ _ _ _ _ _ _ wx => ∃ (wy : World) (a6 : Option Addr) (n6 c6 : Nat), wy = wx ∧ v5 = .slice a6 n6 c6 ∧ Hid (DQ w (ps1 ++ if BS then [rmS b o c zs] else []) (.slice a6 n6 c6) wy ∧ DcS w gm (if BS then X1 else X1.setIfInBounds 15 (.string (snS zs))) wy))
                        case first =>
                          cases BS with
                          | true =>
                            obtain ⟨a6, n6, c6, w11, ra, rr, rl, rk, rb⟩ := room_app2 w.heap.size HQ.out.row (rmS b o c zs).val rfl HQ.out.below.size HQ.out.low (by rw [List.length_map]; have := HPL.out; omega)
                            rw [HVS.out] at ra
                            have HRA := hid ra
                            have HQ9 : Hid (DQ w (ps1 ++ [rmS b o c zs]) (.slice a6 n6 c6) w11 ∧ DcS w gm X1 w11) := ⟨⟨by rw [List.map_append]; exact rr, rl, (HD.out.row HQ.out.row rk rb).res, HQ.out.below.trans rb⟩, HD.out.row HQ.out.row rk rb⟩
                            clear ra rr rl rk rb
                            go_wp2_with (first
                              | (at_builtin; refine wpList_append_run _ rfl _ _ _ _ rfl _ _ rfl rfl HRA.out ?_; clear HRA)
                              | fail)
                            go_meet
                            case rel => exact ⟨_, a6, n6, c6, rfl, rfl, by simpa using HQ9⟩
                          | false =>
                            go_upto_region 41 with (first
                              | (go_at_call 49; refine (HTS.out _ HD.out.below).mono ?_; rintro e w9 ⟨rfl, HB9⟩
                                 have HD9 := hid (HD.out.keep HB9.out)
                                 have HQ9 := hid (HQ.out.keep HB9.out)
                                 have k15 : w9.cell? ⟨gm, 15, none⟩ = some (.string noText) := (cell_of_heap HD9.out.box 15).trans e15b.out
                                 have f15 : w9.frozen? ⟨gm, 15, none⟩ = false := frozen_of_heap HD9.out.box _)
                              | fail)
                            go_meet
                            case rel => exact ⟨_, _, _, _, rfl, rfl, by simpa using HQ9.out.but (But.setCell gm w9 15 (.string (snS zs))) HD9.out, by simpa using HD9.out.next (But.setCell gm w9 15 (.string (snS zs))) (heap_setCell HD9.out.box)⟩
                        case rest =>
                        obtain ⟨w12, a6, n6, c6, rfl, rfl, HDQ⟩ := hcut
                        clear HD HQ HTS HVS r1 r2 r3 r4
                        obtain ⟨X2, hX2⟩ : ∃ X2, X2 = if BS then X1 else X1.setIfInBounds 15 (.string (snS zs)) := ⟨_, rfl⟩
                        have HXD : Hid (∀ v, X2.setIfInBounds 17 v = (decB zs h).cells v) := fun v => by
                          rw [hX2, HX1.out, HXM.out, HBF.out, HBS.out]
                          rcases HHH.out with h0 | h0 | h0 | h0
                          · rw [h0]; rfl
                          · rw [h0]; rfl
                          · rw [h0]; rfl
                          · rw [h0]; rfl
                        have e17b : Hid (∃ u, X2[17]? = some u) := hid (by
                          refine ⟨.slice none 0 0, ?_⟩
                          rw [hX2, HX1.out, HXM.out]
                          cases BF <;> cases BS <;> rfl)
                        have HPS : Hid (ps1 ++ (if BS then [rmS b o c zs] else []) = roomsP b o c zs h) := hid (by
                          rw [HPS1.out, HBF.out, HBS.out]
                          unfold roomsP
                          rcases HHH.out with h0 | h0 | h0 | h0
                          · rw [h0]; rfl
                          · rw [h0]; rfl
                          · rw [h0]; rfl
                          · rw [h0]; rfl)
                        rw [HPS.out, ← hX2] at HDQ
                        clear hX2 HPS HPS1 HX1 HBF HBS HXM e15b e17 HPL eSZ
                        as_aux_lemma =>
                          obtain ⟨R2, hR2⟩ : ∃ R2, R2 = parseG [] (roomsZ zs h) := ⟨_, rfl⟩
                          rw [← hR2] at HRH
                          have HT2 : Hid (Took (okL R2)) := hid (by rw [hR2]; exact (okL_took (rooms_bd HBD.out h)).1)
                          have HNE2 : Hid (R2 ≠ .error 0) := hid (by rw [hR2]; exact bparse_err _ _)
                          have HPB : Hid (Calls Try.prog 47 #[.slice a6 n6 c6] w12 fun e w' => ∃ ay ny cy, e = .returned (.tuple #[.slice ay ny cy, .int .i64 (exR R2)]) ∧ Hid (OptI w w' (.slice ay ny cy) (okL R2) ∧ DcS w gm X2 w')) := by
                            obtain ⟨hq, hd⟩ := HDQ.out
                            have hv := PV.of_row hq.row (rooms_ok (Part.ok_below HOK.out hq.below) (by have := HN.out; omega) h)
                            have := refParse_any a6 c6 _ w12 hv.1 (by unfold roomsP; split <;> split <;> simp) (by rw [rooms_parts]; have := rooms_sum zs h (by have := HN.out; omega); have := HN.out; have := HL.out; omega)
                            rw [rooms_parts, ← hv.2, ← hR2] at this
                            refine this.mono ?_
                            rintro e w' ⟨ay, ny, cy, rfl, HI⟩
                            obtain ⟨p1, p2⟩ := parse_opt (w := w) HI.out hq.below.size
                            exact ⟨ay, ny, cy, rfl, p1, hd.keep p2⟩
                          clear hR2 HDQ
                          by_cases x2 : exR R2 = 0
                          · obtain ⟨g2, eg2⟩ := exR_ok HNE2.out x2
                            subst eg2
                            rw [x2] at HPB
                            clear x2 HNE2
                            simp only [okL] at HPB HT2
                            go_upto_region 44 with (first
                              | (go_at_call 47; refine HPB.out.mono ?_; rintro e w13 ⟨az, nz, cz, rfl, HQ13⟩)
                              | fail)
                            clear HPB
                            have HWO : Hid (Calls Try.prog 50 #[.slice az nz cz, .int .i64 52] w13 fun e w' => ∃ a7 n7 c7, e = .returned (.slice a7 n7 c7) ∧ Hid (OptI w w' (.slice a7 n7 c7) (g2.filter fun o => o.1 != 52) ∧ DcS w gm X2 w')) := by
                              obtain ⟨⟨E2, o2, ec2⟩, hd⟩ := HQ13.out
                              have hl : E2.length = g2.length := by rw [← ec2]; simp
                              have := refWithout_any w.heap.size az nz cz E2 52 w13 o2 hd.below.size (by rw [hl]; exact HT2.out.few) (fun p hp => by
                                have : p.1 ∈ g2 := by rw [← ec2]; exact List.mem_map.2 ⟨p, hp, rfl⟩
                                have := HT2.out.apart.1 _ this
                                omega)
                              refine this.mono ?_
                              rintro e w' ⟨a7, n7, c7, rfl, HI⟩
                              exact ⟨a7, n7, c7, rfl, ⟨_, HI.out.1, by rw [filt_codes, ec2]⟩, hd.keep HI.out.2⟩
                            obtain ⟨u17, hu17⟩ := e17b.out
                            have HU17 := hid hu17
                            clear hu17
                            go_upto_region 45 with (first
                              | (go_at_call 50; refine HWO.out.mono ?_; rintro e w14 ⟨a7, n7, c7, rfl, HQ14⟩
                                 have k17 : w14.cell? ⟨gm, 17, none⟩ = some u17 := (cell_of_heap HQ14.out.2.box 17).trans HU17.out
                                 have f17 : w14.frozen? ⟨gm, 17, none⟩ = false := frozen_of_heap HQ14.out.2.box _)
                              | fail)
                            have HD15 := hid (HQ14.out.2.next (But.setCell gm w14 17 (.slice a7 n7 c7)) (heap_setCell HQ14.out.2.box))
                            have HO15 := hid (HQ14.out.1.but (But.setCell gm w14 17 (.slice a7 n7 c7)) HQ14.out.2)
                            rw [HXD.out] at HD15
                            generalize w14.setCell ⟨gm, 17, none⟩ (.slice a7 n7 c7) = w15 at *
                            have hz1 : Hid (some 18 = some ((decB zs h).cells (.slice a7 n7 c7)).size) := rfl
                            have hz2 : Hid (zeroC.size = ((decB zs h).cells (.slice a7 n7 c7)).size) := rfl
                            have hon : Hid (((decB zs h).cells (.slice a7 n7 c7)).all (·.oneCell') = true) := by simp [Hid, Bp.cells, Value.oneCell']
                            have HPX : Hid (∀ w', OptI w w' (.slice a7 n7 c7) (g2.filter fun o => o.1 != 52) → Below w.heap.size w w' → DecP w R (.returned (.tuple #[.agg ((decB zs h).cells (.slice a7 n7 c7)), .int .i64 0])) w') := fun w' p1 p2 => by
                              rw [HRH.out]
                              exact ⟨a7, n7, c7, rfl, p1, p2⟩
                            clear HQ14 k17 f17 HWO HQ13 HXD HU17 e17b
                            generalize (decB zs h).cells (.slice a7 n7 c7) = XD at *
                            go_wp2_with (first
                              | (refine wpList_load_row rfl 28 _ rfl gm rfl 28 XD (0, 0) _ (by exact HD15.out.box) Try.underlying28 rfl (sizeBp.trans hz1.out) ?_)
                              | (refine wpList_store_row rfl 28 _ _ rfl w.heap.size XD rfl rfl 28 _ HD15.out.res (sizeBp.trans hz1.out) hz2.out hon.out ?_)
                              | fail)
                            refine bodyPost_ret (v := .tuple #[.agg XD, .int .i64 0]) ?_ (by rfl) (HPX.out _ (HO15.out.res HD15.out (But.setRow _ _ _)) (bbut HD15.out.below (But.setRow _ _ _) (Nat.le_refl _)))
                            exact results_row2 Try.results18 _ _ w.heap.size 28 _ (0, 0) _ _ rfl rfl (setRow_heap _ _ _ _ _ _ HD15.out.res) Try.underlying28 rfl (sizeBp.trans hz1.out)
                          · have g2 : (exR R2 != 0) = true := by simpa using x2
                            have HE : Hid (R = .error (exR R2)) := hid (by
                              rw [HRH.out]
                              cases R2 with
                              | ok g => simp [exR] at x2
                              | error e => rfl)
                            clear x2 HRH HT2 HNE2
                            generalize exR R2 = E2 at *
                            go_wp2_with (first
                              | (go_at_call 47; refine HPB.out.mono ?_; rintro e w13 ⟨az, nz, cz, rfl, HQ13⟩)
                              | (refine wpList_build_to rfl 28 _ rfl zeroC (by kernel_rfl) ?_)
                              | (refine wpList_store_row rfl 28 _ _ rfl w.heap.size zeroC rfl rfl 28 _ HQ13.out.2.res (by kernel_rfl) rfl (by kernel_rfl) ?_)
                              | fail)
                            all_goals
                              refine bodyPost_ret (v := .tuple #[.agg zeroC, .int .i64 E2]) ?_ (by rfl) (HPE.out _ _ HE.out (bbut HQ13.out.2.below (But.setRow _ _ _) (Nat.le_refl _)))
                              exact results_row2 Try.results18 _ _ w.heap.size 28 _ (0, 0) _ _ rfl rfl (setRow_heap _ _ _ _ _ _ HQ13.out.2.res) Try.underlying28 rfl (by kernel_rfl)
            · obtain ⟨hov, hb⟩ : Hid (ovG g = (0, 162)) ∧ (∃ z', Hid (D = some z') ∧ (z'.length ≠ 1 ∨ ∃ q : Nat, z' = [(q : Int)] ∧ (q = 0 ∨ 3 < q))) := by
                rcases HOV.out with ⟨d1, d2⟩ | ⟨z', d1, d2, d3⟩ | ⟨q, d1, d2, ⟨d3, d4⟩ | ⟨d3, d4, d5⟩⟩
                · exact absurd (Or.inl d1) hgood
                · exact ⟨d3, z', d1, Or.inl d2⟩
                · exact ⟨d4, _, d1, Or.inr ⟨q, rfl, d3⟩⟩
                · exact absurd (Or.inr ⟨q, d1, d3, d4⟩) hgood
              obtain ⟨z', HZ', hb⟩ := hb
              have HE := hid (HE0.out hov.out)
              rw [HZ'.out] at HFD
              simp only [Option.getD_some, Option.isSome_some] at HFD
              clear HOV hgood HE0 HRD HT1 HE1 hov
              rcases hb with hb | ⟨q, hzq, hb⟩
              · obtain ⟨zn, hzn⟩ : ∃ zn, zn = z'.length := ⟨_, rfl⟩
                rw [← hzn] at HFD hb
                have hb' : ((zn : Int) != 1) = true := by simp; omega
                have hb2 : ¬ (zn : Int) = 1 := by omega
                clear hzn
                go_wp2_with (first
                  | (go_at_call 48; refine HFD.out.mono ?_; rintro e w4 ⟨ay, cy, rfl, HA4⟩
                     have HQ4 := hid (HQ.out.keep HA4.out.2.2))
                  | (refine wpList_build_to rfl 28 _ rfl zeroC (by kernel_rfl) ?_)
                  | (refine wpList_store_row rfl 28 _ _ rfl w.heap.size zeroC rfl rfl 28 _ HQ4.out.res (by kernel_rfl) rfl (by kernel_rfl) ?_)
                  | fail)
                all_goals
                  refine bodyPost_ret (v := .tuple #[.agg zeroC, .int .i64 162]) ?_ (by rfl) (HPE.out _ _ HE.out (bbut HQ4.out.below (But.setRow _ _ _) (Nat.le_refl _)))
                  exact results_row2 Try.results18 _ _ w.heap.size 28 _ (0, 0) _ _ rfl rfl (setRow_heap _ _ _ _ _ _ HQ4.out.res) Try.underlying28 rfl (by kernel_rfl)
              · subst hzq
                have HFQ : Hid (Calls Try.prog 48 #[.slice ax nx cx, .int .i64 52] w3 fun e w' => ∃ gy cy, e = .returned (.tuple #[.slice (some ⟨gy, 0, none⟩) 1 cy, .bool true]) ∧ w'.cell? ⟨gy, 0, none⟩ = some (.int .u8 q) ∧ Hid (Below w3.heap.size w3 w')) := by
                  refine HFD.out.mono ?_
                  rintro e w' ⟨ay, cy, rfl, HA⟩
                  obtain ⟨g', cap, e, hc⟩ := HA.out.1.cell 0 (by simp [u8s_len])
                  simp only [Value.slice.injEq] at e
                  obtain ⟨rfl, _, rfl⟩ := e
                  exact ⟨g', _, rfl, by rw [hc]; simp [u8s], HA.out.2.2⟩
                clear HFD
                rcases hb with hb | hb
                · have hb' : (q : Int) < 1 := by omega
                  go_wp2_with (first
                    | (go_at_call 48; refine HFQ.out.mono ?_; rintro e w4 ⟨gy, cy, rfl, hcell, HA4⟩
                       have HQ4 := hid (HQ.out.keep HA4.out))
                    | (refine wpList_build_to rfl 28 _ rfl zeroC (by kernel_rfl) ?_)
                    | (refine wpList_store_row rfl 28 _ _ rfl w.heap.size zeroC rfl rfl 28 _ HQ4.out.res (by kernel_rfl) rfl (by kernel_rfl) ?_)
                    | fail)
                  all_goals
                    refine bodyPost_ret (v := .tuple #[.agg zeroC, .int .i64 162]) ?_ (by rfl) (HPE.out _ _ HE.out (bbut HQ4.out.below (But.setRow _ _ _) (Nat.le_refl _)))
                    exact results_row2 Try.results18 _ _ w.heap.size 28 _ (0, 0) _ _ rfl rfl (setRow_heap _ _ _ _ _ _ HQ4.out.res) Try.underlying28 rfl (by kernel_rfl)
                · have hb' : (3 : Int) < (q : Int) := by omega
                  have hb2 : ¬ (q : Int) < 1 := by omega
                  go_wp2_with (first
                    | (go_at_call 48; refine HFQ.out.mono ?_; rintro e w4 ⟨gy, cy, rfl, hcell, HA4⟩
                       have HQ4 := hid (HQ.out.keep HA4.out))
                    | (refine wpList_build_to rfl 28 _ rfl zeroC (by kernel_rfl) ?_)
                    | (refine wpList_store_row rfl 28 _ _ rfl w.heap.size zeroC rfl rfl 28 _ HQ4.out.res (by kernel_rfl) rfl (by kernel_rfl) ?_)
                    | fail)
                  all_goals
                    refine bodyPost_ret (v := .tuple #[.agg zeroC, .int .i64 162]) ?_ (by rfl) (HPE.out _ _ HE.out (bbut HQ4.out.below (But.setRow _ _ _) (Nat.le_refl _)))
                    exact results_row2 Try.results18 _ _ w.heap.size 28 _ (0, 0) _ _ rfl rfl (setRow_heap _ _ _ _ _ _ HQ4.out.res) Try.underlying28 rfl (by kernel_rfl)
          · have g1 : (exR R1 != 0) = true := by simpa using x1
            have HE : Hid (R = .error (exR R1)) := hid (by
              rw [HRD.out]
              cases R1 with
              | ok g => simp [exR] at x1
              | error e => rfl)
            clear x1 HRD HT1 HNE1 HE1
            generalize exR R1 = E1 at *
            go_wp2_with (first
              | (go_at_call 47; refine HP1.out.mono ?_; rintro e w2 ⟨ax, nx, cx, rfl, HQ2⟩)
              | (refine wpList_build_to rfl 28 _ rfl zeroC (by kernel_rfl) ?_)
              | (refine wpList_store_row rfl 28 _ _ rfl w.heap.size zeroC rfl rfl 28 _ HQ2.out.2.res (by kernel_rfl) rfl (by kernel_rfl) ?_)
              | fail)
            all_goals
              refine bodyPost_ret (v := .tuple #[.agg zeroC, .int .i64 E1]) ?_ (by rfl) (HPE.out _ _ HE.out (bbut HQ2.out.2.below (But.setRow _ _ _) (Nat.le_refl _)))
              exact results_row2 Try.results18 _ _ w.heap.size 28 _ (0, 0) _ _ rfl rfl (setRow_heap _ _ _ _ _ _ HQ2.out.2.res) Try.underlying28 rfl (by kernel_rfl)
        · have g1 : (mk != 1669485411) = true := by simpa using hmk
          have HE : Hid (R = .error 161) := hid (by
            rw [HRR.out]
            unfold decR
            rw [HUN.out, if_neg hmk, if_pos (by omega)])
          clear HUN hmk
          go_wp2_with (first
            | (refine wpList_build_to rfl 28 _ rfl zeroC (by kernel_rfl) ?_)
            | (refine wpList_store_row rfl 28 _ _ rfl w.heap.size zeroC rfl rfl 28 _ HR1.out (by kernel_rfl) rfl (by kernel_rfl) ?_)
            | fail)
          all_goals
            refine bodyPost_ret (v := .tuple #[.agg zeroC, .int .i64 161]) ?_ (by rfl) (HPE.out _ _ HE.out (bbut HB1.out (But.setRow _ _ _) (Nat.le_refl _)))
            exact results_row2 Try.results18 _ _ w.heap.size 28 _ (0, 0) _ _ rfl rfl (setRow_heap _ _ _ _ _ _ HR1.out) Try.underlying28 rfl (by kernel_rfl)
end Go.Proofs.Ytoifblndpcelkaa
