/-
  The contract of bootp.Decode.
-/
import Derived.Test.YtoifblndpcelkaaBoDecJ1
import Derived.Test.YtoifblndpcelkaaBoDecJ2
import Derived.Test.YtoifblndpcelkaaBoDecJ3
namespace Go.Proofs.Ytoifblndpcelkaa
open Go.RowKit
set_option linter.all false

theorem bread_err : ∀ (n : Nat) (l : List Int) (g : List Opt), l.length ≤ n → readG g l ≠ .error 0
  | 0, l, g, h => by
    have : l = [] := List.eq_nil_of_length_eq_zero (by omega)
    subst this
    rw [readG_nil]
    simp
  | n + 1, l, g, h => by
    rw [readG.eq_def]
    match l with
    | [] => simp
    | c :: r =>
      simp only
      split
      · simp
      · split
        · exact bread_err n r g (by simp at h; omega)
        · split
          · simp
          · match r with
            | [] => simp
            | m :: r' =>
              simp only
              split
              · simp
              · exact bread_err n _ _ (by simp at h ⊢; omega)
theorem bparse_err : ∀ (ps : List (List Int)) (g : List Opt), parseG g ps ≠ .error 0
  | [], g => by simp [parseG]
  | p :: ps, g => by
    unfold parseG
    cases hr : readG g p with
    | error e => simp only [ne_eq, Except.error.injEq]; intro h; rw [h] at hr; exact bread_err _ _ _ (Nat.le_refl _) hr
    | ok g1 => exact bparse_err ps g1
theorem exR_ok {R : Except Int (List Opt)} (h : R ≠ .error 0) (h0 : exR R = 0) : ∃ g, R = .ok g := by
  cases R with
  | ok g => exact ⟨g, rfl⟩
  | error e => simp only [exR] at h0; subst h0; exact absurd rfl h
theorem okL_took {ps : List (List Int)} (hz : ∀ p ∈ ps, ∀ z ∈ p, 0 ≤ z ∧ z ≤ 255) : Took (okL (parseG [] ps)) ∧ sumO (okL (parseG [] ps)) ≤ sumB ps := by
  cases h : parseG [] ps with
  | error e => exact ⟨took_nil, by simp [okL, sumO]⟩
  | ok g =>
    have := parseG_took ps [] took_nil hz g h
    exact ⟨this.1, by simpa [sumO, okL] using this.2⟩
theorem sumO_mem {g : List Opt} {o : Opt} (h : o ∈ g) : o.2.length ≤ sumO g := by
  unfold sumO
  obtain ⟨s, t, e⟩ := List.append_of_mem h
  rw [e]
  simp
  omega
theorem ovG_bd {g : List Opt} (h : Took g) : (ovG g).1 = 0 ∨ (ovG g).1 = 1 ∨ (ovG g).1 = 2 ∨ (ovG g).1 = 3 := by
  have hb : 0 ≤ exN ((findO g 52).getD []) 1 := by
    have hz : ∀ z ∈ (findO g 52).getD [], 0 ≤ z ∧ z ≤ 255 := fun z hz => by
      unfold findO at hz
      cases hf : g.find? (fun o => o.1 == 52) with
      | none => rw [hf] at hz; simp at hz
      | some o => rw [hf] at hz; exact h.oks o (List.mem_of_find?_eq_some hf) z (by simpa using hz)
    unfold exN
    split
    · exact (getTo_bd _ (getD_mem_bd hz) 0 1).1
    · omega
  unfold ovG
  split
  · split
    · exact Or.inl rfl
    · simp only; omega
  · exact Or.inl rfl
theorem opt_view {w W : World} {a : Option Addr} {n c : Nat} {E : List (Opt × Value)} {g : List Opt} (h : OwnO w.heap.size W (.slice a n c) E) (hc : codes E = g) (ht : Took g) (hs : sumO g ≤ 140737488353280) : OV W a (E.map ptOf) ∧ n = E.length := by
  have hcd : ∀ p ∈ E, p.1 ∈ g := fun p hp => by rw [← hc]; exact List.mem_map.2 ⟨p, hp, rfl⟩
  have hl : E.length = g.length := by rw [← hc]; simp
  exact h.view (fun p hp => Nat.le_trans (sumO_mem (hcd p hp)) hs) (by have := ht.few; omega) (fun p hp => by have := ht.apart.1 _ (hcd p hp); omega)
theorem parse_opt {w W W' : World} {R : Except Int (List Opt)} {v : Value} (h : ParseI W W' R v) (hw : w.heap.size ≤ W.heap.size) : OptI w W' v (okL R) ∧ Below W.heap.size W W' := by
  obtain ⟨E, h1, h2, h3⟩ := h
  exact ⟨⟨E, h1.le hw, h2⟩, h3⟩
theorem rooms_sum (zs : List Int) (h : Int) (hl : 240 ≤ zs.length) : sumB (roomsZ zs h) ≤ zs.length := by
  unfold roomsZ sumB
  split <;> split <;> simp <;> omega
theorem rooms_bd {zs : List Int} (hz : ∀ z ∈ zs, 0 ≤ z ∧ z ≤ 255) (h : Int) : ∀ p ∈ roomsZ zs h, ∀ z ∈ p, 0 ≤ z ∧ z ≤ 255 := fun p hp z hzp => by
  unfold roomsZ at hp
  simp only [List.mem_append, List.mem_singleton] at hp
  rcases hp with (rfl | hp) | hp
  · exact hz z (List.mem_of_mem_drop hzp)
  · split at hp
    · simp at hp; subst hp; exact hz z (List.mem_of_mem_drop (List.mem_of_mem_take hzp))
    · simp at hp
  · split at hp
    · simp at hp; subst hp; exact hz z (List.mem_of_mem_drop (List.mem_of_mem_take hzp))
    · simp at hp
set_option maxHeartbeats 1000000 in
theorem dcK (b o c : Nat) (zs : List Int) (w : World) (hok : Part.ok w ⟨some ⟨b, o, none⟩, c, zs⟩) (hl : zs.length ≤ 140737488353280) (hu : unR zs = 0) (h240 : 240 ≤ zs.length) (R1 R2 : Except Int (List Opt)) (h : Int) (e1 : R1 = parseG [] [zs.drop 240]) (eh : h = (ovG (okL R1)).1) (e2 : R2 = parseG [] (roomsZ zs h)) :
    DcK w b o zs.length c (rm0 b o c zs).val R1 h (ovG (okL R1)).2 (roomsP b o c zs h) R2 ((fldB zs).cells (.slice none 0 0)) (snS zs) (flS zs) := by
  have hcap : zs.length ≤ c := hok.2.1
  have hz : ∀ z ∈ zs, 0 ≤ z ∧ z ≤ 255 := hok.1
  have t1 : Took (okL R1) ∧ sumO (okL R1) ≤ 140737488353280 := by
    rw [e1]
    have := okL_took (ps := [zs.drop 240]) (fun p hp z hzp => by simp at hp; subst hp; exact hz z (List.mem_of_mem_drop hzp))
    exact ⟨this.1, Nat.le_trans this.2 (by simp [sumB]; omega)⟩
  have t2 : Took (okL R2) ∧ sumO (okL R2) ≤ 140737488353280 := by
    rw [e2]
    have := okL_took (rooms_bd hz h)
    exact ⟨this.1, Nat.le_trans this.2 (Nat.le_trans (rooms_sum zs h h240) hl)⟩
  refine ⟨fun W hW => ?_, fun A m hA => ?_, fun W v ev hW => ?_, fun W ax nx cx ho => ?_, fun hh he W hW => ?_, fun W W0 ar nr cr hr hW => ?_, fun W hW => ?_, fun W hW => ?_, fun W hW => ?_, fun W ax nx cx g hg ho hW => ?_, h240, hcap, rfl, ?_⟩
  · have := unreadable_any ⟨some ⟨b, o, none⟩, c, zs⟩ W (Part.ok_below hok hW) hl
    rw [hu] at this
    exact this
  · simp only [rm0, Part.val, List.length_drop]
    rcases hA with ⟨r1, r2, r3⟩ | ⟨r1, r2, r3⟩
    · subst r1; subst r2; subst r3; rfl
    · rw [if_neg r1, r2, r3]
  · subst ev
    have hb := bpush (Below.refl _ W) (.cells #[(rm0 b o c zs).val] 33)
    have hv : PV (W.alloc (.cells #[(rm0 b o c zs).val] 33)) (some ⟨W.heap.size, 0, none⟩) [rm0 b o c zs] := by
      refine ⟨fun i p hp => ⟨W.heap.size, 0, rfl, ?_⟩, fun p hp => ?_⟩
      · have hi : i = 0 := by have := (List.getElem?_eq_some_iff.1 hp).1; simp at this; exact this
        subst hi
        simp only [List.getElem?_cons_zero, Option.some.injEq] at hp
        subst hp
        rw [cell_of_heap (heap_new W _)]
        rfl
      · simp only [List.mem_singleton] at hp
        subst hp
        exact rm0_ok (Part.ok_below hok (bstep hW hb)) h240
    have := parse_any (some ⟨W.heap.size, 0, none⟩) 1 [rm0 b o c zs] _ hv (by simp) (by simp [partsZ, sumB, rm0]; omega)
    rw [show partsZ [rm0 b o c zs] = [zs.drop 240] from rfl, ← e1] at this
    refine this.mono ?_
    rintro e w' ⟨ax, n, cx, rfl, HI⟩
    obtain ⟨p1, p2⟩ := parse_opt (w := w) HI.out (Nat.le_trans hW.size hb.size)
    exact ⟨ax, n, cx, rfl, p1, bstep hb p2⟩
  · obtain ⟨E, h1, h2⟩ := ho
    obtain ⟨hv, hn⟩ := opt_view h1 h2 t1.1 t1.2
    have := overload_any ax cx (E.map ptOf) W hv
    rw [List.length_map, ← hn, ovV_abs, ptOf_abs] at this
    rw [← h2] at eh ⊢
    rw [eh]
    exact this
  · refine rooms_any b o c zs h W (Part.ok_below hok hW) h240 ?_
    have := ovG_bd t1.1
    rw [← eh] at this
    omega
  · obtain ⟨p1, p2, p3⟩ := hr
    have := parse_any ar cr (roomsP b o c zs h) W p1 (by unfold roomsP; split <;> split <;> simp) (by rw [rooms_parts]; exact Nat.le_trans (rooms_sum zs h h240) hl)
    rw [rooms_parts, ← e2, ← p2] at this
    refine this.mono ?_
    rintro e w' ⟨ax, n, cx, rfl, HI⟩
    obtain ⟨q1, q2⟩ := parse_opt (w := w) HI.out hW.size
    exact ⟨ax, n, cx, rfl, q1, q2⟩
  · exact fields_any ⟨some ⟨b, o, none⟩, c, zs⟩ W (Part.ok_below hok hW) hl h240
  · have := textOf_any b (o + 44) (c - 44) ((zs.drop 44).take 64) W (rmS_ok (Part.ok_below hok hW) h240) (by simp; omega)
    rw [show ((zs.drop 44).take 64).length = 64 by simp; omega] at this
    exact this
  · have := textOf_any b (o + 108) (c - 108) ((zs.drop 108).take 128) W (rmF_ok (Part.ok_below hok hW) h240) (by simp; omega)
    rw [show ((zs.drop 108).take 128).length = 128 by simp; omega] at this
    exact this
  · obtain ⟨E, h1, h2⟩ := ho
    have tg : Took g ∧ sumO g ≤ 140737488353280 := by rcases hg with rfl | rfl; exact t1; exact t2
    have hcd : ∀ p ∈ E, p.1 ∈ g := fun p hp => by rw [← h2]; exact List.mem_map.2 ⟨p, hp, rfl⟩
    have hll : E.length = g.length := by rw [← h2]; simp
    have := deleteFunc_any w.heap.size ax nx cx E W h1 hW.size (fun p hp => Nat.le_trans (sumO_mem (hcd p hp)) tg.2) (by have := tg.1.few; omega) (fun p hp => by have := tg.1.apart.1 _ (hcd p hp); omega)
    refine this.mono ?_
    rintro e w' ⟨a', n', c', rfl, k1, k2, k3, k4⟩
    refine ⟨a', n', c', rfl, ⟨_, k1, ?_⟩, k4, k3⟩
    rw [← h2]
    simp only [codes, List.filter_map]
    rfl
  · simp [Bp.cells, Value.oneCell']
set_option maxHeartbeats 1000000 in
/-- Decode. -/
theorem decode_any (pt : Part) (w : World) (hok : pt.ok w) (hl : pt.zs.length ≤ 140737488353280) :
    Calls Try.prog 10 #[pt.val] w fun e w' => DecP w (decR pt.zs) e w' := by
  obtain ⟨pa, c, zs⟩ := pt
  simp only [Part.val] at *
  by_cases hu : unR zs = 0
  · have h240 : 240 ≤ zs.length := by
      unfold unR at hu
      split at hu
      · omega
      · omega
    obtain ⟨b, o, ha⟩ : ∃ b o, pa = some ⟨b, o, none⟩ := by
      rcases hok.2.2 with h | ⟨b, o, ha, hc⟩
      · simp only at h; rw [h] at h240; simp at h240
      · exact ⟨b, o, ha⟩
    subst ha
    obtain ⟨R1, e1⟩ : ∃ R1, R1 = parseG [] [zs.drop 240] := ⟨_, rfl⟩
    obtain ⟨h, eh⟩ : ∃ h, h = (ovG (okL R1)).1 := ⟨_, rfl⟩
    obtain ⟨x, ex⟩ : ∃ x, x = (ovG (okL R1)).2 := ⟨_, rfl⟩
    obtain ⟨R2, e2⟩ : ∃ R2, R2 = parseG [] (roomsZ zs h) := ⟨_, rfl⟩
    have K := dcK b o c zs w hok hl hu h240 R1 R2 h e1 eh e2
    rw [← ex] at K
    have hR : decR zs = dec1 zs R1 := by unfold decR; rw [if_neg (by simpa using hu), e1]
    rw [hR]
    have n1 : R1 ≠ .error 0 := by rw [e1]; exact bparse_err _ _
    have n2 : R2 ≠ .error 0 := by rw [e2]; exact bparse_err _ _
    have tk : Took (okL R1) := by
      rw [e1]
      exact (okL_took (ps := [zs.drop 240]) (fun p hp z hzp => by simp at hp; subst hp; exact hok.1 z (List.mem_of_mem_drop hzp))).1
    by_cases x1 : exR R1 = 0
    · obtain ⟨g, eg⟩ := exR_ok n1 x1
      have hd : dec1 zs R1 = if x ≠ 0 then .error x else dec2 zs h (if h = 0 then .ok g else R2) := by rw [e2, ex, eh, eg]; rfl
      rw [hd]
      by_cases x2 : x = 0
      · rw [if_neg (by simpa using x2)]
        subst x2
        by_cases hh : h = 0
        · rw [if_pos hh]
          have hP : ∀ w' a n c', OptI w w' (.slice a n c') ((okL R1).filter fun o => o.1 != 52) → Below w.heap.size w w' → DecP w (dec2 zs h (.ok g)) (.returned (.tuple #[(decB zs 0).val (.slice a n c'), .int .i64 0])) w' := fun w' a n c' p1 p2 => ⟨a, n, c', by rw [hh]; rfl, by rw [eg] at p1; exact p1, p2⟩
          rw [hh] at K
          by_cases hc : c = 240
          · subst hc
            exact decode_qy0 w b o _ _ _ _ _ _ _ _ K _ x1 (decB zs 0) rfl rfl rfl (fun v => rfl) hP
          · exact decode_y0 w b o _ c _ _ _ _ _ _ _ K _ hc x1 (decB zs 0) rfl rfl rfl (fun v => rfl) hP
        · rw [if_neg hh]
          by_cases x3 : exR R2 = 0
          · obtain ⟨g2, eg2⟩ := exR_ok n2 x3
            rw [eg2]
            have hP : ∀ w' a n c', OptI w w' (.slice a n c') ((okL R2).filter fun o => o.1 != 52) → Below w.heap.size w w' → DecP w (dec2 zs h (.ok g2)) (.returned (.tuple #[(decB zs h).val (.slice a n c'), .int .i64 0])) w' := fun w' a n c' p1 p2 => ⟨a, n, c', rfl, by rw [eg2] at p1; exact p1, p2⟩
            have hb := ovG_bd tk
            rw [← eh] at hb
            rcases hb with hb | hb | hb | hb
            · exact absurd hb hh
            · rw [hb] at K hP ⊢
              by_cases hc : c = 240
              · subst hc
                exact decode_qy1 w b o _ _ _ _ _ _ _ _ K _ x1 x3 (decB zs 1) rfl rfl rfl (fun v => rfl) hP
              · exact decode_y1 w b o _ c _ _ _ _ _ _ _ K _ hc x1 x3 (decB zs 1) rfl rfl rfl (fun v => rfl) hP
            · rw [hb] at K hP ⊢
              by_cases hc : c = 240
              · subst hc
                exact decode_qy2 w b o _ _ _ _ _ _ _ _ K _ x1 x3 (decB zs 2) rfl rfl rfl (fun v => rfl) hP
              · exact decode_y2 w b o _ c _ _ _ _ _ _ _ K _ hc x1 x3 (decB zs 2) rfl rfl rfl (fun v => rfl) hP
            · rw [hb] at K hP ⊢
              by_cases hc : c = 240
              · subst hc
                exact decode_qy3 w b o _ _ _ _ _ _ _ _ K _ x1 x3 (decB zs 3) rfl rfl rfl (fun v => rfl) hP
              · exact decode_y3 w b o _ c _ _ _ _ _ _ _ K _ hc x1 x3 (decB zs 3) rfl rfl rfl (fun v => rfl) hP
          · have hE : (exR R2 != 0) = true := by simpa using x3
            have hP : ∀ w', Below w.heap.size w w' → DecP w (dec2 zs h R2) (.returned (.tuple #[.agg zeroC, .int .i64 (exR R2)])) w' := fun w' hb => by
              cases R2 with
              | ok g => simp [exR] at x3
              | error e => exact decP_err w e w' hb
            by_cases hc : c = 240
            · subst hc
              exact decode_qe4 w b o _ _ _ _ _ _ _ _ _ _ K _ x1 rfl hh hE hP
            · exact decode_e4 w b o _ c _ _ _ _ _ _ _ _ _ K _ hc x1 rfl hh hE hP
      · rw [if_pos x2]
        exact decode_e3 w b o _ c _ _ _ _ _ _ _ _ _ K _ x1 (by simpa using x2) (fun w' hb => decP_err w x w' hb)
    · refine decode_e2 w b o _ c _ _ _ _ _ _ _ _ _ K _ (by simpa using x1) (fun w' hb => ?_)
      cases R1 with
      | ok g => simp [exR] at x1
      | error e => exact decP_err w e w' hb
  · have hR : decR zs = .error (unR zs) := by unfold decR; rw [if_pos hu]
    rw [hR]
    exact decode_e1 pa zs.length c (unR zs) w _ (fun W hW => unreadable_any ⟨pa, c, zs⟩ W (Part.ok_below hok hW) hl) (by simpa using hu) (fun w' hb => decP_err w _ w' hb)
end Go.Proofs.Ytoifblndpcelkaa
