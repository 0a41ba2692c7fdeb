/-
  The statements' book of rows of options: the contract of Owned.
-/
import Derived.Test.YtmdkanbfpmdimaaOBkO
namespace Go.Proofs.Ytmdkanbfpmdimaa
open Go.RowKit
set_option linter.all false

theorem K15.below {w w' : World} {B gk : Nat} {L V R S : Value} {ls : List (Value × List Int)} {rs ws : List (Value × List (Opt × Value))} (h : K15 w B gk L V R S ls rs ws) (hb : Below w.heap.size w w') : K15 w' B gk L V R S ls rs ws :=
  ⟨h.book.rebox ((hb.block gk (heap_lt h.book.box)).trans h.book.box) (fun k hk => by rcases hk with hk | hk; · exact hb.block k (h.book.lists.lt hk)
                                                                                      · exact hb.block k (h.book.was.lt hk)) (fun p hp b hb' => hb.block b ((h.book.rows p hp).1.lt hb')), h.late, Nat.le_trans h.base hb.size, h.rR.below hb, h.rS.below hb, h.lR, h.lS, h.RS, fun p hp => (h.rows p hp).below hb, h.rlt, h.apart, h.fit, fun i p q hp hq => ⟨(h.cop i p q hp hq).1.below hb, (h.cop i p q hp hq).2⟩, h.len⟩
/-- the book when its bytes have been asked for. -/
structure G15 (w : World) (B gk : Nat) (L V R S : Value) (rs : List (Value × List (Opt × Value))) : Prop where
  own : Own15 w B (fun b => b = gk ∨ R.ownBlock = some b) (rs.map fun p => (p.1, p.2.length))
  base : B ≤ w.heap.size
  box : w.heap[gk]? = some (.cells #[L, V, R, S] 39 (0, 0))
  rR : Row w 25 R (rs.map Prod.fst)
  rows : ∀ p ∈ rs, RowS w 45 2 p.1 p.2.length (flatE p.2) ∧ p.2.length ≤ 1000
theorem K15.after {w w' : World} {B gk : Nat} {L V R S : Value} {ls : List (Value × List Int)} {rs ws : List (Value × List (Opt × Value))} (h : K15 w B gk L V R S ls rs ws) (hb : Below B w w') (h1 : ∀ b, b < w.heap.size → ¬ B15.InBook gk L V b → (∀ p, p ∈ ls → p.1.ownBlock ≠ some b) → w'.heap[b]? = w.heap[b]?) (h2 : ∀ b, B15.InBook gk L V b → w'.heap[b]? = w.heap[b]?) : G15 w' B gk L V R S rs := by
  have kT : ∀ (b : Nat) cs t f, w.heap[b]? = some (.cells cs t f) → (t = 45 ∨ t = 25) → w'.heap[b]? = w.heap[b]? := fun b cs t f hc ht => by
    refine h1 b (heap_lt hc) (h.book.offT hc (by rcases ht with e | e <;> simp [e])) (fun p hp e => ?_)
    obtain ⟨c1, f1, g1⟩ := (h.book.rows p hp).1.obj e
    rw [g1] at hc
    simp only [Option.some.injEq, Obj.cells.injEq] at hc
    rcases ht with ht | ht <;> rw [ht] at hc <;> simp at hc
  have rR' : Row w' 25 R (rs.map Prod.fst) := h.rR.keep fun b hb => by
    obtain ⟨c1, f1, g1⟩ := h.rR.obj hb
    exact kT b _ _ _ g1 (Or.inr rfl)
  have box' := (h2 gk (Or.inl rfl)).trans h.book.box
  have rw' : ∀ p ∈ rs, RowS w' 45 2 p.1 p.2.length (flatE p.2) := fun p hp => (h.rows p hp).row.keep fun b hb => by
    obtain ⟨c1, g1⟩ := (h.rows p hp).row.obj hb
    exact kT b _ _ _ g1 (Or.inl rfl)
  have each : ∀ (j : Nat) p, (rs.map fun p => (p.1, p.2.length))[j]? = some p → ∃ q, rs[j]? = some q ∧ p = (q.1, q.2.length) := fun j p hp => by
    rw [List.getElem?_map] at hp
    cases hq : rs[j]? with
    | none => rw [hq] at hp; simp at hp
    | some q => rw [hq] at hp; simp only [Option.map_some, Option.some.injEq] at hp; exact ⟨q, rfl, hp.symm⟩
  refine ⟨⟨fun j p b hp hb => ?_, fun j j' p p' b hne hp hp' hb => ?_, fun b hb => ?_⟩, Nat.le_trans h.base hb.size, box', rR', fun p hp => ⟨rw' p hp, (h.fit p hp).1⟩⟩
  · obtain ⟨q, hq, rfl⟩ := each j p hp
    have hm := List.mem_of_getElem? hq
    have hlt := h.rlt q hm b hb
    refine ⟨(h.rows q hm).low b hb, (rw' q hm).lt hb, fun e => ?_⟩
    rcases e with e | e
    · omega
    · have := h.lR b e
      omega
  · obtain ⟨q, hq, rfl⟩ := each j p hp
    obtain ⟨q', hq', rfl⟩ := each j' p' hp'
    exact h.apart j j' q q' b (fun e => hne e.symm) hq hq' hb
  · rcases hb with rfl | hb
    · exact heap_lt box'
    · exact rR'.lt hb
set_option maxRecDepth 20000 in
set_option maxHeartbeats 8000000 in
theorem owned15_any (B gk : Nat) (L V R S : Value) (ls : List (Value × List Int)) (rs ws : List (Value × List (Opt × Value))) (w : World) (h : K15 w B gk L V R S ls rs ws) (hfew : rs.length ≤ 1000) :
    Calls Try.prog 13 #[.pointer (some ⟨gk, 0, none⟩)] w fun e w' => e = .returned (.bool true) ∧ Hid (Below B w w') := by
  obtain ⟨N, hN⟩ : ∃ N, rs.length = N := ⟨_, rfl⟩
  have HN := hid hN
  have hNb : N ≤ 1000 := by omega
  obtain ⟨aR, cR, hRe, _⟩ := h.rR.form
  rw [List.length_map, hN] at hRe
  have HK := hid h
  have HC : Hid (∀ wr : World, wr.heap[gk]? = w.heap[gk]? → ∀ q, wr.cell? ⟨gk, q, none⟩ = (#[L, V, R, S] : Array Value)[q]?) := fun wr hw q => cell_of_heap (hw.trans h.book.box) q
  have hgk := heap_lt h.book.box
  have HG := hid hgk
  clear hN h hfew
  subst hRe
  go_enter Try.func13, Try.ntmps13
  go_wp2
  go_loopw [3] (fun i wr => ∃ k : Nat, k ≤ N ∧ i = .int .i64 k ∧ Hid (Below w.heap.size w wr)) (fun i _ => N - (intOf i).toNat)
  case atStart => exact ⟨0, Nat.zero_le _, rfl, Below.refl _ _⟩
  case round =>
    obtain ⟨k, hk, rfl, HB⟩ := hrel
    have hc := HC.out wr (HB.out.block gk HG.out)
    by_cases hlt : k < N
    · have hlt' : (k : Int) < N := by omega
      have hK := HK.out.below HB.out
      obtain ⟨p, hp⟩ : ∃ p, rs[k]? = some p := ⟨rs[k]'(by rw [HN.out]; exact hlt), List.getElem?_eq_getElem _⟩
      obtain ⟨q, hq⟩ : ∃ q, ws[k]? = some q := ⟨ws[k]'(by rw [← hK.len, HN.out]; exact hlt), List.getElem?_eq_getElem _⟩
      obtain ⟨gL, cL', eR, c1⟩ := hK.rR.cell k (by rw [List.length_map, HN.out]; exact hlt)
      obtain ⟨gS, cS', eS, c2⟩ := hK.rS.cell k (by rw [List.length_map, ← hK.len, HN.out]; exact hlt)
      have ep : (rs.map Prod.fst)[k]'(by rw [List.length_map, HN.out]; exact hlt) = p.1 := by
        have := (List.getElem?_eq_some_iff.1 hp).2
        simp [this]
      have eq : (ws.map Prod.fst)[k]'(by rw [List.length_map, ← hK.len, HN.out]; exact hlt) = q.1 := by
        have := (List.getElem?_eq_some_iff.1 hq).2
        simp [this]
      rw [ep] at c1
      rw [eq] at c2
      have hpo := hK.rows p (List.mem_of_getElem? hp)
      have hcop := hK.cop k p q hp hq
      have hfit := hK.fit p (List.mem_of_getElem? hp)
      have hfq : q.2.length ≤ 1000 ∧ ∀ o ∈ q.2, o.1.2.length ≤ 2147483647 ∧ -9223372036854775808 ≤ o.1.1 ∧ o.1.1 ≤ 9223372036854775807 := by
        have hl := congrArg List.length hcop.2
        rw [List.length_map, List.length_map] at hl
        refine ⟨by omega, fun o ho => ?_⟩
        have : o.1 ∈ q.2.map Prod.fst := List.mem_map_of_mem ho
        rw [hcop.2] at this
        obtain ⟨o', h1, h2⟩ := List.mem_map.1 this
        rw [← h2]
        exact hfit.2 o' h1
      obtain ⟨ap, cp, e3, _⟩ := hpo.form
      obtain ⟨aq, cq, e4, _⟩ := hcop.1.form
      rw [e3] at hpo c1
      have hcq := hcop.1
      rw [e4] at hcq c2
      have V1 := (hpo.view (fun o ho => by have := (hfit.2 o ho).1; omega) (by omega) (fun o ho => (hfit.2 o ho).2)).1
      have V2 := (hcq.view (fun o ho => by have := (hfq.2 o ho).1; omega) (by omega) (fun o ho => (hfq.2 o ho).2)).1
      have CS : ∀ wx : World, Below wr.heap.size wr wx → Calls Try.prog 11 #[.slice ap p.2.length cp, .slice aq q.2.length cq] wx fun e w' => e = .returned (.bool true) ∧ Hid (Below w.heap.size w w') := fun wx hb => by
        have := osame_yes ap aq cp cq (p.2.map ptOf) (q.2.map ptOf) wx (V1.below hb) (V2.below hb) (by rw [ptOf_abs, ptOf_abs, hcop.2])
        rw [List.length_map, List.length_map] at this
        refine this.mono ?_
        rintro e w' ⟨h1, h2⟩
        exact ⟨h1, bstep (bstep HB.out hb) h2.out⟩
      have hlS : ws.length = N := by rw [← HK.out.len, HN.out]
      rw [List.length_map, HN.out] at eR
      rw [List.length_map, hlS] at eS
      simp only [Value.slice.injEq] at eR
      obtain ⟨rfl, _, rfl⟩ := eR
      subst eS
      have CD := CS wr.drew (Below.refl _ _).drew
      have CW := CS wr (Below.refl _ _)
      clear hK hpo hcop hcq hfit hfq e3 e4 V1 V2 CS ep eq hp hq hlS
      generalize p.2.length = lp at *
      generalize q.2.length = lq at *
      go_wp2
      go_region_with (first
        | (go_at_call 11; refine CD.mono ?_; rintro e w2 ⟨rfl, HW⟩))
      all_goals (try go_wp2)
      all_goals
        refine ⟨⟨k + 1, by omega, by go_num, HW⟩, ?_⟩
        simp [intOf]
        omega
    · have hge : ¬ (k : Int) < N := by omega
      have CO : ∀ wx : World, Below wr.heap.size wr wx → Calls Try.prog 27 #[.pointer (some ⟨gk, 0, none⟩)] wx fun e w2 => e = .returned (.bool true) ∧ Hid (G15 w2 B gk L V (.slice aR N cR) S rs ∧ Below B w w2) := fun wx hb => by
        have hK := (HK.out.below HB.out).below hb
        refine (B15.owned_any gk L V ls B wx hK.book hK.base).mono ?_
        rintro e w2 ⟨h1, h2, h3, h4⟩
        exact ⟨h1, hK.after h2 h3 h4, ((bstep HB.out hb).mono HK.out.base).trans h2⟩
      have CD := CO wr.drew (Below.refl _ _).drew
      have CW := CO wr (Below.refl _ _)
      clear CO
      go_wp2_with (first
        | (go_at_call 27; refine CW.mono ?_; rintro e W1 ⟨rfl, HG1⟩))
      clear CW CD hc HK HC HB
      have HC : Hid (∀ wr : World, wr.heap[gk]? = W1.heap[gk]? → ∀ q, wr.cell? ⟨gk, q, none⟩ = (#[L, V, .slice aR N cR, S] : Array Value)[q]?) := fun wr hw q => cell_of_heap (hw.trans HG1.out.1.box) q
      go_loopw [6, 7] (fun gs i wx => ∃ k : Nat, ∃ gvs : List Value, k ≤ N ∧ i = .int .i64 k ∧ Hid (OI15 W1 wx B (fun b => b = gk ∨ (Value.slice aR N cR).ownBlock = some b) (rs.map fun p => (p.1, p.2.length)) k gs gvs)) (fun _ i _ => N - (intOf i).toNat)
      case atStart => exact ⟨0, [], Nat.zero_le _, rfl, OI15.start rfl (Below.refl _ _)⟩
      case round =>
        obtain ⟨j, gvs, hj, rfl, HO⟩ := hrel
        obtain ⟨W0, rfl⟩ : ∃ W0, W0 = wr := ⟨_, rfl⟩
        obtain ⟨ag0, cg0, eg0, hjk0⟩ := HO.out.row.form
        rw [HO.out.len] at eg0
        have hc := HC.out W0 (HO.out.book gk (Or.inl rfl))
        clear hjk0
        subst eg0
        by_cases hlj : j < N
        · have hlj' : (j : Int) < N := by omega
          obtain ⟨p, hp⟩ : ∃ p, rs[j]? = some p := ⟨rs[j]'(by rw [HN.out]; exact hlj), List.getElem?_eq_getElem _⟩
          obtain ⟨gL, cL', eR, c1⟩ := HG1.out.1.rR.cell j (by rw [List.length_map, HN.out]; exact hlj)
          have ep : (rs.map Prod.fst)[j]'(by rw [List.length_map, HN.out]; exact hlj) = p.1 := by
            have := (List.getElem?_eq_some_iff.1 hp).2
            simp [this]
          rw [ep] at c1
          have hps : (rs.map fun p => (p.1, p.2.length))[j]? = some (p.1, p.2.length) := by rw [List.getElem?_map, hp]; rfl
          have hrows := HG1.out.1.rows p (List.mem_of_getElem? hp)
          have r0 : RowS W0 45 2 p.1 p.2.length (flatE p.2) := hrows.1.keep fun b hb => HO.out.later j _ b (Nat.le_refl _) hps hb
          rw [List.length_map, HN.out] at eR
          simp only [Value.slice.injEq] at eR
          obtain ⟨rfl, _, rfl⟩ := eR
          obtain ⟨a, c, e3, _⟩ := r0.form
          have c1' : W0.cell? ⟨gL, j, none⟩ = some (.slice a p.2.length c) := by
            rw [World.cell?_of_block (w := W1) (a := ⟨gL, j, none⟩) (HO.out.book gL (Or.inr rfl)), c1, e3]
          have hpl := hrows.2
          have hfl := flatE_len p.2
          rw [e3] at r0 hps
          have HHD : Hid (a = none ∨ ∃ b, a = some ⟨b, 0, none⟩ ∧ b < W0.heap.size) := by
            rcases Nat.eq_zero_or_pos p.2.length with h0 | h0
            · rcases r0.2 with ⟨h1, _⟩ | ⟨g, cap, cur, h1, _, hg, _⟩
              · simp only [Value.slice.injEq] at h1
                exact Or.inl h1.1
              · simp only [Value.slice.injEq] at h1
                exact Or.inr ⟨g, h1.1, heap_lt hg⟩
            · obtain ⟨g, cap, h1, _⟩ := r0.some_of h0
              simp only [Value.slice.injEq] at h1
              exact Or.inr ⟨g, h1.1, r0.lt (by rw [h1.1]; rfl)⟩
          generalize hl : p.2.length = l at *
          generalize flatE p.2 = fs at *
          have HR0 := hid r0
          have HP := hid hps
          have HLT : Hid (∀ b, (Value.slice a l c).ownBlock = some b → b < W1.heap.size) := fun b hb => hrows.1.lt (by rw [e3]; exact hb)
          have HFL := hid hfl
          clear r0 hps hrows e3 c1 ep hp hfl hl
          go_wp2
          clear hc c1'
          go_loopw [9] (fun i wx => ∃ m : Nat, m ≤ l ∧ i = .int .i64 m ∧ Hid (W0.grownBy wx (Value.slice a l c).ownBlock ∧ RowS wx 45 2 (.slice a l c) l (mk15 j m ++ fs.drop (m * 2)))) (fun i _ => l - (intOf i).toNat)
          case atStart => exact ⟨0, Nat.zero_le _, rfl, grown_refl _ _, by simpa [mk15] using HR0.out⟩
          case round =>
            obtain ⟨m, hm, rfl, HM⟩ := hrel
            by_cases hml : m < l
            · have hml' : (m : Int) < l := by omega
              obtain ⟨g, cap, eg, _⟩ := HM.out.2.some_of (by omega)
              simp only [Value.slice.injEq] at eg
              obtain ⟨rfl, _, rfl⟩ := eg
              have hlen : (mk15 j m ++ fs.drop (m * 2)).length = l * 2 := by rw [List.length_append, mk15_len, List.length_drop, HFL.out]; omega
              obtain ⟨⟨u, hu⟩, hz, s1⟩ := HM.out.2.set (m * 2) (by rw [hlen]; omega) (.int .i64 ((1000 : Int) * j + m))
              obtain ⟨⟨u', hu'⟩, hz', s2⟩ := s1.set (m * 2 + 1) (by rw [List.length_set, hlen]; omega) (.slice none 0 0)
              obtain ⟨⟨u2, hu2⟩, hz2, _⟩ := HM.out.2.set (m * 2 + 1) (by rw [hlen]; omega) (.slice none 0 0)
              rw [set_two _ _ _ _ m (mk15_len j m) (by rw [HFL.out]; omega)] at s2
              have HS := hid s2
              clear s1 s2
              go_wp2
              go_roundw
              case rel => exact ⟨m + 1, by omega, by go_num, grown_trans (grown_trans HM.out.1 (grown_setCell _ _ _ _) (Or.inl rfl)) (grown_setCell _ _ _ _) (Or.inl rfl), HS.out⟩
              case measure => simp [intOf]; omega
            · have hml' : ¬ (m : Int) < l := by omega
              have hme : m = l := by omega
              subst hme
              have HR1 : Hid (RowS wr 45 2 (.slice a m c) m (mk15 j m)) := by
                have := HM.out.2
                rw [List.drop_eq_nil_of_le (by rw [HFL.out]; exact Nat.le_refl _), List.append_nil] at this
                exact this
              go_wp2
              obtain ⟨W2, rfl⟩ : ∃ W2, W2 = wr := ⟨_, rfl⟩
              go_loopw [10, 11] (fun g i wx => ∃ (q : Nat), q ≤ 5 ∧ i = .int .i64 q ∧ Hid (W0.grownBy wx (Value.slice a m c).ownBlock ∧ RowS wx 45 2 g (m + q) (mk15 j (m + q)) ∧ Reads15 wx (.slice a m c) j m ∧ (g.ownBlock = (Value.slice a m c).ownBlock ∨ ∃ b, g.ownBlock = some b ∧ W0.heap.size ≤ b))) (fun _ i _ => 5 - (intOf i).toNat)
              case atStart => exact ⟨0, by omega, rfl, HM.out.1, HR1.out, Reads15.of_row HR1.out, Or.inl rfl⟩
              case round =>
                obtain ⟨q, hq, rfl, HQ⟩ := hrel
                obtain ⟨ag, cg, eg, _⟩ := HQ.out.2.1.form
                subst eg
                by_cases hq5 : q < 5
                · have hq5' : (q : Int) < 5 := by omega
                  obtain ⟨gg, cc, w', hrun, f1, f2, f3, f4⟩ := grow15 HQ.out.2.1 HQ.out.2.2.1 HQ.out.2.2.2 HQ.out.1 HHD.out hpl (by omega)
                  have HRUN := hid hrun
                  have HF := hid (⟨f1, f2, f3, f4⟩ : _ ∧ _ ∧ _ ∧ _)
                  clear hrun f1 f2 f3 f4
                  go_wp2_with (first
                    | (at_builtin; refine wpList_append_run _ rfl _ _ _ _ rfl _ _ rfl rfl HRUN.out ?_; clear HRUN))
                  go_roundw
                  case rel => exact ⟨q + 1, by omega, by go_num, HF.out⟩
                  case measure => simp [intOf]; omega
                · have hq5' : ¬ (q : Int) < 5 := by omega
                  have hq5e : q = 5 := by omega
                  subst hq5e
                  have rgs := (HO.out.row.grown HQ.out.1 (fun b hb e => by have a1 := HLT.out b e; have a2 := HO.out.fresh b hb; omega)).below (w' := wr.alloc (.cells #[.slice ag (m + 5) cg] 25)) ((Below.refl _ _).alloc (Nat.le_refl _) _)
                  obtain ⟨gv', w3, hrun, rv, hgr3, hcase⟩ := append_one 37 37 25 _ 24 Try.underlying37 infoRow rfl rgs (.slice ag (m + 5) cg) rfl wr.heap.size _ (heap_new _ _) (by rw [HO.out.len]; unfold maxLen; omega) (by rw [HO.out.len]; omega)
                  have hmv : Moved wr.heap.size _ gv' := Moved.of hcase (by simp)
                  have HST := hid (OI15.step HG1.out.1.base HG1.out.1.own HO.out HP.out HQ.out.1 HQ.out.2.1 HQ.out.2.2.1 HQ.out.2.2.2 (grown_trans (grown_alloc wr _ _) hgr3 (Or.inl rfl)) rv hmv)
                  have HRUN := hid hrun
                  obtain ⟨g5, n5, c5, e5, _⟩ := hmv
                  subst e5
                  clear rgs hrun rv hgr3 hcase
                  go_wp2_with (first
                    | (at_builtin; refine wpList_append_run _ rfl _ _ _ _ rfl _ _ rfl rfl HRUN.out ?_; clear HRUN))
                  go_roundw
                  case rel => exact ⟨j + 1, _, by omega, by go_num, HST.out⟩
                  case measure => simp [intOf]; omega
        · have hlj' : ¬ (j : Int) < N := by omega
          have hje : j = N := by omega
          subst hje
          go_wp2
          go_loop [12] (fun i => ∃ q : Nat, q ≤ j ∧ i = .int .i64 q) (fun i => j - (intOf i).toNat)
          case atStart => exact ⟨0, Nat.zero_le _, rfl⟩
          case round =>
            obtain ⟨q, hq, rfl⟩ := hrel
            by_cases hqj : q < j
            · have hqj' : (q : Int) < j := by omega
              obtain ⟨p, hp⟩ : ∃ p, rs[q]? = some p := ⟨rs[q]'(by rw [HN.out]; exact hqj), List.getElem?_eq_getElem _⟩
              obtain ⟨gL, cL', eR, c1⟩ := HG1.out.1.rR.cell q (by rw [List.length_map, HN.out]; exact hqj)
              have ep : (rs.map Prod.fst)[q]'(by rw [List.length_map, HN.out]; exact hqj) = p.1 := by
                have := (List.getElem?_eq_some_iff.1 hp).2
                simp [this]
              rw [ep] at c1
              have hps : (rs.map fun p => (p.1, p.2.length))[q]? = some (p.1, p.2.length) := by rw [List.getElem?_map, hp]; rfl
              have hrows := HG1.out.1.rows p (List.mem_of_getElem? hp)
              rw [List.length_map, HN.out] at eR
              simp only [Value.slice.injEq] at eR
              obtain ⟨rfl, _, rfl⟩ := eR
              obtain ⟨a, c, e3, _⟩ := hrows.1.form
              have c1' : W0.cell? ⟨gL, q, none⟩ = some (.slice a p.2.length c) := by
                rw [World.cell?_of_block (w := W1) (a := ⟨gL, q, none⟩) (HO.out.book gL (Or.inr rfl)), c1, e3]
              have hpl := hrows.2
              obtain ⟨g, hg, rg, rd, _⟩ := HO.out.done q _ hqj hps
              simp only at rg rd
              rw [e3] at rd
              obtain ⟨gG, cG, e4, c4⟩ := HO.out.row.cell q (by rw [HO.out.len]; exact hqj)
              rw [HO.out.len] at e4
              simp only [Value.slice.injEq] at e4
              obtain ⟨rfl, _, rfl⟩ := e4
              have e5 : gvs[q]'(by rw [HO.out.len]; exact hqj) = g := by
                have := List.getElem?_eq_getElem (l := gvs) (i := q) (by rw [HO.out.len]; exact hqj)
                rw [hg] at this
                simpa using this.symm
              rw [e5] at c4
              obtain ⟨g6, c6, e6, _⟩ := rg.some_of (by omega)
              subst e6
              have HRG := hid rg
              have HRD := hid rd
              clear e5 hg rg rd c1 e3 hrows hp hps ep
              generalize p.2.length = l at *
              go_wp2
              go_loop [14] (fun i => ∃ r : Nat, r ≤ l + 5 ∧ i = .int .i64 r) (fun i => l + 5 - (intOf i).toNat)
              case atStart => exact ⟨0, Nat.zero_le _, rfl⟩
              case round =>
                obtain ⟨r, hr, rfl⟩ := hrel
                by_cases hrl : r < l + 5
                · have hrl' : (r : Int) < (l : Int) + 5 := by omega
                  have c7 := RowS.cell HRG.out (mk15_at q (l + 5) r hrl)
                  have hne : ((1000 : Int) * q + r != (1000 : Int) * q + r) = false := by simp
                  by_cases hr2 : r < l
                  · obtain ⟨b8, c8, e8, c9⟩ := HRD.out r hr2
                    simp only [Value.slice.injEq] at e8
                    obtain ⟨rfl, _, rfl⟩ := e8
                    have hr2' : (r : Int) < (l : Int) := by omega
                    go_wp2
                    go_round
                    case rel => exact ⟨r + 1, by omega, by go_num⟩
                    case measure => simp [intOf]; omega
                  · have hr2' : decide ((r : Int) < (l : Int)) = false := by simp; omega
                    go_wp2
                    go_round
                    case rel => exact ⟨r + 1, by omega, by go_num⟩
                    case measure => simp [intOf]; omega
                · have hrl' : ¬ (r : Int) < (l : Int) + 5 := by omega
                  go_wp2
                  go_round
                  case rel => exact ⟨q + 1, by omega, by go_num⟩
                  case measure => simp [intOf]; omega
            · have hqj' : ¬ (q : Int) < j := by omega
              have HB : Hid (Below B w W0) := HG1.out.2.trans HO.out.below
              go_wp2
              go_ret
              exact ⟨rfl, HB.out⟩
end Go.Proofs.Ytmdkanbfpmdimaa
