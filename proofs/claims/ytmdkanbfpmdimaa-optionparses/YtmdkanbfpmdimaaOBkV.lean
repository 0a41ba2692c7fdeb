/-
  The statements' book of rows of options: the contract of Take.
-/
import Derived.Test.YtmdkanbfpmdimaaOBkU
namespace Go.Proofs.Ytmdkanbfpmdimaa
open Go.RowKit
set_option linter.all false

theorem app_one {α : Type} {l : List α} {x y : α} {i : Nat} (h : (l ++ [x])[i]? = some y) : (i < l.length ∧ l[i]? = some y) ∨ (i = l.length ∧ y = x) := by
  rcases Nat.lt_trichotomy i l.length with h1 | h1 | h1
  · rw [List.getElem?_append_left h1] at h
    exact Or.inl ⟨h1, h⟩
  · subst h1
    simp only [List.getElem?_concat_length, Option.some.injEq] at h
    exact Or.inr ⟨rfl, h.symm⟩
  · rw [List.getElem?_eq_none (by simp; omega)] at h
    simp at h
set_option maxRecDepth 20000 in
set_option maxHeartbeats 8000000 in
theorem take15_any (B gk : Nat) (L V R S v : Value) (ls : List (Value × List Int)) (rs ws : List (Value × List (Opt × Value))) (E : List (Opt × Value)) (w : World) (h : K15 w B gk L V R S ls rs ws) (hv : OwnO B w v E) (hlt : ∀ b, InO v E b → b < gk)
    (hap : ∀ p ∈ rs, ∀ b, p.1.ownBlock = some b → v.ownBlock ≠ some b) (hdis : ∀ q ∈ E, ∀ b, q.2.ownBlock = some b → ∀ p ∈ ls, p.1.ownBlock ≠ some b) (hn : E.length ≤ 1000) (hr : rs.length ≤ 1000) (hls : ls.length ≤ 1000000) (hz : ∀ q ∈ E, q.1.2.length ≤ 2147483647) (hcd : ∀ q ∈ E, -9223372036854775808 ≤ q.1.1 ∧ q.1.1 ≤ 9223372036854775807) :
    Calls Try.prog 12 #[.pointer (some ⟨gk, 0, none⟩), v] w fun e w' => e = .returned (.tuple #[]) ∧ Hid ((∃ L' V' R' S' qv qE, K15 w' B gk L' V' R' S' (ls ++ dat E) (rs ++ [(v, E)]) (ws ++ [(qv, qE)])) ∧ (∀ b, b < gk → w'.heap[b]? = w.heap[b]?) ∧ Below B w w') := by
  obtain ⟨av, cv, hve, _⟩ := hv.form
  have hgk := heap_lt h.book.box
  have hBg : B ≤ gk := h.book.low gk (Or.inl rfl)
  have hlsw := h.len
  -- the first row
  obtain ⟨gR, nR, cR, w1, ap1, box1, box2, rR2, locR, keep2, sz2, bel2⟩ := put_row (j := 2) h.book.box h.rR (v := v) (by rw [hve]; rfl) (by simp; omega)
  simp only [Array.setIfInBounds, List.size_toArray, List.length_cons, List.length_nil] at box2
  have box2' : (w1.setCell ⟨gk, 2, none⟩ (.slice (some ⟨gR, 0, none⟩) nR cR)).heap[gk]? = some (.cells #[L, V, .slice (some ⟨gR, 0, none⟩) nR cR, S] 39 (0, 0)) := box2
  generalize hw2 : w1.setCell ⟨gk, 2, none⟩ (.slice (some ⟨gR, 0, none⟩) nR cR) = w2 at *
  have HW2 := hid hw2
  have lowR : ∀ b, R.ownBlock = some b → gk ≤ b := h.lR
  have lgR : gk ≤ gR := by rcases locR with e | e; · exact h.lR gR e
                           · omega
  have hb2 : Below B w w2 := bel2 B h.base hBg (fun b hb => Nat.le_trans hBg (h.lR b hb))
  have kT2 : ∀ (b : Nat) cs t f, w.heap[b]? = some (.cells cs t f) → (t = 45 ∨ t = 5) → w2.heap[b]? = some (.cells cs t f) := fun b cs t f hc ht => by
    have ho := h.off hc ht
    rw [keep2 b (heap_lt hc) (fun e => ho.1 (Or.inl e)) ho.2.1]
    exact hc
  have hv2 : OwnO B w2 v E := hv.keepT kT2
  have lo2 : ∀ b, b < gk → w2.heap[b]? = w.heap[b]? := fun b hb => keep2 b (by omega) (by omega) (fun e => by have := h.lR b e; omega)
  rw [hve] at hv2
  obtain ⟨OVv, _⟩ := hv2.view (fun q hq => by have := hz q hq; omega) (by omega) hcd
  have CC0 := copied_any av cv (E.map ptOf) w2 OVv
  rw [List.length_map] at CC0
  have rS2 : Row w2 25 S (ws.map Prod.fst) := h.rS.keep fun b hb => keep2 b (h.rS.lt hb) (fun e => by
    subst e
    obtain ⟨c1, f1, h1⟩ := h.rS.obj hb
    rw [h.book.box] at h1
    simp at h1) (fun e => h.RS b e hb)
  have CC : Calls Try.prog 25 #[.slice av E.length cv] w2 fun e w3 => ∃ ax n3 cx gS nS cS w4, e = .returned (.slice ax n3 cx) ∧ w3.cell? ⟨gk, 3, none⟩ = some S ∧
      Hid ((Builtin.append_ #[37, 37] 37 #[S, .slice (some ⟨w3.heap.size, 0, none⟩) 1 1]).run Try.prog (w3.alloc (.cells #[.slice ax n3 cx] 25)) = .ok (.slice (some ⟨gS, 0, none⟩) nS cS) w4) ∧ (∃ u, w4.cell? ⟨gk, 3, none⟩ = some u) ∧ w4.frozen? ⟨gk, 3, none⟩ = false ∧
      Hid (∃ q : Value × List (Opt × Value), K15 (w4.setCell ⟨gk, 3, none⟩ (.slice (some ⟨gS, 0, none⟩) nS cS)) B gk L V (.slice (some ⟨gR, 0, none⟩) nR cR) (.slice (some ⟨gS, 0, none⟩) nS cS) ls (rs ++ [(v, E)]) (ws ++ [q]) ∧ (∀ b, b < gk → (w4.setCell ⟨gk, 3, none⟩ (.slice (some ⟨gS, 0, none⟩) nS cS)).heap[b]? = w.heap[b]?) ∧ Below B w (w4.setCell ⟨gk, 3, none⟩ (.slice (some ⟨gS, 0, none⟩) nS cS))) := by
    refine CC0.mono ?_
    rintro e w3 ⟨ax, n3, cx, he, H⟩
    obtain ⟨E3, O3, hE3, B3⟩ := H.out
    have box3 : w3.heap[gk]? = some (.cells #[L, V, .slice (some ⟨gR, 0, none⟩) nR cR, S] 39 (0, 0)) := (B3.block gk (heap_lt box2')).trans box2'
    have rS3 : Row w3 25 S (ws.map Prod.fst) := rS2.below B3
    obtain ⟨gS, nS, cS, w4, ap2, box4, box5, rS5, locS, keep5, sz5, bel5⟩ := put_row (j := 3) box3 rS3 (v := .slice ax n3 cx) rfl (by simp; omega)
    have box5' : (w4.setCell ⟨gk, 3, none⟩ (.slice (some ⟨gS, 0, none⟩) nS cS)).heap[gk]? = some (.cells #[L, V, .slice (some ⟨gR, 0, none⟩) nR cR, .slice (some ⟨gS, 0, none⟩) nS cS] 39 (0, 0)) := box5
    refine ⟨ax, n3, cx, gS, nS, cS, w4, he, by rw [cell_of_heap box3]; rfl, ap2, ⟨_, by rw [cell_of_heap box4]; rfl⟩, frozen_of_heap box4 _, ?_⟩
    clear ap2
    generalize w4.setCell ⟨gk, 3, none⟩ (.slice (some ⟨gS, 0, none⟩) nS cS) = w5 at *
    have hs23 := B3.size
    have kAll : ∀ b, b < w.heap.size → b ≠ gk → R.ownBlock ≠ some b → S.ownBlock ≠ some b → w5.heap[b]? = w.heap[b]? := fun b h1 h2 h3 h4 =>
      (keep5 b (by omega) h2 h4).trans ((B3.block b (by omega)).trans (keep2 b h1 h2 h3))
    have kT3 : ∀ (b : Nat) cs t f, w3.heap[b]? = some (.cells cs t f) → (t = 45 ∨ t = 5) → w5.heap[b]? = some (.cells cs t f) := fun b cs t f hc ht => by
      rw [keep5 b (heap_lt hc) (fun e => by
        subst e
        rw [box3] at hc
        simp only [Option.some.injEq, Obj.cells.injEq] at hc
        rcases ht with ht | ht <;> rw [ht] at hc <;> simp at hc) (fun e => by
        obtain ⟨c1, f1, h1⟩ := rS3.obj e
        rw [h1] at hc
        simp only [Option.some.injEq, Obj.cells.injEq] at hc
        rcases ht with ht | ht <;> rw [ht] at hc <;> simp at hc)]
      exact hc
    have kT : ∀ (b : Nat) cs t f, w.heap[b]? = some (.cells cs t f) → (t = 45 ∨ t = 5) → w5.heap[b]? = some (.cells cs t f) := fun b cs t f hc ht =>
      kT3 b cs t f ((B3.block b (by have := heap_lt (kT2 b cs t f hc ht); omega)).trans (kT2 b cs t f hc ht)) ht
    have b5 : Below B w w5 := (hb2.trans (B3.mono (by have := hb2.size; have := h.base; omega))).trans (bel5 B (by have := hb2.size; have := h.base; omega) hBg (fun b hb => Nat.le_trans hBg (h.lS b hb)))
    have offLV : ∀ (x : Value) (t : TypeId) vs, Row w t x vs → t ≠ 25 → ∀ b, x.ownBlock = some b → R.ownBlock ≠ some b ∧ S.ownBlock ≠ some b := fun x t vs hx ht b hb => by
      obtain ⟨c1, f1, h1⟩ := hx.obj hb
      refine ⟨fun e => ?_, fun e => ?_⟩
      · obtain ⟨c2, f2, h2⟩ := h.rR.obj e
        rw [h2] at h1
        simp only [Option.some.injEq, Obj.cells.injEq] at h1
        exact ht h1.2.1.symm
      · obtain ⟨c2, f2, h2⟩ := h.rS.obj e
        rw [h2] at h1
        simp only [Option.some.injEq, Obj.cells.injEq] at h1
        exact ht h1.2.1.symm
    have lgS : gk ≤ gS := by rcases locS with e | e; · exact h.lS gS e
                             · omega
    have hgRlt : gR < w2.heap.size := rR2.lt rfl
    refine ⟨(.slice ax n3 cx, E3), ⟨?_, h.late, Nat.le_trans h.base b5.size, ?_, ?_, ?_, ?_, ?_, ?_, ?_, ?_, ?_, ?_, ?_⟩, fun b hb => kAll b (by omega) (by omega) (fun e => by have := h.lR b e; omega) (fun e => by have := h.lS b e; omega), b5⟩
    · refine h.book.rebox box5' (fun k hk => ?_) (fun p hp b hb => ?_)
      · rcases hk with hk | hk
        · have ho := offLV L _ _ h.book.lists (by decide) k hk
          exact kAll k (h.book.lists.lt hk) (fun e => h.book.bL (e ▸ hk)) ho.1 ho.2
        · have ho := offLV V _ _ h.book.was (by decide) k hk
          exact kAll k (h.book.was.lt hk) (fun e => h.book.bV (e ▸ hk)) ho.1 ho.2
      · obtain ⟨c1, f1, h1⟩ := (h.book.rows p hp).1.obj hb
        rw [h1]
        exact kT b _ _ _ h1 (Or.inr rfl)
    · rw [List.map_append]
      refine (rR2.below B3).keep fun b hb => keep5 b ((rR2.below B3).lt hb) (fun e => ?_) (fun e => ?_)
      · subst e
        obtain ⟨c1, f1, h1⟩ := (rR2.below B3).obj hb
        rw [box3] at h1
        simp at h1
      · have : gR = b := by simpa [Value.ownBlock] using hb
        subst this
        rcases locR with e1 | e1
        · exact h.RS gR e1 e
        · have := h.rS.lt e
          omega
    · rw [List.map_append]
      exact rS5
    · intro b hb
      have : gR = b := by simpa [Value.ownBlock] using hb
      omega
    · intro b hb
      have : gS = b := by simpa [Value.ownBlock] using hb
      omega
    · intro b hb e
      have h1 : gR = b := by simpa [Value.ownBlock] using hb
      have h2 : gS = b := by simpa [Value.ownBlock] using e
      subst h1
      subst h2
      rcases locS with e1 | e1
      · rcases locR with e2 | e2
        · exact h.RS _ e2 e1
        · have := h.rS.lt e1
          omega
      · omega
    · intro p hp
      rcases List.mem_append.1 hp with hp | hp
      · exact (h.rows p hp).keepT kT
      · simp only [List.mem_cons, List.not_mem_nil, or_false] at hp
        subst hp
        exact hv.keepT kT
    · intro p hp b hb
      rcases List.mem_append.1 hp with hp | hp
      · exact h.rlt p hp b hb
      · simp only [List.mem_cons, List.not_mem_nil, or_false] at hp
        subst hp
        exact hlt b (Or.inl hb)
    · intro i j p q b hij hp hq hb
      rcases app_one hp with ⟨_, hp'⟩ | ⟨hi, rfl⟩ <;> rcases app_one hq with ⟨_, hq'⟩ | ⟨hj, rfl⟩
      · exact h.apart i j p q b hij hp' hq' hb
      · exact hap p (List.mem_of_getElem? hp') b hb
      · exact fun e => hap q (List.mem_of_getElem? hq') b e hb
      · omega
    · intro p hp
      rcases List.mem_append.1 hp with hp | hp
      · exact h.fit p hp
      · simp only [List.mem_cons, List.not_mem_nil, or_false] at hp
        subst hp
        exact ⟨hn, fun q hq => ⟨hz q hq, hcd q hq⟩⟩
    · intro i p q hp hq
      rcases app_one hp with ⟨hi, hp'⟩ | ⟨hi, rfl⟩ <;> rcases app_one hq with ⟨hj, hq'⟩ | ⟨hj, rfl⟩
      · exact ⟨(h.cop i p q hp' hq').1.keepT kT, (h.cop i p q hp' hq').2⟩
      · omega
      · omega
      · exact ⟨(O3.le (by omega)).keepT kT3, by rw [hE3, ptOf_abs]⟩
    · simp [h.len]
  -- the walk
  have c2 : w.cell? ⟨gk, 2, none⟩ = some R := by rw [cell_of_heap h.book.box]; rfl
  have u1 : w1.cell? ⟨gk, 2, none⟩ = some R := by rw [cell_of_heap box1]; rfl
  have z1 : w1.frozen? ⟨gk, 2, none⟩ = false := frozen_of_heap box1 _
  have HAP1 := hid ap1
  have HV := hid hv
  have HD := hid hdis
  have HZ := hid hz
  have HCD := hid hcd
  have HLS := hid hls
  obtain ⟨aR, cRo, hRe, _⟩ := h.rR.form
  obtain ⟨aS, cSo, hSe, _⟩ := h.rS.form
  obtain ⟨n, hnE⟩ : ∃ n, n = E.length := ⟨_, rfl⟩
  have HNE := hid hnE
  have hBL : Hid (B ≤ gk ∧ gk < w.heap.size ∧ B ≤ w.heap.size) := hid ⟨hBg, hgk, h.base⟩
  clear ap1 OVv CC0 rS2 hb2 kT2 hv2 lo2 lowR lgR box1 box2 box2' rR2 locR keep2 sz2 bel2 h hv hap hdis hz hcd hlt hls hlsw hBg hgk
  subst hRe hSe
  rw [hve] at HAP1 ⊢
  rw [← hnE] at CC hve hn HAP1 ⊢
  generalize hNR : (rs.map Prod.fst).length = lR at *
  generalize hNS : (ws.map Prod.fst).length = lS at *
  clear hNR hNS hnE hr
  go_enter Try.func12, Try.ntmps12
  go_wp2_with (first
    | (at_builtin; refine wpList_append_run _ rfl _ _ _ _ rfl _ _ rfl rfl HAP1.out ?_; clear HAP1))
  refine CC.mono ?_
  rintro e w3 ⟨ax, n3, cx, gS, nS, cS, w4, rfl, cs3, HAP2, ⟨u4, hu4⟩, z4, HK⟩
  clear CC
  go_wp2_with (first
    | (at_builtin; refine wpList_append_run _ rfl _ _ _ _ rfl _ _ rfl rfl HAP2.out ?_; clear HAP2))
  generalize w4.setCell ⟨gk, 3, none⟩ (.slice (some ⟨gS, 0, none⟩) nS cS) = w5 at *
  clear cs3 hu4 z4 HW2 c2 u1 z1 hw2
  go_loopw [5] (fun i wr => ∃ (k : Nat) (L' V' : Value), k ≤ n ∧ i = .int .i64 k ∧ Hid (T15 w5 wr B gk (.slice (some ⟨gR, 0, none⟩) nR cR) (.slice (some ⟨gS, 0, none⟩) nS cS) ls E k L' V')) (fun i _ => n - (intOf i).toNat)
  case atStart =>
    obtain ⟨q, hq⟩ := HK.out
    exact ⟨0, L, V, Nat.zero_le _, rfl, T15.start E hq.1⟩
  case round =>
    obtain ⟨k, L1, V1, hk, rfl, HT⟩ := hrel
    by_cases hlt : k < n
    · have hlt' : (k : Int) < n := by omega
      obtain ⟨⟨⟨cd, zs⟩, d⟩, ho⟩ : ∃ o, E[k]? = some o := ⟨E[k]'(by rw [← HNE.out]; exact hlt), List.getElem?_eq_getElem _⟩
      have hm := List.mem_of_getElem? ho
      have hOw : OwnO B wr v E := by
        obtain ⟨q, hq, _⟩ := HK.out
        exact (hq.rows (v, E) (by simp)).keepT fun k cs t f hc h2 => HT.out.keepT k cs t f hc (by rcases h2 with e | e <;> simp [e])
      have hd := hOw.data _ hm
      obtain ⟨ad, cp, hde, _⟩ := hd.form
      rw [u8s_len] at hde
      simp only at hde hd
      subst hde
      rw [hve] at hOw
      have hOV := (hOw.view (fun q hq => by have := HZ.out q hq; omega) (by have := HNE.out; omega) HCD.out).1
      obtain ⟨b, off, ea, e0, e1⟩ := hOV.cell k (ptOf ((cd, zs), .slice ad zs.length cp)) (by rw [List.getElem?_map, ho]; rfl)
      simp only [ptOf, Part.val] at e0 e1
      subst ea
      have hB5 : B ≤ wr.heap.size ∧ gk ≤ wr.heap.size := by
        have h1 := heap_lt HT.out.book.box
        have h2 := hBL.out.1
        omega
      have CT : Calls Try.prog 26 #[.pointer (some ⟨gk, 0, none⟩), .slice ad zs.length cp] wr.drew fun e w' => e = .returned (.tuple #[]) ∧ Hid (∃ L2 V2, T15 w5 w' B gk (.slice (some ⟨gR, 0, none⟩) nR cR) (.slice (some ⟨gS, 0, none⟩) nS cS) ls E (k + 1) L2 V2) := by
        have hT := HT.out
        have hTd : T15 w5 wr.drew B gk (.slice (some ⟨gR, 0, none⟩) nR cR) (.slice (some ⟨gS, 0, none⟩) nS cS) ls E k L1 V1 := ⟨hT.book.rebox hT.book.box (fun _ _ => rfl) (fun _ _ _ _ => rfl), hT.late, hT.keepT, hT.low, hT.below.trans (Below.refl _ _).drew⟩
        refine (B15.take_any gk L1 V1 (.slice ad zs.length cp) (ls ++ (dat E).take k) zs B wr.drew hTd.book hB5.1 (hd.below (Below.refl _ _).drew) (hOw.oks _ hm) (by have := HZ.out _ hm; simp only at this; omega) (by have := HLS.out; have := HNE.out; simp [dat]; omega) (fun b hb => ⟨hOw.dlow _ hm b hb, ?_, ?_⟩)).mono ?_
        · obtain ⟨c1, f1, h1⟩ := hd.obj hb
          exact hT.book.offT h1 (Or.inr (Or.inl rfl))
        · intro p hp e
          rcases List.mem_append.1 hp with hp | hp
          · exact HD.out _ hm b hb p hp e
          · obtain ⟨j, hj⟩ := List.getElem?_of_mem hp
            rw [List.getElem?_take] at hj
            split at hj
            · rename_i hjk
              simp only [dat, List.getElem?_map] at hj
              cases hEj : E[j]? with
              | none => rw [hEj] at hj; simp at hj
              | some r =>
                rw [hEj] at hj
                simp only [Option.map_some, Option.some.injEq] at hj
                subst hj
                exact hOw.apart j k r _ b (by omega) hEj ho e hb
            · simp at hj
        · rintro e w' ⟨h1, L2, V2, g1, g2, g3, g4⟩
          exact ⟨h1, L2, V2, hTd.step ho hB5.1 hB5.2 g1 g2 g3 g4⟩
      clear hd hOw hOV ho hm hB5
      go_wp2
      go_region_with (first
        | (go_at_call 26; refine CT.mono ?_; rintro e w6 ⟨rfl, HT2⟩))
      go_wp2
      go_roundw
      case rel =>
        obtain ⟨L2, V2, h2⟩ := HT2.out
        exact ⟨k + 1, L2, V2, by omega, by go_num, h2⟩
      case measure => simp [intOf]; omega
    · have hge : ¬ (k : Int) < n := by omega
      have hkn : k = n := by omega
      go_wp2
      obtain ⟨q, hq, hlow, hbel⟩ := HK.out
      have hT := HT.out
      rw [hkn, HNE.out] at hT
      exact bodyPost_end (v := .tuple #[]) (by simp [results, Try.results12, go_sem]) rfl ⟨rfl, ⟨L1, V1, _, _, q.1, q.2, by rw [hve] at hq; exact hq.taken hT⟩, fun b hb => (hT.low b hb).trans (hlow b hb), hbel.trans hT.below⟩
end Go.Proofs.Ytmdkanbfpmdimaa
