/-
  The statements' book: Owned. For every seat.
-/
import Derived.Test.YtdcppiknomoigaaDoorBBookP
import Derived.Deep.DeepCutAuto
namespace Go.Proofs.YtdcppiknomoigaaDoor
open Go.RowKit
set_option linter.all false

theorem BookI.at {w : World} {B gk : Nat} {L V : Value} {ls : List (Value × List Int)} (h : BookI w B gk L V ls) {k : Nat} {p : Value × List Int} (hk : ls[k]? = some p) :
    ∃ gL cL gV cV, L = .slice (some ⟨gL, 0, none⟩) ls.length cL ∧ V = .slice (some ⟨gV, 0, none⟩) ls.length cV ∧ w.cell? ⟨gL, k, none⟩ = some p.1 ∧ w.cell? ⟨gV, k, none⟩ = some (.string (strOfNums p.2)) := by
  obtain ⟨hlt, hp⟩ := List.getElem?_eq_some_iff.1 hk
  obtain ⟨gL, cL, e1, c1⟩ := h.lists.cell k (by simpa using hlt)
  obtain ⟨gV, cV, e2, c2⟩ := h.was.cell k (by simpa using hlt)
  simp only [List.length_map, List.getElem_map] at e1 c1 e2 c2
  rw [hp] at c1 c2
  exact ⟨gL, cL, gV, cV, e1, e2, c1, c2⟩
theorem BookI.conv {w : World} {B gk : Nat} {L V : Value} {ls : List (Value × List Int)} (h : BookI w B gk L V ls) {p : Value × List Int} (hp : p ∈ ls) (m : Nat) : (convert 24 9 p.1).run Tryd.prog (w.drewN m) = .ok (.string (strOfNums p.2)) (w.drewN m) := by
  obtain ⟨pt, e1, e2, ok⟩ := (h.rows p hp).1.part (h.rows p hp).2.1
  rw [e1, ← e2]
  exact conv_part pt _ (Part.ok_drewN ok m)
theorem BookI.heap_eq {w wr : World} {B gk : Nat} {L V : Value} {ls : List (Value × List Int)} (h : BookI w B gk L V ls) (hh : wr.heap = w.heap) : BookI wr B gk L V ls := h.keep (fun k _ => by rw [hh]) (fun p _ b _ => by rw [hh])
theorem str_same (s : ByteArray) : (s != s) = false := by
  have : (s == s) = true := by
    cases s with | mk d => show (d == d) = true; simp
  show (!(s == s)) = false
  rw [this]; rfl

set_option maxRecDepth 20000 in
set_option maxHeartbeats 2000000 in
theorem owned_any (gk : Nat) (L V : Value) (ls : List (Value × List Int)) (B : Nat) (w : World) (h : BookI w B gk L V ls) (hB : B ≤ w.heap.size) :
    Calls Tryd.prog 16 #[.pointer (some ⟨gk, 0, none⟩)] w fun e w' => e = .returned (.bool true) ∧ Below B w w' ∧ (∀ b, b < w.heap.size → ¬ InBook gk L V b → (∀ p, p ∈ ls → p.1.ownBlock ≠ some b) → w'.heap[b]? = w.heap[b]?) := by
  obtain ⟨N, hN⟩ : ∃ N, ls.length = N := ⟨_, rfl⟩
  have HN := hid hN
  have hNb : N ≤ 4398046511104 := by rw [← hN]; exact h.few
  obtain ⟨aL, cL, hLe, hjunk⟩ := h.lists.form
  rw [List.length_map, hN] at hLe
  have HBK := hid h
  have HBB := hid hB
  have HC : Hid (∀ wr : World, wr.heap[gk]? = w.heap[gk]? → ∀ q, wr.cell? ⟨gk, q, none⟩ = (#[L, V] : Array Value)[q]?) := fun wr hw q => cell_of_heap (hw.trans h.box) q
  clear hN hB h hjunk
  subst hLe
  go_enter Tryd.func16, Tryd.ntmps16
  go_wp2
  go_loopw [3] (fun i wr => ∃ k : Nat, k ≤ N ∧ i = .int .i64 k ∧ wr.heap = w.heap ∧ Below B w wr) (fun i _ => N - (intOf i).toNat)
  case atStart => exact ⟨0, Nat.zero_le _, rfl, rfl, Below.refl _ _⟩
  case round =>
    obtain ⟨k, hk, rfl, hh, hb⟩ := hrel
    have HH := hid hh
    have HB := hid hb
    have hc := HC.out wr (by rw [hh])
    clear hh hb
    by_cases hlt : k < N
    · obtain ⟨p, hp⟩ : ∃ p, ls[k]? = some p := ⟨ls[k]'(by rw [HN.out]; exact hlt), List.getElem?_eq_getElem _⟩
      have hbr := HBK.out.heap_eq HH.out
      obtain ⟨gL, cL', gV, cV', eL, eV, c1, c2⟩ := hbr.at hp
      have hcv := hbr.conv (List.mem_of_getElem? hp)
      obtain ⟨a, c, e3, _⟩ := (hbr.rows p (List.mem_of_getElem? hp)).1.form
      rw [u8s_len] at e3
      rw [HN.out] at eL eV
      simp only [Value.slice.injEq] at eL
      obtain ⟨rfl, _, rfl⟩ := eL
      subst eV
      rw [e3] at c1 hcv
      have hs := str_same (strOfNums p.2)
      generalize strOfNums p.2 = S at *
      generalize p.2.length = l at *
      clear e3 hp hbr
      go_wp2
      go_quiet (fail)
      go_wp2
      go_roundw
      case rel => exact ⟨k + 1, by omega, by go_num, HH.out, ⟨HB.out.os, HB.out.tape, HB.out.output, HB.out.size, HB.out.block⟩⟩
      case measure => simp [intOf]; omega
    · go_wp2
      clear hc
      go_loopw [4, 5] (fun gs i wx => ∃ k : Nat, ∃ gvs : List Value, k ≤ N ∧ i = .int .i64 k ∧ OwnedI w wx B gk (.slice aL N cL) V ls k gs gvs) (fun _ i _ => N - (intOf i).toNat)
      case atStart => exact ⟨0, [], Nat.zero_le _, rfl, OwnedI.start HH.out HB.out⟩
      case round =>
        obtain ⟨j, gvs, hj, rfl, ho⟩ := hrel
        obtain ⟨W0, rfl⟩ : ∃ W0, W0 = wr := ⟨_, rfl⟩
        have HO := hid ho
        obtain ⟨ag0, cg0, eg0, hjk0⟩ := ho.row.form
        rw [ho.len] at eg0
        have hc := HC.out W0 (ho.book gk (Or.inl rfl))
        clear ho hjk0
        subst eg0
        by_cases hlj : j < N
        · obtain ⟨p, hp⟩ : ∃ p, ls[j]? = some p := ⟨ls[j]'(by rw [HN.out]; exact hlj), List.getElem?_eq_getElem _⟩
          obtain ⟨gL, cL', gV, cV', eL, eV, c1, c2⟩ := HBK.out.at hp
          have hrows := HBK.out.rows p (List.mem_of_getElem? hp)
          have r0 : Row W0 5 p.1 (u8s p.2) := hrows.1.keep fun b hb => HO.out.later j p b (Nat.le_refl _) hp hb
          obtain ⟨a, c, e3, hjk⟩ := r0.form
          rw [u8s_len] at e3
          rw [HN.out] at eL
          simp only [Value.slice.injEq] at eL
          obtain ⟨rfl, _, rfl⟩ := eL
          have c1' : W0.cell? ⟨gL, j, none⟩ = some (.slice a p.2.length c) := by
            rw [World.cell?_of_block (w := w) (a := ⟨gL, j, none⟩) (HO.out.book gL (Or.inr (Or.inl rfl))), c1, e3]
          have hpl := hrows.2.2
          obtain ⟨ps, hps⟩ : ∃ ps, ps = p.2 := ⟨_, rfl⟩
          obtain ⟨pv, hpv⟩ : ∃ pv, pv = p.1 := ⟨_, rfl⟩
          rw [← hps] at hpl c1' e3 r0
          rw [← hpv] at e3 r0
          subst e3
          have HP : Hid (ls[j]? = some (.slice a ps.length c, ps)) := by unfold Hid; rw [hp, hpv, hps]
          have HR0 := hid r0
          have HLT : Hid (∀ b, (Value.slice a ps.length c).ownBlock = some b → b < w.heap.size) := fun b hb => hrows.1.lt (by rw [← hpv]; exact hb)
          have hhd := r0.head.2
          have HHD : Hid (a = none ∨ ∃ b, a = some ⟨b, 0, none⟩ ∧ b < W0.heap.size) := hhd
          clear hhd hp hps hpv hrows c1 c2 eV r0 hjk
          obtain ⟨l, hll⟩ : ∃ l, ps.length = l := ⟨_, rfl⟩
          have HLL := hid hll
          rw [hll] at c1' hpl HR0 HP HLT
          clear hll
          go_wp2
          clear hc c1'
          go_loopw [7] (fun i wx => ∃ m : Nat, m ≤ l ∧ i = .int .i64 m ∧ W0.grownBy wx (Value.slice a l c).ownBlock ∧ Row wx 5 (.slice a l c) (u8s (marks j m ++ ps.drop m))) (fun i _ => l - (intOf i).toNat)
          case atStart => exact ⟨0, Nat.zero_le _, rfl, grown_refl _ _, by simpa [marks] using HR0.out⟩
          case round =>
            obtain ⟨m, hm, rfl, hgr, hrow⟩ := hrel
            have HGR := hid hgr
            have HROW := hid hrow
            clear hgr hrow
            by_cases hml : m < l
            · obtain ⟨g, hag, ⟨u, hu⟩, hfz, hset⟩ := HROW.out.set m (by rw [u8s_len, List.length_append, marks_len, List.length_drop, HLL.out]; omega) (.int .u8 (markV j m))
              rw [u8s_set, set_drop _ _ _ _ (marks_len j m).symm (by rw [HLL.out]; exact hml), ← marks_succ] at hset
              have HSET := hid hset
              have HAG := hid hag
              clear hset
              subst hag
              go_wp2_with (first | (go_at_call 38; refine (mark_any _ _ _ (by omega) (by omega)).mono ?_; rintro e w' ⟨rfl, rfl⟩))
              go_roundw
              case rel => exact ⟨m + 1, by omega, by go_num, grown_trans HGR.out (grown_setCell _ _ _ _) (Or.inl rfl), HSET.out⟩
              case measure => simp [intOf]; omega
            · have hme : m = l := by omega
              subst hme
              have HR1 : Hid (Row wr 5 (.slice a m c) (u8s (marks j m))) := by
                have := HROW.out
                rw [List.drop_eq_nil_of_le (by rw [HLL.out]; exact Nat.le_refl _), List.append_nil] at this
                exact this
              go_wp2
              obtain ⟨W1, rfl⟩ : ∃ W1, W1 = wr := ⟨_, rfl⟩
              clear HROW
              go_loopw [8, 9, 10] (fun g i mm wx => ∃ (q : Nat), q ≤ 9 ∧ i = .int .i64 q ∧ W0.grownBy wx (Value.slice a m c).ownBlock ∧ Row wx 5 g (u8s (marks j (m + q))) ∧ Reads wx (.slice a m c) (marks j m) ∧ (g.ownBlock = (Value.slice a m c).ownBlock ∨ ∃ b, g.ownBlock = some b ∧ W0.heap.size ≤ b)) (fun _ i _ _ => 9 - (intOf i).toNat)
              case atStart => exact ⟨0, by omega, rfl, HGR.out, HR1.out, Reads.of_row HR1.out |> (fun h => by exact h), Or.inl rfl⟩
              case round =>
                obtain ⟨q, hq, rfl, hgr, hrow, hrd, hgb⟩ := hrel
                have HGR2 := hid hgr
                have HROW2 := hid hrow
                have HRD2 := hid hrd
                have HGB2 := hid hgb
                obtain ⟨ag, cg, eg, hjk⟩ := hrow.form
                rw [u8s_len, marks_len] at eg
                clear hgr hrow hrd hgb hjk
                subst eg
                by_cases hq9 : q < 9
                · obtain ⟨gg, nn, cc, w', hrun, f1, f2, f3, f4⟩ := grow_step HROW2.out HRD2.out HGB2.out HGR2.out HHD.out hpl (by omega)
                  have HRUN := hid hrun
                  have HF1 := hid f1
                  have HF2 := hid f2
                  have HF3 := hid f3
                  have HF4 := hid f4
                  clear hrun f1 f2 f3 f4
                  go_wp2_with (first
                    | (go_at_call 38; rw [show ((m : Int) + (q : Int)) = ((m + q : Nat) : Int) by omega]; refine (mark_any _ _ _ (by omega) (by omega)).mono ?_; rintro e w' ⟨rfl, rfl⟩)
                    | (at_builtin; refine wpList_append_run _ rfl (.tmp 79) (.tmp 81) 24 24 rfl _ _ rfl rfl HRUN.out ?_))
                  go_roundw
                  case rel => exact ⟨q + 1, by omega, by go_num, HF1.out, HF2.out, HF3.out, HF4.out⟩
                  case measure => simp [intOf]; omega
                · have hq9e : q = 9 := by omega
                  subst hq9e
                  have rgs := (HO.out.row.grown HGR2.out (fun b hb e => by have a1 := HLT.out b e; have a2 := HO.out.fresh b hb; omega)).below (w' := wr.alloc (.cells #[.slice ag (m + 9) cg] 24)) ((Below.refl _ _).alloc (Nat.le_refl _) _)
                  obtain ⟨gv', w3, hrun, rv, hgr3, hcase⟩ := append_one 35 35 24 _ 24 Tryd.underlying35 infoSl rfl rgs (.slice ag (m + 9) cg) rfl wr.heap.size _ (heap_new _ _) (by rw [HO.out.len]; unfold maxLen; omega) (by rw [HO.out.len]; omega)
                  have hmv : Moved wr.heap.size _ gv' := Moved.of hcase (by simp)
                  have HST := hid (OwnedI.step HBB.out HBK.out HO.out HP.out HGR2.out (by rw [HLL.out]; exact HROW2.out) (by rw [HLL.out]; exact HRD2.out) HGB2.out (grown_trans (grown_alloc wr _ _) hgr3 (Or.inl rfl)) rv hmv)
                  have HRUN := hid hrun
                  obtain ⟨g5, n5, c5, e5, _⟩ := hmv
                  subst e5
                  clear rgs hrun rv hgr3 hcase
                  go_wp2_with (first
                    | (at_builtin; refine wpList_append_run _ rfl (.tmp 83) (.tmp 85) 35 35 rfl _ _ rfl rfl HRUN.out ?_))
                  go_roundw
                  case rel => exact ⟨j + 1, _, by omega, by go_num, HST.out⟩
                  case measure => simp [intOf]; omega
        · have hje : j = N := by omega
          subst hje
          go_wp2
          go_loop [11] (fun i => ∃ q : Nat, q ≤ j ∧ i = .int .i64 q) (fun i => j - (intOf i).toNat)
          case atStart => exact ⟨0, Nat.zero_le _, rfl⟩
          case round =>
            obtain ⟨q, hq, rfl⟩ := hrel
            by_cases hqj : q < j
            · obtain ⟨p, hp⟩ : ∃ p, ls[q]? = some p := ⟨ls[q]'(by rw [HN.out]; exact hqj), List.getElem?_eq_getElem _⟩
              obtain ⟨gL, cL', gV, cV', eL, eV, c1, c2⟩ := HBK.out.at hp
              rw [HN.out] at eL
              simp only [Value.slice.injEq] at eL
              obtain ⟨rfl, _, rfl⟩ := eL
              have hrows := HBK.out.rows p (List.mem_of_getElem? hp)
              obtain ⟨a, c, e3, hjk⟩ := hrows.1.form
              rw [u8s_len] at e3
              have hpl := hrows.2.2
              obtain ⟨g, hg, rg, rd, _⟩ := HO.out.done q p hqj hp
              rw [e3] at c1 rd
              obtain ⟨l, hll⟩ : ∃ l, p.2.length = l := ⟨_, rfl⟩
              rw [hll] at c1 rg rd hpl
              have c1' : W0.cell? ⟨gL, q, none⟩ = some (.slice a l c) := by
                rw [World.cell?_of_block (w := w) (a := ⟨gL, q, none⟩) (HO.out.book gL (Or.inr (Or.inl rfl))), c1]
              obtain ⟨gG, cG, e4, c4⟩ := HO.out.row.cell q (by rw [HO.out.len]; exact hqj)
              rw [HO.out.len] at e4
              simp only [Value.slice.injEq] at e4
              obtain ⟨rfl, _, rfl⟩ := e4
              have e5 : gvs[q]'(by rw [HO.out.len]; exact hqj) = g := by
                have := List.getElem?_eq_getElem (l := gvs) (i := q) (by rw [HO.out.len]; exact hqj)
                rw [hg] at this
                simpa using this.symm
              rw [e5] at c4
              obtain ⟨ag, cg, e6, hjk2⟩ := rg.form
              rw [u8s_len, marks_len] at e6
              subst e6
              have HRG := hid rg
              have HRD := hid rd
              clear e5 hg rg rd c1 c2 eV e3 hll hrows hp hjk hjk2
              go_wp2
              go_loop [13, 14] (fun i _ => ∃ r : Nat, r ≤ l + 9 ∧ i = .int .i64 r) (fun i _ => l + 9 - (intOf i).toNat)
              case atStart => exact ⟨0, Nat.zero_le _, rfl⟩
              case round =>
                obtain ⟨r, hr, rfl⟩ := hrel
                by_cases hrl : r < l + 9
                · obtain ⟨g6, c6, e7, c7⟩ := HRG.out.cell r (by rw [u8s_len, marks_len]; exact hrl)
                  rw [u8s_len, marks_len] at e7
                  simp only [Value.slice.injEq] at e7
                  obtain ⟨rfl, _, rfl⟩ := e7
                  have c7' : W0.cell? ⟨g6, r, none⟩ = some (.int .u8 (markV q r)) := by
                    rw [c7]
                    simp [u8s, marks]
                  have hne : (markV q r != markV q r) = false := by simp
                  have hrl' : (r : Int) < (l : Int) + 9 := by omega
                  clear c7
                  by_cases hr2 : r < l
                  · obtain ⟨b8, c8, e8, c9⟩ := HRD.out r (by rw [marks_len]; exact hr2)
                    rw [marks_len] at e8
                    simp only [Value.slice.injEq] at e8
                    obtain ⟨rfl, _, rfl⟩ := e8
                    have c9' : W0.cell? ⟨b8, r, none⟩ = some (.int .u8 (markV q r)) := by
                      rw [c9, List.getD_eq_getElem?_getD, marks_at q l r hr2]; rfl
                    have hr2' : (r : Int) < (l : Int) := by omega
                    clear c9
                    generalize hmk : markV q r = MK at *
                    have HMK := hid hmk
                    clear hmk
                    go_wp2_with (first
                      | (go_at_call 38; refine (mark_any _ _ _ (by omega) (by omega)).mono ?_; rintro e w' ⟨rfl, rfl⟩; rw [HMK.out]))
                    go_round
                    case rel => exact ⟨r + 1, by omega, by go_num⟩
                    case measure => simp [intOf]; omega
                  · have hr2' : decide ((r : Int) < (l : Int)) = false := by simp; omega
                    generalize hmk : markV q r = MK at *
                    have HMK := hid hmk
                    clear hmk
                    go_wp2_with (first
                      | (go_at_call 38; refine (mark_any _ _ _ (by omega) (by omega)).mono ?_; rintro e w' ⟨rfl, rfl⟩; rw [HMK.out]))
                    go_round
                    case rel => exact ⟨r + 1, by omega, by go_num⟩
                    case measure => simp [intOf]; omega
                · go_wp2
                  go_round
                  case rel => exact ⟨q + 1, by omega, by go_num⟩
                  case measure => simp [intOf]; omega
            · go_wp2
              go_ret
              exact ⟨rfl, HO.out.below, fun b h1 h2 h3 => HO.out.rest b h1 h2 (fun p hp => h3 p.1 p.2 hp)⟩
end Go.Proofs.YtdcppiknomoigaaDoor
