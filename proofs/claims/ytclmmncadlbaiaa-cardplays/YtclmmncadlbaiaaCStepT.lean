/-
  A step of a pair: Tx.
-/
import Derived.Test.YtclmmncadlbaiaaCStepX
import Derived.Deep.RegionHeld3
namespace Go.Proofs.Ytclmmncadlbaiaa
open Go.RowKit
set_option linter.all false

set_option maxRecDepth 20000 in
set_option maxHeartbeats 4000000 in
theorem step_tx (B : Nat) (P : Pn) (gk : Nat) (D : Nat → Prop) (S : CS) (L V : Value) (ls : List (Value × List Int)) (n : Nat) (i : Int) (a : Option Addr) (l c : Nat) (zs : List Int) (w : World) (h0 : PBI w B P D gk S S L V ls) (hs : S.small n) (hn : n < 4611686018427387904) (hf : ls.length < 4398046511104) (hz : Low B w a c zs) (hl : l = zs.length) (hm : l ≤ 140737488351232) :
    Calls Try.prog 12 #[.pointer (some ⟨P.gp, 0, none⟩), opV 4 i a l c] w (StepE B P gk w D L V ls n) := by
  obtain ⟨b, ys, nn, hC, hR⟩ := show_two S.T i
  have hpo : ∀ (j : Nat) (p : Pl), S.T[j]? = some p → p.ok := fun j p hp => plOk h0.pair.card.tx hp
  have H0 := hid h0
  have HC := hid hC
  have HRF := hid hR
  have HPO := hid hpo
  have HS := hid hs
  have hgl : P.gp < w.heap.size := heap_lt h0.pair.box
  have hp0 : w.cell? ⟨P.gp, 0, none⟩ = some (.pointer (some ⟨P.c, 0, none⟩)) := cellHeap h0.pair.box 0 rfl
  clear h0 hz hC hR hl hs hm hpo
  unfold opV
  have HW : Hid (∀ wz, Below (w.alloc (.cells #[.int .i64 4, .int .i64 i, .slice a l c] 45)).heap.size (w.alloc (.cells #[.int .i64 4, .int .i64 i, .slice a l c] 45)) wz → Run B P gk w D L V ls wz D S S L V ls) := fun wz hb => ((Run.start H0.out).below (balloc w _)).below hb
  have HC0 : Hid (∀ wz, Below (w.alloc (.cells #[.int .i64 4, .int .i64 i, .slice a l c] 45)).heap.size (w.alloc (.cells #[.int .i64 4, .int .i64 i, .slice a l c] 45)) wz → wz.cell? ⟨P.gp, 0, none⟩ = some (.pointer (some ⟨P.c, 0, none⟩)) ∧ wz.cell? ⟨w.heap.size, 1, none⟩ = some (.int .i64 i)) := fun wz hb => ⟨cellHeap (HW.out wz hb).now.pair.box 0 rfl, cell_below hb (cellHeap (heap_new w _) 1 rfl)⟩
  go_enter Try.func12, Try.ntmps12
  go_upto_region 20 with fail
  go_cut [17, 18] (fun s1 s2 wx => ∃ (g3 : Nat) (a1 : Option Addr) (l1 c1 : Nat), s1 = .pointer (some ⟨g3, 0, none⟩) ∧ s2 = .int .i64 nn ∧ Hid (ShowC B P gk w D L V ls S wx (.cells #[.int .i64 4, .int .i64 i, .slice a l c] 45) g3 b a1 l1 c1 ys))
  case first =>
    go_region_held3 (fun x => x.cell? ⟨P.gp, 0, none⟩ = some (.pointer (some ⟨P.c, 0, none⟩)) ∧ x.cell? ⟨w.heap.size, 1, none⟩ = some (.int .i64 i)) (first | exact HC0.out _ (Below.refl _ _).drew | exact HC0.out _ (balloc _ _).drew | exact HS3.out | exact ⟨cell_below (balloc _ _) HS3.out.1, cell_below (balloc _ _) HS3.out.2⟩ | exact HS5.out _ _ | go_keep) (first
      | (go_at_call 30
         refine (tx_any P.c P.g P.h S i _ ?_).mono ?_
         · first
           | exact (HW.out _ (Below.refl _ _).drew).now.pair.card
           | exact (HW.out _ (balloc _ _).drew).now.pair.card
         intro e w3 hsh
         obtain ⟨a1, l1, c1, rfl, hnr⟩ := HC.out _ _ _ HPO.out hsh
         have HNR := hid hnr
         have HS3 : Hid (w3.cell? ⟨P.gp, 0, none⟩ = some (.pointer (some ⟨P.c, 0, none⟩)) ∧ w3.cell? ⟨w.heap.size, 1, none⟩ = some (.int .i64 i)) := (by first | exact HC0.out _ (bstep (Below.refl _ _).drew (show_kept hnr)) | exact HC0.out _ (bstep (balloc _ _).drew (show_kept hnr)))
         have HS5 : Hid (∀ x y, ((w3.setCell ⟨w.heap.size + 1, 0, none⟩ x).setCell ⟨w.heap.size + 1, 1, none⟩ y).cell? ⟨P.gp, 0, none⟩ = some (.pointer (some ⟨P.c, 0, none⟩)) ∧ ((w3.setCell ⟨w.heap.size + 1, 0, none⟩ x).setCell ⟨w.heap.size + 1, 1, none⟩ y).cell? ⟨w.heap.size, 1, none⟩ = some (.int .i64 i)) := (fun x y => by
           have e : ∀ k o, k ≠ w.heap.size + 1 → ((w3.setCell ⟨w.heap.size + 1, 0, none⟩ x).setCell ⟨w.heap.size + 1, 1, none⟩ y).cell? ⟨k, o, none⟩ = w3.cell? ⟨k, o, none⟩ := fun k o hk => World.cell?_of_block (by rw [Below.heap_setCell _ _ _ _ (by simpa using hk), Below.heap_setCell _ _ _ _ (by simpa using hk)])
           exact ⟨(e _ _ (by omega)).trans HS3.out.1, (e _ _ (by omega)).trans HS3.out.2⟩)
         clear hsh
         first
         | (have hst := box_kept2 (show_kept hnr) (by rfl) (heap2 w _ _).2; clear hnr)
         | clear hnr))
    all_goals (go_wp2_with fail; go_meet)
    all_goals first
      | exact ⟨_, a1, l1, c1, rfl, rfl, ShowC.after H0.out HNR.out⟩
      | exact ⟨_, a1, l1, c1, rfl, rfl, ShowC.ahead H0.out HNR.out⟩
  case rest =>
    obtain ⟨g3, a1, l1, c1, rfl, rfl, HSC⟩ := hcut
    have HC1 : Hid (∀ wz, Below wc.heap.size wc wz → wz.cell? ⟨P.gp, 1, none⟩ = some (.pointer (some ⟨P.x, 0, none⟩)) ∧ wz.cell? ⟨w.heap.size, 1, none⟩ = some (.int .i64 i)) := fun wz hb => ⟨cellHeap (HSC.out.run.below hb).now.pair.box 1 rfl, cell_below hb (cellHeap HSC.out.op 1 rfl)⟩
    have hgl2 : P.gp < wc.heap.size := heap_lt HSC.out.run.now.pair.box
    have hol2 : w.heap.size < wc.heap.size := heap_lt HSC.out.op
    clear HC HC0 HW
    go_upto_region 21 with fail
    go_cut [19, 20] (fun s1 s2 wx => ∃ (g4 : Nat) (a2 : Option Addr) (c2 : Nat), s1 = .pointer (some ⟨g4, 0, none⟩) ∧ s2 = .int .i64 nn ∧ Hid (ShowD B P gk w D L V ls S wx g3 g4 b a1 l1 c1 a2 c2 ys))
    case first =>
      go_region_held3 (fun x => x.cell? ⟨P.gp, 1, none⟩ = some (.pointer (some ⟨P.x, 0, none⟩)) ∧ x.cell? ⟨w.heap.size, 1, none⟩ = some (.int .i64 i)) (first | exact HC1.out _ (Below.refl _ _).drew | exact HC1.out _ (balloc _ _).drew | exact HS3.out | exact ⟨cell_below (balloc _ _) HS3.out.1, cell_below (balloc _ _) HS3.out.2⟩ | exact HS5.out _ _ | go_keep) (first
        | (go_at_call 31
           refine (refTx_any D P.x P.rg P.cr P.rh P.ct S i _ ?_).mono ?_
           · first
             | exact (HSC.out.run.below (Below.refl _ _).drew).now.pair.ref
             | exact (HSC.out.run.below (balloc _ _).drew).now.pair.ref
           intro e w4 hsh
           obtain ⟨a2, l2, c2, rfl, hl2, hown2, hok2, hb4⟩ := HRF.out _ _ _ hsh
           have hl21 : l2 = l1 := hl2.trans HSC.out.hl.symm
           clear hl2
           subst hl21
           have HOK2 := hid hok2
           have HOW2 := hid hown2
           have HB4 := hid hb4
           have HS3 : Hid (w4.cell? ⟨P.gp, 1, none⟩ = some (.pointer (some ⟨P.x, 0, none⟩)) ∧ w4.cell? ⟨w.heap.size, 1, none⟩ = some (.int .i64 i)) := (by first | exact HC1.out _ (bstep (Below.refl _ _).drew hb4) | exact HC1.out _ (bstep (balloc _ _).drew hb4))
           have HS5 : Hid (∀ x y, ((w4.setCell ⟨wc.heap.size, 0, none⟩ x).setCell ⟨wc.heap.size, 1, none⟩ y).cell? ⟨P.gp, 1, none⟩ = some (.pointer (some ⟨P.x, 0, none⟩)) ∧ ((w4.setCell ⟨wc.heap.size, 0, none⟩ x).setCell ⟨wc.heap.size, 1, none⟩ y).cell? ⟨w.heap.size, 1, none⟩ = some (.int .i64 i)) := (fun x y => by
             have e : ∀ k o, k ≠ wc.heap.size → ((w4.setCell ⟨wc.heap.size, 0, none⟩ x).setCell ⟨wc.heap.size, 1, none⟩ y).cell? ⟨k, o, none⟩ = w4.cell? ⟨k, o, none⟩ := fun k o hk => World.cell?_of_block (by rw [Below.heap_setCell _ _ _ _ (by simpa using hk), Below.heap_setCell _ _ _ _ (by simpa using hk)])
             exact ⟨(e _ _ (by omega)).trans HS3.out.1, (e _ _ (by omega)).trans HS3.out.2⟩)
           clear hsh hok2 hown2
           first
           | (have hst := box_kept2 hb4 (by rfl) (heap_new wc _); clear hb4)
           | clear hb4))
      all_goals (go_wp2_with fail; go_meet)
      all_goals first
        | exact ⟨_, a2, c2, rfl, rfl, ShowD.after HSC.out HB4.out HOK2.out⟩
        | exact ⟨_, a2, c2, rfl, rfl, ShowD.ahead H0.out HSC.out HB4.out HOK2.out HOW2.out⟩
    case rest =>
      obtain ⟨g4, a2, c2, rfl, rfl, HSD⟩ := hcut
      have z0 : wc.cell? ⟨g3, 0, none⟩ = some (.bool b) := cellHeap HSD.out.box 0 rfl
      have z1 : wc.cell? ⟨g3, 1, none⟩ = some (.slice a1 l1 c1) := cellHeap HSD.out.box 1 rfl
      have z2 : wc.cell? ⟨g4, 0, none⟩ = some (.bool b) := cellHeap HSD.out.box2 0 rfl
      have z3 : wc.cell? ⟨g4, 1, none⟩ = some (.slice a2 l1 c2) := cellHeap HSD.out.box2 1 rfl
      clear HSC HC1 hgl2 hol2 HRF
      go_wp2_with (first
        | (go_at_call 29; refine (desc_any HSD.out.run H0.out.top b nn a1 l1 c1 a2 c2 ys HSD.out.row HSD.out.hl HSD.out.hz HSD.out.h15 HSD.out.ok2 (by intro k hk; have h9 := HSD.out.own k hk; exact ⟨by omega, fun hk => absurd (H0.out.pair.lt k hk) (by omega), fun hi => absurd (H0.out.book.lt k hi) (by omega), fun p hp e => absurd (H0.out.book.ltl p hp k e) (by omega)⟩) hf).mono ?_; rintro e w5 ⟨rfl, hr5⟩; have HR5 := hid hr5; clear hr5))
      go_ret
      obtain ⟨L', V', r5⟩ := HR5.out
      exact ⟨rfl, D, S, L', V', _, r5, HS.out.mono (by omega), by simp⟩
end Go.Proofs.Ytclmmncadlbaiaa
